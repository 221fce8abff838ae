/-
  Digits as plain functions of whole numbers: the value of a byte as a digit, and facts on them. No Go text in sight.
-/
import Derived.Test.YtaiimfdcbdfbdaaDoorSb
import Derived.Lib.Strings
namespace Go.Proofs.YtaiimfdcbdfbdaaDoor
open Go.ChangeShapes Go.WideShapes Go.ChangeAt Go.RowKit
set_option linter.unusedVariables false
set_option linter.unusedSimpArgs false

theorem ret_i {k : IntKind} {a b : Int} (h : a = b) : Ending.returned (.int k a) = .returned (.int k b) := by rw [h]
theorem ret_ii {k l : IntKind} {a b c d : Int} (h : a = b) (g : c = d) : Ending.returned (.tuple #[.int k a, .int l c]) = .returned (.tuple #[.int k b, .int l d]) := by rw [h, g]
theorem ret_ib {k : IntKind} {a b : Int} {c d : Bool} (h : a = b) (g : c = d) : Ending.returned (.tuple #[.int k a, .bool c]) = .returned (.tuple #[.int k b, .bool d]) := by rw [h, g]
theorem ret_si {l : IntKind} {s t : ByteArray} {c d : Int} (h : s = t) (g : c = d) : Ending.returned (.tuple #[.string s, .int l c]) = .returned (.tuple #[.string t, .int l d]) := by rw [h, g]
/-- all that was there is as it was -/
abbrev Gr (w w' : World) : Prop := Below w.heap.size w w'
theorem Gr.refl (w : World) : Gr w w := Below.refl _ _
theorem Gr.alloc {w w' : World} (h : Gr w w') (c : Array Value) (t : TypeId) : Gr w (w'.alloc (.cells c t)) := Below.alloc h h.size _
theorem grown_trans {a b c : World} (h : Gr a b) (g : Gr b c) : Gr a c := below_trans h g
theorem grown_drewN {W w' : World} (h : Gr W w') (n : Nat) : Gr W (w'.drewN n) := below_drewN h n
theorem u32_bounds {n : Int} (h : (Lit.int .u32 n).wf = true) : 0 ≤ n ∧ n < 4294967296 := by
  simp [Lit.wf, IntKind.min, IntKind.max, IntKind.bits, IntKind.signed] at h
  omega
theorem u8_bounds {n : Int} (h : (Lit.int .u8 n).wf = true) : 0 ≤ n ∧ n < 256 := by
  simp [Lit.wf, IntKind.min, IntKind.max, IntKind.bits, IntKind.signed] at h
  omega

/-- a great letter made small -/
def sm (c : Int) : Int := if 65 ≤ c ∧ c ≤ 90 then c + 32 else c
/-- the value of a byte as a digit; 99 where it is none -/
def dv (c : Int) : Int := if 48 ≤ c ∧ c ≤ 57 then c - 48 else if 97 ≤ c ∧ c ≤ 122 then c - 87 else if 65 ≤ c ∧ c ≤ 90 then c - 55 else 99
/-- the byte of a digit's value -/
def dg (k : Int) : Int := if k < 10 then 48 + k else 87 + k
/-- is it a digit of the base -/
def isD (c b : Int) : Bool := decide (2 ≤ b ∧ b ≤ 36 ∧ dv c < b)
def vl (c b : Int) : Int := if isD c b = true then dv c else 0
theorem sm_bd (c : Int) (h0 : 0 ≤ c) (h1 : c < 256) : 0 ≤ sm c ∧ sm c < 256 := by unfold sm; omega
theorem dv_bd (c : Int) (h0 : 0 ≤ c) (h1 : c < 256) : 0 ≤ dv c ∧ dv c ≤ 99 := by unfold dv; omega
theorem dg_hit (c k : Int) (h0 : 0 ≤ c) (h1 : c < 256) (k0 : 0 ≤ k) (k1 : k < 36) (h : dg k = sm c) : dv c = k := by
  unfold dg sm at h; unfold dv; omega
theorem dg_of (c : Int) (h0 : 0 ≤ c) (h1 : c < 256) (h : dv c < 36) : dg (dv c) = sm c := by
  unfold dv at h ⊢; unfold dg sm; omega
theorem isD_hit (c b k : Int) (h0 : 0 ≤ c) (h1 : c < 256) (b0 : 2 ≤ b) (b1 : b ≤ 36) (k0 : 0 ≤ k) (k1 : k < b) (h : dg k = sm c) : isD c b = true ∧ vl c b = k := by
  have e := dg_hit c k h0 h1 k0 (by omega) h
  have d : isD c b = true := by unfold isD; simp; omega
  exact ⟨d, by unfold vl; rw [if_pos d, e]⟩
theorem isD_miss (c b : Int) (h0 : 0 ≤ c) (h1 : c < 256) (h : ∀ j : Nat, (j : Int) < b → ¬ dg j = sm c) : isD c b = false ∧ vl c b = 0 := by
  have d : isD c b = false := by
    unfold isD
    simp
    intro b0 b1
    have hd := dv_bd c h0 h1
    by_cases hc : dv c < b
    · exfalso
      obtain ⟨n, hn⟩ := Int.eq_ofNat_of_zero_le hd.1
      exact h n (by omega) (by rw [← hn]; exact dg_of c h0 h1 (by omega))
    · omega
  exact ⟨d, by unfold vl; rw [if_neg (by rw [d]; decide)]⟩
theorem isD_unfit (c b : Int) (h : b < 2 ∨ 36 < b) : isD c b = false ∧ vl c b = 0 := by
  have d : isD c b = false := by unfold isD; simp; omega
  exact ⟨d, by unfold vl; rw [if_neg (by rw [d]; decide)]⟩
theorem vl_bd (c b : Int) (h0 : 0 ≤ c) (h1 : c < 256) : 0 ≤ vl c b ∧ vl c b ≤ 35 := by
  unfold vl isD
  have := dv_bd c h0 h1
  split
  · simp at *; omega
  · omega

/-- a text's bytes as numbers -/
def L (s : ByteArray) : List Int := s.data.toList.map fun c => (c.toNat : Int)
theorem L_len (s : ByteArray) : (L s).length = s.size := by simp [L]
theorem L_get (s : ByteArray) (k : Nat) (h : k < s.size) : (L s)[k]'(by rw [L_len]; exact h) = (s[k].toNat : Int) := by
  simp [L]; rfl
theorem L_take (s : ByteArray) (k : Nat) (h : k < s.size) : (L s).take (k + 1) = (L s).take k ++ [(s[k].toNat : Int)] := by
  rw [List.take_succ_eq_append_getElem (by rw [L_len]; exact h), L_get s k h]
theorem L_drop (s : ByteArray) (k : Nat) (h : k < s.size) : (L s).drop k = (s[k].toNat : Int) :: (L s).drop (k + 1) := by
  rw [List.drop_eq_getElem_cons (by rw [L_len]; exact h), L_get s k h]
theorem L_bd (s : ByteArray) (k : Nat) (h : k < s.size) : 0 ≤ (s[k].toNat : Int) ∧ (s[k].toNat : Int) < 256 := by
  have := s[k].toNat_lt; omega

theorem L_extract (s : ByteArray) (a b : Nat) (h : b ≤ s.size) : L (s.extract a b) = ((L s).drop a).take (b - a) := by
  unfold L
  rw [Lib.extract_data]
  rw [← List.map_drop, ← List.map_take]
theorem L_from (s : ByteArray) (a : Nat) : L (s.extract a s.size) = (L s).drop a := by
  rw [L_extract s a s.size (Nat.le_refl _)]
  exact List.take_of_length_le (by rw [List.length_drop, L_len]; exact Nat.le_refl _)
theorem L_tail (s : ByteArray) : L (s.extract 1 s.size) = (L s).tail := by
  rw [L_from]; simp

/-- the number of digits, as long as it may be -/
def num (b : Int) (l : List Int) : Int := l.foldl (fun a c => a * b + vl c b) 0
def allD (b : Int) (l : List Int) : Bool := l.all fun c => isD c b
theorem num_snoc (b : Int) (l : List Int) (c : Int) : num b (l ++ [c]) = num b l * b + vl c b := by simp [num]
theorem allD_snoc (b : Int) (l : List Int) (c : Int) : allD b (l ++ [c]) = (allD b l && isD c b) := by simp [allD]
theorem allD_mid (b : Int) (l m : List Int) (c : Int) (h : isD c b = false) : allD b (l ++ c :: m) = false := by simp [allD, h]
/-- a text of digits read, behind its sign -/
def prsT (neg : Bool) (l : List Int) (b : Int) : Int × Int :=
  if l = [] then (0, 15) else if allD b l = false then (0, 15) else if 4294967296 ≤ num b l then (0, 4) else
  (if neg = true then (4294967296 - num b l) % 4294967296 else num b l, 0)
/-- what Parse answers -/
def prs (l : List Int) (b : Int) : Int × Int :=
  if b < 2 ∨ 36 < b then (0, 1) else if l.head? = some 45 then prsT true l.tail b else prsT false l b
theorem mul_b (n b : Int) (h0 : 0 ≤ n) (h1 : n < 4294967296) (b0 : 2 ≤ b) (b1 : b ≤ 36) : n * 2 ≤ n * b ∧ n * b ≤ n * 36 :=
  ⟨Int.mul_le_mul_of_nonneg_left b0 h0, Int.mul_le_mul_of_nonneg_left b1 h0⟩
theorem mul_ge (m b : Int) (h0 : 4294967296 ≤ m) (b0 : 2 ≤ b) : 4294967296 ≤ m * b := by
  have : m * 2 ≤ m * b := Int.mul_le_mul_of_nonneg_left b0 (by omega)
  omega
end Go.Proofs.YtaiimfdcbdfbdaaDoor
