/-
  Numbers shown in a base, as plain lists of bytes: the digits, that they are read back as the number, and that unlike numbers have unlike texts. No Go text in sight; bases from 2 to 36.
-/
import Derived.Test.YtaiimfdcbdfbdaaDoorDgs
namespace Go.Proofs.YtaiimfdcbdfbdaaDoor
open Go.ChangeShapes Go.WideShapes Go.ChangeAt Go.RowKit
set_option linter.unusedVariables false
set_option linter.unusedSimpArgs false

/-- bytes of numbers -/
def toB (l : List Int) : ByteArray := ⟨(l.map fun x => UInt8.ofNat x.toNat).toArray⟩
theorem toB_L (t : ByteArray) : toB (L t) = t := by
  obtain ⟨⟨l⟩⟩ := t
  simp [toB, L, Function.comp_def]
theorem L_toB (l : List Int) (h : ∀ x ∈ l, 0 ≤ x ∧ x < 256) : L (toB l) = l := by
  simp only [L, toB, List.map_map]
  conv => rhs; rw [← List.map_id l]
  apply List.map_congr_left
  intro x hx
  have := h x hx
  simp [UInt8.toNat_ofNat']
  omega
theorem L_eq (t : ByteArray) (l : List Int) (h : L t = l) : t = toB l := by rw [← h, toB_L]
theorem L_app (s t : ByteArray) : L (s ++ t) = L s ++ L t := by simp [L]

/-- the digits of a number, the highest first -/
def shF (b : Int) : Nat → Int → List Int
  | 0, _ => []
  | f + 1, n => if n < b then [dg n] else shF b f (n / b) ++ [dg (n % b)]
def sh (b n : Int) : List Int := shF b 32 n
theorem shF_lo (b n : Int) (f : Nat) (h : n < b) : shF b (f + 1) n = [dg n] := by simp [shF, h]
theorem shF_hi (b n : Int) (f : Nat) (h : ¬ n < b) : shF b (f + 1) n = shF b f (n / b) ++ [dg (n % b)] := by simp [shF, h]
theorem div_half (n b : Int) (h0 : 0 ≤ n) (b0 : 2 ≤ b) : 0 ≤ n / b ∧ n / b * 2 ≤ n ∧ 0 ≤ n % b ∧ n % b < b := by
  have h1 : n / b * b ≤ n := Int.ediv_mul_le n (by omega)
  have h2 : 0 ≤ n / b := Int.ediv_nonneg h0 (by omega)
  have h3 : n / b * 2 ≤ n / b * b := Int.mul_le_mul_of_nonneg_left b0 h2
  exact ⟨h2, by omega, Int.emod_nonneg n (by omega), Int.emod_lt_of_pos n (by omega)⟩
theorem div_pos (n b : Int) (b0 : 2 ≤ b) (h : ¬ n < b) : 0 < n / b := by
  have : 1 ≤ n / b := Int.le_ediv_of_mul_le (by omega) (by omega)
  omega
theorem dg_isD (b k : Int) (b0 : 2 ≤ b) (b1 : b ≤ 36) (k0 : 0 ≤ k) (k1 : k < b) : isD (dg k) b = true ∧ vl (dg k) b = k ∧ 0 ≤ dg k ∧ dg k < 256 ∧ ¬ dg k = 45 := by
  have e : dv (dg k) = k := by unfold dg dv; omega
  have d : isD (dg k) b = true := by unfold isD; rw [e]; simp; omega
  refine ⟨d, by unfold vl; rw [if_pos d, e], ?_, ?_, ?_⟩ <;> (unfold dg; omega)

theorem shF_len (b : Int) (f : Nat) : ∀ n, (shF b f n).length ≤ f := by
  induction f with
  | zero => intro n; simp [shF]
  | succ f ih =>
    intro n
    have := ih (n / b)
    unfold shF
    split <;> simp <;> omega
theorem toB_size (l : List Int) : (toB l).size = l.length := by simp [toB, ByteArray.size]
theorem toB_cons (x : Int) (l : List Int) : toB [x] ++ toB l = toB (x :: l) := by
  simp [toB, ByteArray.ext_iff]

/-- what is shown: digits of the base, at least one, the first no sign, read back as the number -/
theorem shF_all (b : Int) (b0 : 2 ≤ b) (b1 : b ≤ 36) (f : Nat) : ∀ n : Int, 0 ≤ n → n < 2 ^ f → 0 < f →
    allD b (shF b f n) = true ∧ num b (shF b f n) = n ∧ (∀ x ∈ shF b f n, 0 ≤ x ∧ x < 256 ∧ ¬ x = 45) ∧ shF b f n ≠ [] := by
  induction f with
  | zero => intro n _ _ h; omega
  | succ f ih =>
    intro n h0 h1 _
    by_cases c : n < b
    · rw [shF_lo b n f c]
      obtain ⟨d1, d2, d3, d4, d5⟩ := dg_isD b n b0 b1 h0 c
      refine ⟨by simp [allD, d1], by simp [num, d2], ?_, by simp⟩
      intro x hx
      simp at hx
      subst hx
      exact ⟨d3, d4, d5⟩
    · obtain ⟨q0, q1, r0, r1⟩ := div_half n b h0 b0
      have qp := div_pos n b b0 c
      have hp : (2 : Int) ^ (f + 1) = 2 ^ f * 2 := Int.pow_succ 2 f
      have hf : 0 < f := by
        rcases Nat.eq_zero_or_pos f with h | h
        · subst h; simp at h1; omega
        · exact h
      obtain ⟨i1, i2, i3, i4⟩ := ih (n / b) q0 (by omega) hf
      obtain ⟨d1, d2, d3, d4, d5⟩ := dg_isD b (n % b) b0 b1 r0 r1
      rw [shF_hi b n f c]
      refine ⟨by rw [allD_snoc, i1, d1]; rfl, ?_, ?_, by simp⟩
      · rw [num_snoc, i2, d2]
        exact Int.ediv_mul_add_emod n b
      · intro x hx
        rw [List.mem_append] at hx
        rcases hx with hx | hx
        · exact i3 x hx
        · simp at hx
          subst hx
          exact ⟨d3, d4, d5⟩
theorem sh_all (b n : Int) (b0 : 2 ≤ b) (b1 : b ≤ 36) (h0 : 0 ≤ n) (h1 : n < 4294967296) :
    allD b (sh b n) = true ∧ num b (sh b n) = n ∧ (∀ x ∈ sh b n, 0 ≤ x ∧ x < 256 ∧ ¬ x = 45) ∧ sh b n ≠ [] :=
  shF_all b b0 b1 32 n h0 (by simpa using h1) (by decide)
theorem sh_L (b n : Int) (b0 : 2 ≤ b) (b1 : b ≤ 36) (h0 : 0 ≤ n) (h1 : n < 4294967296) : L (toB (sh b n)) = sh b n :=
  L_toB _ fun x hx => ⟨((sh_all b n b0 b1 h0 h1).2.2.1 x hx).1, ((sh_all b n b0 b1 h0 h1).2.2.1 x hx).2.1⟩
theorem sh_back (b n : Int) (b0 : 2 ≤ b) (b1 : b ≤ 36) (h0 : 0 ≤ n) (h1 : n < 4294967296) : prs (sh b n) b = (n, 0) := by
  obtain ⟨i1, i2, i3, i4⟩ := sh_all b n b0 b1 h0 h1
  have hh : ¬ (sh b n).head? = some 45 := by
    intro h
    have := List.mem_of_mem_head? h
    exact (i3 45 this).2.2 rfl
  unfold prs
  rw [if_neg (by omega), if_neg hh]
  unfold prsT
  rw [if_neg i4, if_neg (by rw [i1]; decide), if_neg (by rw [i2]; omega), i2]
  simp
/-- the sign ahead -/
def sg (b n : Int) : List Int := if n < 2147483648 then sh b n else 45 :: sh b (4294967296 - n)
theorem sg_back (b n : Int) (b0 : 2 ≤ b) (b1 : b ≤ 36) (h0 : 0 ≤ n) (h1 : n < 4294967296) : prs (sg b n) b = (n, 0) := by
  unfold sg
  by_cases c : n < 2147483648
  · rw [if_pos c]; exact sh_back b n b0 b1 h0 h1
  · rw [if_neg c]
    obtain ⟨i1, i2, i3, i4⟩ := sh_all b (4294967296 - n) b0 b1 (by omega) (by omega)
    unfold prs
    rw [if_neg (by omega), if_pos (by simp)]
    unfold prsT
    simp only [List.tail_cons]
    rw [if_neg i4, if_neg (by rw [i1]; decide), if_neg (by rw [i2]; omega), i2]
    simp
    omega
theorem sg_bytes (b n : Int) (b0 : 2 ≤ b) (b1 : b ≤ 36) (h0 : 0 ≤ n) (h1 : n < 4294967296) : L (toB (sg b n)) = sg b n := by
  apply L_toB
  intro x hx
  unfold sg at hx
  by_cases c : n < 2147483648
  · rw [if_pos c] at hx
    have := (sh_all b n b0 b1 h0 h1).2.2.1 x hx
    exact ⟨this.1, this.2.1⟩
  · rw [if_neg c] at hx
    simp at hx
    rcases hx with rfl | hx
    · omega
    · have := (sh_all b (4294967296 - n) b0 b1 (by omega) (by omega)).2.2.1 x hx
      exact ⟨this.1, this.2.1⟩
theorem sh_inj (b n m : Int) (b0 : 2 ≤ b) (b1 : b ≤ 36) (h0 : 0 ≤ n) (h1 : n < 4294967296) (g0 : 0 ≤ m) (g1 : m < 4294967296) : sh b n = sh b m ↔ n = m := by
  constructor
  · intro h
    have e1 := (sh_all b n b0 b1 h0 h1).2.1
    have e2 := (sh_all b m b0 b1 g0 g1).2.1
    rw [h] at e1
    omega
  · intro h; rw [h]
end Go.Proofs.YtaiimfdcbdfbdaaDoor
