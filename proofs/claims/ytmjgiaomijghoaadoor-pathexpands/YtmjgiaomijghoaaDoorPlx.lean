/-
  strings.IndexAny of a slash or a colon: a text of more than eight bytes.
-/
import Derived.Test.YtmjgiaomijghoaaDoorPla
import Derived.Test.YtmjgiaomijghoaaDoorRa6
namespace Go.Proofs.YtmjgiaomijghoaaDoor
open Go.ChangeShapes Go.WideShapes Go.ChangeAt Go.RowKit
set_option linter.unusedVariables false
set_option linter.unusedSimpArgs false

/-- where a slash or a colon stands first: -1, or the place -/
def AtE (l : List Int) (i : Int) : Prop := (i = -1 ∧ exK l = l.length) ∨ ∃ k : Nat, i = k ∧ exK l = k ∧ k < l.length
def NoE (l : List Int) (k : Nat) : Prop := ∀ x ∈ l.take k, ¬ x = 47 ∧ ¬ x = 58
theorem upTo_pre (c : Int) (a b : List Int) (h : ∀ x ∈ a, ¬ x = c) : upTo c (a ++ b) = a ++ upTo c b := by
  induction a with
  | nil => rfl
  | cons x a ih =>
    have hx := h x (by simp)
    simp only [List.cons_append, upTo, if_neg hx]
    rw [ih fun y hy => h y (by simp [hy])]
theorem exK_pre (a b : List Int) (h : ∀ x ∈ a, ¬ x = 47 ∧ ¬ x = 58) : exK (a ++ b) = a.length + exK b := by
  unfold exK
  rw [upTo_pre 47 a b fun x hx => (h x hx).1, upTo_pre 58 a b fun x hx => (h x hx).2, List.length_append, List.length_append]
  omega
theorem exK_hit {l : List Int} {k : Nat} {x : Int} {r : List Int} (h : NoE l k) (hk : k < l.length) (hd : l.drop k = x :: r) (hx : x = 47 ∨ x = 58) : AtE l k := by
  refine Or.inr ⟨k, rfl, ?_, hk⟩
  have e : exK (x :: r) = 0 := by
    unfold exK
    rcases hx with rfl | rfl <;> simp [upTo]
  rw [← List.take_append_drop k l, exK_pre _ _ h, hd, e, List.length_take]
  omega
theorem exK_all {l : List Int} (h : NoE l l.length) : AtE l (-1) := by
  refine Or.inl ⟨rfl, ?_⟩
  have e := exK_pre l [] (fun x hx => h x (by rw [List.take_length]; exact hx))
  rw [List.append_nil] at e
  rw [e]
  rfl
theorem noE_snoc {l : List Int} {k : Nat} {x : Int} {r : List Int} (h : NoE l k) (hd : l.drop k = x :: r) (h1 : ¬ x = 47) (h2 : ¬ x = 58) : NoE l (k + 1) := by
  intro y hy
  have : l.take (k + 1) = l.take k ++ [x] := by
    rw [List.take_add, hd]
    rfl
  rw [this, List.mem_append, List.mem_singleton] at hy
  rcases hy with hy | rfl
  · exact h y hy
  · exact ⟨h1, h2⟩
theorem has_it (x : UInt8) : ([47, 58] : List UInt8).contains x = decide ((x.toNat : Int) = 47 ∨ (x.toNat : Int) = 58) := by
  rw [Bool.eq_iff_iff, decide_eq_true_iff]
  simp only [List.contains_cons, List.contains_nil, Bool.or_false, Bool.or_eq_true, beq_iff_eq]
  constructor
  · rintro (rfl | rfl)
    · exact Or.inl rfl
    · exact Or.inr rfl
  · rintro (h | h)
    · exact Or.inl (UInt8.toNat_inj.1 (by have : (47 : UInt8).toNat = 47 := rfl; omega))
    · exact Or.inr (UInt8.toNat_inj.1 (by have : (58 : UInt8).toNat = 58 := rfl; omega))

set_option maxHeartbeats 8000000 in
set_option maxRecDepth 1000000 in
theorem w_ixl (s : ByteArray) (w : World) (hs : s.size ≤ maxLen) (h8 : (8 : Int) < s.size) :
    Calls Tryd.prog 32 #[.string s, .string ⟨#[47, 58]⟩] w fun e w' => ∃ i, e = .returned (.int .i64 i) ∧ AtE (L s) i ∧ Below w.heap.size w w' := by
  have hs2 := hs
  unfold maxLen at hs2
  have hM := w_mkset w
  have h8z : decide ((8 : Int) < (s.size : Int)) = true := decide_eq_true h8
  have hone := Lib.setCells_one [47, 58]
  have hsz := Lib.setCells_size [47, 58]
  have hat := Lib.setCells_at [47, 58]
  obtain ⟨X, hX⟩ : ∃ X, Lib.setCells [47, 58] = X := ⟨_, rfl⟩
  rw [hX] at hM hone hsz
  simp only [hX] at hat
  clear hX
  have hsc : (storeCells ⟨w.heap.size + 1, 0, none⟩ X.toList 0).run Tryd.prog ((w.alloc (.cells X 77)).alloc (.cells Tryd.zeroCells77 77)) = .ok () ((w.alloc (.cells X 77)).alloc (.cells X 77)) := by
    have := run_storeCells_new (P := Tryd.prog) (w.alloc (.cells X 77)) 77 Tryd.zeroCells77 X (by rw [hsz]; exact infoSet) (by rw [hsz]; kernel_rfl) hone
    simpa using this
  have hcellAt : ∀ x : UInt8, ((w.alloc (.cells X 77)).alloc (.cells X 77)).cell? ⟨w.heap.size + 1, x.toNat, none⟩ = some (.bool (decide ((x.toNat : Int) = 47 ∨ (x.toNat : Int) = 58))) := fun x => by
    rw [World.cell?_alloc_at _ _ _ _ (by simp), hat, has_it]
  have HC := hid hcellAt
  have hbb : Below w.heap.size w ((w.alloc (.cells X 77)).alloc (.cells X 77)) := below_trans (box_below _ _) (box_below _ _)
  have HBB := hid hbb
  clear hcellAt hat hbb hone
  go_enter Tryd.func32, Tryd.ntmps32
  go_wp2_with (first
    | (go_at_call 48; refine (w_suas _ _).mono ?_; rintro e w' ⟨rfl, hw⟩; rw [hw, h8z])
    | (go_at_call 49; refine hM.mono ?_; rintro e w' ⟨rfl, hw⟩; rw [hw]))
  clear hM hsc
  obtain ⟨W, hW⟩ : ∃ W, ((w.alloc (.cells X 77)).alloc (.cells X 77)) = W := ⟨_, rfl⟩
  rw [hW] at HC HBB ⊢
  clear hW
  go_loopw [8] (fun I wx => ∃ k : Nat, (k : Int) ≤ s.size ∧ I = .int .i64 k ∧ Hid (NoE (L s) k) ∧ wx = W) (fun I _ => (s.size - intOf I).toNat)
  case atStart => exact ⟨0, by omega, rfl, hid (fun x hx => by simp at hx), rfl⟩
  case round =>
    obtain ⟨k, hk, rfl, hno, hwx⟩ := hrel
    subst hwx
    by_cases hlt : (k : Int) < s.size
    · have hkk : k < s.size := by omega
      have hcx := HC.out s[k]
      have hrun := run_at (w := wr) s k hkk hs
      have hd := L_drop s k hkk
      have ca := w_asc (w.heap.size + 1) s[k] _ wr hcx
      obtain ⟨x, hx⟩ : ∃ x, (s[k].toNat : Int) = x := ⟨_, rfl⟩
      rw [hx] at hrun hd ca
      by_cases hc : x = 47 ∨ x = 58
      · have hA : Hid (AtE (L s) k) := exK_hit hno.out (by rw [L_len]; exact hkk) hd hc
        rw [decide_eq_true hc] at ca
        clear hx hd hc hcx
        go_wp2_with (go_at_call 50; refine ca.mono ?_; rintro e w' ⟨rfl, hw⟩; rw [hw])
        go_ret
        exact ⟨_, rfl, hA.out, HBB.out⟩
      · have hno2 : Hid (NoE (L s) (k + 1)) := noE_snoc hno.out hd (fun h => hc (Or.inl h)) (fun h => hc (Or.inr h))
        rw [decide_eq_false hc] at ca
        clear hx hd hc hcx
        go_wp2_with (go_at_call 50; refine ca.mono ?_; rintro e w' ⟨rfl, hw⟩; rw [hw])
        go_roundw
        case rel => exact ⟨k + 1, by omega, by go_num, hno2, by first | rfl | trivial⟩
        case measure => simp [intOf]; omega
    · have hA : Hid (AtE (L s) (-1)) := exK_all (by rw [L_len, show s.size = k by omega]; exact hno.out)
      go_wp2_with fail
      go_ret
      exact ⟨_, rfl, hA.out, HBB.out⟩
end Go.Proofs.YtmjgiaomijghoaaDoor
