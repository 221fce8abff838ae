/-
  What the words that turn a stack come to: below what a word takes nothing changes; words that undo one another. Plain lists, no Go text in sight.
-/
import Derived.Test.YtefiohepglggdaaDoorPst
namespace Go.Proofs.YtefiohepglggdaaDoor
set_option linter.unusedVariables false
set_option linter.unusedSimpArgs false

theorem fits_ok (out x : List Int) (h : fits out = (x, 0)) : out = x ∧ out.length ≤ 64 := by
  unfold fits at h
  by_cases c : 64 < out.length
  · rw [if_pos c] at h; simp at h
  · rw [if_neg c] at h; simp at h; exact ⟨h, by omega⟩
theorem fits_le (out : List Int) (h : out.length ≤ 64) : fits out = (out, 0) := by unfold fits; rw [if_neg (by omega)]
theorem fits_gt (out : List Int) (h : 64 < out.length) : fits out = ([], 6) := by unfold fits; rw [if_pos h]

theorem pickL_up (b l : List Int) (p : Nat) (ls : List Int) : pickL (b ++ l) (b.length + p) ls = pickL l p ls := by
  unfold pickL
  apply List.map_congr_left
  intro c _
  rw [List.getD_eq_getElem?_getD, List.getD_eq_getElem?_getD, List.getElem?_append_right (by omega)]
  congr 2
  omega
theorem getD_up (b l : List Int) (i : Nat) : (b ++ l).getD (b.length + i) 0 = l.getD i 0 := by
  rw [List.getD_eq_getElem?_getD, List.getD_eq_getElem?_getD, List.getElem?_append_right (by omega)]
  congr 2
  omega
theorem take_up (b l : List Int) (i : Nat) : (b ++ l).take (b.length + i) = b ++ l.take i := by
  rw [List.take_append, List.take_of_length_le (by omega)]
  congr 2
  omega
theorem drop_up (b l : List Int) (i : Nat) : (b ++ l).drop (b.length + i) = l.drop i := by
  rw [List.drop_append, List.drop_eq_nil_of_le (by omega)]
  simp
theorem pick_size (op : Int) (h : isT op = true) (xs : List Int) (p : Nat) : ((pickL xs p (LB (effS op))).length : Int) ≤ effT op + 2 := by
  have hf : ∀ (a b : List Int), (pickL xs p (a ++ b)).length = (pickL xs p a).length + (pickL xs p b).length := by intro a b; simp [pickL]
  have : (pickL xs p (LB (effS op))).length = ((LB (effS op)).filter fun c => decide (c ≠ 32)).length := by simp [pickL]
  rw [this]
  rcases isT_cases op h with rfl | rfl | rfl | rfl | rfl | rfl | rfl | rfl | rfl | rfl | rfl | rfl | rfl <;> decide

/-- what stands below is neither read nor changed -/
theorem doF_below (op : Int) (b l x : List Int) (h0 : ∀ y ∈ l, 0 ≤ y) (hop : ¬ op = 81) (hb : b.length + l.length ≤ 64) (h : doF op l = (x, 0)) :
    (doF op (b ++ l) = ([], 6) ∧ 64 < b.length + l.length + 2) ∨ doF op (b ++ l) = (b ++ x, 0) := by
  have hn1 : ¬ 64 < l.length := by omega
  have hn2 : ¬ 64 < (b ++ l).length := by simp; omega
  unfold doF at h ⊢
  rw [if_neg hn1] at h
  rw [if_neg hn2]
  by_cases ht : isT op = true
  · rw [if_pos ht] at h ⊢
    have ht1 := (eff_letters op ht).2.2.2
    unfold doT at h ⊢
    by_cases hu : (l.length : Int) < effT op
    · rw [if_pos hu] at h; simp at h
    · rw [if_neg hu] at h
      rw [if_neg (by simp; omega)]
      obtain ⟨h1, h2⟩ := fits_ok _ _ h
      have e : (b ++ l).length - (effT op).toNat = b.length + (l.length - (effT op).toNat) := by simp; omega
      rw [e, take_up, pickL_up, List.append_assoc, h1]
      have hs := pick_size op ht l (l.length - (effT op).toNat)
      have hx : (x.length : Int) ≤ l.length + 2 := by rw [← h1]; simp; omega
      by_cases hg : 64 < (b ++ x).length
      · left; exact ⟨fits_gt _ hg, by simp at hg; omega⟩
      · right; exact fits_le _ (by omega)
  · rw [if_neg ht] at h ⊢
    by_cases h80 : op = 80
    · rw [if_pos h80] at h ⊢
      unfold doQ at h ⊢
      by_cases hu : (l.length : Int) < 1
      · rw [if_pos hu] at h; simp at h
      · rw [if_neg hu] at h
        rw [if_neg (by simp; omega)]
        obtain ⟨h1, h2⟩ := fits_ok _ _ h
        have e : (b ++ l).length - 1 = b.length + (l.length - 1) := by simp; omega
        rw [e, getD_up, List.append_assoc, h1]
        have hx : x.length ≤ l.length + 1 := by rw [← h1]; split <;> simp
        by_cases hg : 64 < (b ++ x).length
        · left; exact ⟨fits_gt _ hg, by simp at hg; omega⟩
        · right; exact fits_le _ (by omega)
    · rw [if_neg h80, if_neg hop] at h ⊢
      have hfar : far l = false → far (b ++ l) = false ∧ plc (b ++ l) = b.length + plc l ∧ plc l + 2 ≤ l.length := by
        intro hf
        unfold far at hf ⊢
        have := of_decide_eq_false hf
        unfold plc
        have e : (b ++ l).length - 1 = b.length + (l.length - 1) := by simp; omega
        rw [e, getD_up]
        have hy : 0 ≤ l.getD (l.length - 1) 0 := by
          rw [List.getD_eq_getElem?_getD, List.getElem?_eq_getElem (by omega)]
          exact h0 _ (List.getElem_mem _)
        rw [List.length_append]
        refine ⟨decide_eq_false (by omega), by omega, by omega⟩
      by_cases h78 : op = 78
      · rw [if_pos h78] at h ⊢
        unfold doP at h ⊢
        cases hf : far l with
        | true => rw [if_pos hf] at h; simp at h
        | false =>
          obtain ⟨f1, f2, f3⟩ := hfar hf
          rw [if_neg (by rw [hf]; decide)] at h
          rw [if_neg (by rw [f1]; decide)]
          obtain ⟨h1, h2⟩ := fits_ok _ _ h
          have e : (b ++ l).length - 1 = b.length + (l.length - 1) := by simp; omega
          rw [e, take_up, f2, getD_up, List.append_assoc, h1]
          have hx : x.length ≤ l.length := by rw [← h1]; simp; omega
          right; exact fits_le _ (by simp; omega)
      · rw [if_neg h78] at h ⊢
        by_cases h79 : op = 79
        · rw [if_pos h79] at h ⊢
          unfold doR at h ⊢
          cases hf : far l with
          | true => rw [if_pos hf] at h; simp at h
          | false =>
            obtain ⟨f1, f2, f3⟩ := hfar hf
            rw [if_neg (by rw [hf]; decide)] at h
            rw [if_neg (by rw [f1]; decide)]
            obtain ⟨h1, h2⟩ := fits_ok _ _ h
            have e : (b ++ l).length - 2 - (b.length + plc l) = l.length - 2 - plc l := by simp; omega
            rw [f2, e, take_up, getD_up, show b.length + plc l + 1 = b.length + (plc l + 1) by omega, drop_up, List.append_assoc, List.append_assoc, ← List.append_assoc (l.take (plc l)), h1]
            have hx : x.length ≤ l.length := by rw [← h1]; simp; omega
            right; exact fits_le _ (by simp; omega)
        · rw [if_neg h79] at h; simp at h

theorem fits_len (l : List Int) : (fits l).1.length ≤ 64 := by
  unfold fits; split
  · simp
  · simp; omega
theorem doF_len (op : Int) (l x : List Int) (h : doF op l = (x, 0)) : x.length ≤ 64 := by
  have e : (doF op l).1 = x := by rw [h]
  rw [← e]
  unfold doF doT doQ doP doR
  repeat' first | exact fits_len _ | exact Nat.zero_le _ | split
/-- cells stay cells -/
def cells (l : List Int) : Prop := ∀ x ∈ l, 0 ≤ x ∧ x < 4294967296
theorem cells_getD (l : List Int) (h : cells l) (i : Nat) : 0 ≤ l.getD i 0 ∧ l.getD i 0 < 4294967296 := by
  rw [List.getD_eq_getElem?_getD]
  rcases Nat.lt_or_ge i l.length with hi | hi
  · rw [List.getElem?_eq_getElem hi]; exact h _ (List.getElem_mem _)
  · rw [List.getElem?_eq_none hi]; decide
theorem cells_app {a b : List Int} (h : cells a) (g : cells b) : cells (a ++ b) := by
  intro x hx
  rw [List.mem_append] at hx
  rcases hx with hx | hx
  · exact h x hx
  · exact g x hx
theorem cells_take {a : List Int} (h : cells a) (n : Nat) : cells (a.take n) := fun x hx => h x (List.mem_of_mem_take hx)
theorem cells_drop {a : List Int} (h : cells a) (n : Nat) : cells (a.drop n) := fun x hx => h x (List.mem_of_mem_drop hx)
theorem cells_one {y : Int} (h : 0 ≤ y ∧ y < 4294967296) : cells [y] := by intro x hx; simp at hx; subst hx; exact h
theorem cells_nil : cells [] := by intro x hx; simp at hx
theorem cells_pick {l : List Int} (h : cells l) (p : Nat) (ls : List Int) : cells (pickL l p ls) := by
  intro x hx
  unfold pickL at hx
  rw [List.mem_map] at hx
  obtain ⟨c, _, rfl⟩ := hx
  exact cells_getD l h _
theorem cells_fits {l : List Int} (h : cells l) : cells (fits l).1 := by
  unfold fits; split
  · exact cells_nil
  · exact h
theorem cells_do (op : Int) (l : List Int) (h : cells l) : cells (doF op l).1 := by
  unfold doF
  by_cases hl : 64 < l.length
  · rw [if_pos hl]; exact cells_nil
  rw [if_neg hl]
  by_cases ht : isT op = true
  · rw [if_pos ht]; unfold doT
    split
    · exact cells_nil
    · exact cells_fits (cells_app (cells_take h _) (cells_pick h _ _))
  rw [if_neg ht]
  by_cases h80 : op = 80
  · rw [if_pos h80]; unfold doQ
    split
    · exact cells_nil
    · refine cells_fits (cells_app h ?_)
      split
      · exact cells_nil
      · exact cells_one (cells_getD l h _)
  rw [if_neg h80]
  by_cases h81 : op = 81
  · rw [if_pos h81]; exact cells_fits (cells_app h (cells_one (by omega)))
  rw [if_neg h81]
  by_cases h78 : op = 78
  · rw [if_pos h78]; unfold doP
    split
    · exact cells_nil
    · exact cells_fits (cells_app (cells_take h _) (cells_one (cells_getD l h _)))
  rw [if_neg h78]
  by_cases h79 : op = 79
  · rw [if_pos h79]; unfold doR
    split
    · exact cells_nil
    · exact cells_fits (cells_app (cells_app (cells_take h _) (cells_take (cells_drop h _) _)) (cells_one (cells_getD l h _)))
  rw [if_neg h79]; exact cells_nil

/-! words done one behind the other -/
theorem doT_at (p q : List Int) (ls : List Int) : doT (p ++ q) (q.length : Int) ls = fits (p ++ pickL q 0 ls) := by
  unfold doT
  rw [if_neg (by simp; omega)]
  have e : (p ++ q).length - ((q.length : Int)).toNat = p.length := by simp
  rw [e]
  have e2 : (p ++ q).take p.length = p := by simp
  have e3 := pickL_up p q 0 ls
  rw [Nat.add_zero] at e3
  rw [e2, e3]
/-- a word of the table on a list whose top cells are written out -/
theorem doF_at (op : Int) (p q : List Int) (h : isT op = true) (hq : (q.length : Int) = effT op) (hl : (p ++ q).length ≤ 64) : doF op (p ++ q) = fits (p ++ pickL q 0 (LB (effS op))) := by
  unfold doF
  rw [if_neg (by omega), if_pos h, ← hq, doT_at]
theorem doF_under (op : Int) (l : List Int) (h : isT op = true) (hq : (l.length : Int) < effT op) (hl : l.length ≤ 64) : doF op l = ([], 5) := by
  unfold doF doT
  rw [if_neg (by omega), if_pos h, if_pos hq]
theorem tops (l : List Int) (n : Nat) (h : n ≤ l.length) : ∃ p q, l = p ++ q ∧ q.length = n :=
  ⟨l.take (l.length - n), l.drop (l.length - n), by rw [List.take_append_drop], by simp; omega⟩
/-- the first word is refused for a reason that the list has -/
def refd (r : List Int × Int) (l : List Int) : Prop := r.1 = [] ∧ ((r.2 = 1 ∧ 64 < l.length) ∨ (r.2 = 5 ∧ l.length < 6) ∨ (r.2 = 6 ∧ 62 < l.length))
/-- a row of words leaves the list as it was, or its first word is refused -/
def turns (ops : List Int) (l : List Int) : Prop :=
  refd (doF (ops.getD 0 0) l) l ∨ ∃ st : Nat → List Int, st 0 = l ∧ st ops.length = l ∧ ∀ k, k < ops.length → doF (ops.getD k 0) (st k) = (st (k + 1), 0)
theorem turns2 (a b : Int) (l m : List Int) (h1 : doF a l = (m, 0)) (h2 : doF b m = (l, 0)) : turns [a, b] l :=
  Or.inr ⟨fun k => if k = 1 then m else l, rfl, rfl, fun k hk => by
    have : k = 0 ∨ k = 1 := by simp at hk; omega
    rcases this with rfl | rfl
    · exact h1
    · exact h2⟩
theorem turns3 (a b c : Int) (l m n : List Int) (h1 : doF a l = (m, 0)) (h2 : doF b m = (n, 0)) (h3 : doF c n = (l, 0)) : turns [a, b, c] l :=
  Or.inr ⟨fun k => if k = 1 then m else if k = 2 then n else l, rfl, rfl, fun k hk => by
    have : k = 0 ∨ k = 1 ∨ k = 2 := by simp at hk; omega
    rcases this with rfl | rfl | rfl
    · exact h1
    · exact h2
    · exact h3⟩
theorem doF_long (op : Int) (l : List Int) (h : 64 < l.length) : doF op l = ([], 1) := by unfold doF; rw [if_pos h]
theorem refd_long (op : Int) (l : List Int) (h : 64 < l.length) : refd (doF op l) l := by rw [doF_long op l h]; exact ⟨rfl, Or.inl ⟨rfl, h⟩⟩
theorem refd_under (op : Int) (l : List Int) (h : isT op = true) (hq : (l.length : Int) < effT op) (hl : l.length ≤ 64) : refd (doF op l) l := by
  rw [doF_under op l h hq hl]
  exact ⟨rfl, Or.inr (Or.inl ⟨rfl, by have := (eff_letters op h).2.2.2.2; omega⟩)⟩
theorem two {q : List Int} (h : q.length = 2) : ∃ a b, q = [a, b] := by
  match q, h with
  | [a, b], _ => exact ⟨a, b, rfl⟩
theorem one1 {q : List Int} (h : q.length = 1) : ∃ a, q = [a] := by
  match q, h with
  | [a], _ => exact ⟨a, rfl⟩
theorem three {q : List Int} (h : q.length = 3) : ∃ a b c, q = [a, b, c] := by
  match q, h with
  | [a, b, c], _ => exact ⟨a, b, c, rfl⟩
theorem four {q : List Int} (h : q.length = 4) : ∃ a b c d, q = [a, b, c, d] := by
  match q, h with
  | [a, b, c, d], _ => exact ⟨a, b, c, d, rfl⟩
theorem six {q : List Int} (h : q.length = 6) : ∃ a b c d e f, q = [a, b, c, d, e, f] := by
  match q, h with
  | [a, b, c, d, e, f], _ => exact ⟨a, b, c, d, e, f, rfl⟩
/-- a word of the table that leaves as many cells as it takes, or fewer -/
theorem step (op : Int) (p q r : List Int) (h : isT op = true) (hq : (q.length : Int) = effT op) (hr : pickL q 0 (LB (effS op)) = r) (hl : (p ++ q).length ≤ 64) (hl2 : (p ++ r).length ≤ 64) : doF op (p ++ q) = (p ++ r, 0) := by
  rw [doF_at op p q h hq hl, hr, fits_le _ hl2]
theorem stepo (op : Int) (p q r : List Int) (h : isT op = true) (hq : (q.length : Int) = effT op) (hr : pickL q 0 (LB (effS op)) = r) (hl : (p ++ q).length ≤ 64) (hl2 : 64 < (p ++ r).length) : doF op (p ++ q) = ([], 6) := by
  rw [doF_at op p q h hq hl, hr, fits_gt _ hl2]

theorem t_swap (l : List Int) : turns [73, 73] l := by
  by_cases h : 64 < l.length
  · exact Or.inl (refd_long 73 l h)
  by_cases hu : (l.length : Int) < 2
  · exact Or.inl (refd_under 73 l rfl hu (by omega))
  obtain ⟨p, q, rfl, hq⟩ := tops l 2 (by omega)
  obtain ⟨a, b, rfl⟩ := two hq
  simp at h
  exact turns2 _ _ _ (p ++ [b, a]) (step 73 p [a, b] [b, a] rfl rfl rfl (by simp; omega) (by simp; omega)) (step 73 p [b, a] [a, b] rfl rfl rfl (by simp; omega) (by simp; omega))
theorem t_2swap (l : List Int) : turns [85, 85] l := by
  by_cases h : 64 < l.length
  · exact Or.inl (refd_long 85 l h)
  by_cases hu : (l.length : Int) < 4
  · exact Or.inl (refd_under 85 l rfl hu (by omega))
  obtain ⟨p, q, rfl, hq⟩ := tops l 4 (by omega)
  obtain ⟨a, b, c, d, rfl⟩ := four hq
  simp at h
  exact turns2 _ _ _ (p ++ [c, d, a, b]) (step 85 p [a, b, c, d] [c, d, a, b] rfl rfl rfl (by simp; omega) (by simp; omega)) (step 85 p [c, d, a, b] [a, b, c, d] rfl rfl rfl (by simp; omega) (by simp; omega))
theorem t_rot (l : List Int) : turns [74, 74, 74] l ∧ turns [74, 75] l ∧ turns [75, 74] l := by
  by_cases h : 64 < l.length
  · exact ⟨Or.inl (refd_long 74 l h), Or.inl (refd_long 74 l h), Or.inl (refd_long 75 l h)⟩
  by_cases hu : (l.length : Int) < 3
  · exact ⟨Or.inl (refd_under 74 l rfl hu (by omega)), Or.inl (refd_under 74 l rfl hu (by omega)), Or.inl (refd_under 75 l rfl hu (by omega))⟩
  obtain ⟨p, q, rfl, hq⟩ := tops l 3 (by omega)
  obtain ⟨a, b, c, rfl⟩ := three hq
  simp at h
  have r1 := step 74 p [a, b, c] [b, c, a] rfl rfl rfl (by simp; omega) (by simp; omega)
  have r2 := step 74 p [b, c, a] [c, a, b] rfl rfl rfl (by simp; omega) (by simp; omega)
  have r3 := step 74 p [c, a, b] [a, b, c] rfl rfl rfl (by simp; omega) (by simp; omega)
  have n1 := step 75 p [b, c, a] [a, b, c] rfl rfl rfl (by simp; omega) (by simp; omega)
  have n2 := step 75 p [a, b, c] [c, a, b] rfl rfl rfl (by simp; omega) (by simp; omega)
  exact ⟨turns3 _ _ _ _ _ _ r1 r2 r3, turns2 _ _ _ _ r1 n1, turns2 _ _ _ _ n2 r3⟩
theorem t_2rot (l : List Int) : turns [86, 86, 86] l := by
  by_cases h : 64 < l.length
  · exact Or.inl (refd_long 86 l h)
  by_cases hu : (l.length : Int) < 6
  · exact Or.inl (refd_under 86 l rfl hu (by omega))
  obtain ⟨p, q, rfl, hq⟩ := tops l 6 (by omega)
  obtain ⟨a, b, c, d, e, f, rfl⟩ := six hq
  simp at h
  exact turns3 _ _ _ _ _ _ (step 86 p [a, b, c, d, e, f] [c, d, e, f, a, b] rfl rfl rfl (by simp; omega) (by simp; omega)) (step 86 p [c, d, e, f, a, b] [e, f, a, b, c, d] rfl rfl rfl (by simp; omega) (by simp; omega)) (step 86 p [e, f, a, b, c, d] [a, b, c, d, e, f] rfl rfl rfl (by simp; omega) (by simp; omega))
theorem refd_over (op : Int) (p q r : List Int) (h : isT op = true) (hq : (q.length : Int) = effT op) (hr : pickL q 0 (LB (effS op)) = r) (hl : (p ++ q).length ≤ 64) (hl2 : 64 < (p ++ r).length) (hr2 : r.length ≤ q.length + 2) : refd (doF op (p ++ q)) (p ++ q) := by
  rw [stepo op p q r h hq hr hl hl2]
  exact ⟨rfl, Or.inr (Or.inr ⟨rfl, by simp at hl2 ⊢; omega⟩)⟩
theorem t_dup (l : List Int) : turns [71, 70] l := by
  by_cases h : 64 < l.length
  · exact Or.inl (refd_long 71 l h)
  by_cases hu : (l.length : Int) < 1
  · exact Or.inl (refd_under 71 l rfl hu (by omega))
  obtain ⟨p, q, rfl, hq⟩ := tops l 1 (by omega)
  obtain ⟨a, rfl⟩ := one1 hq
  by_cases ho : 64 < (p ++ [a, a]).length
  · exact Or.inl (refd_over 71 p [a] [a, a] rfl rfl rfl (by omega) ho (by simp))
  · have e : p ++ [a, a] = (p ++ [a]) ++ [a] := by simp
    refine turns2 _ _ _ (p ++ [a, a]) (step 71 p [a] [a, a] rfl rfl rfl (by omega) (by omega)) ?_
    rw [e]
    have := step 70 (p ++ [a]) [a] [] rfl rfl rfl (by rw [← e]; omega) (by simpa using h)
    simpa using this
theorem t_2dup (l : List Int) : turns [83, 82] l := by
  by_cases h : 64 < l.length
  · exact Or.inl (refd_long 83 l h)
  by_cases hu : (l.length : Int) < 2
  · exact Or.inl (refd_under 83 l rfl hu (by omega))
  obtain ⟨p, q, rfl, hq⟩ := tops l 2 (by omega)
  obtain ⟨a, b, rfl⟩ := two hq
  by_cases ho : 64 < (p ++ [a, b, a, b]).length
  · exact Or.inl (refd_over 83 p [a, b] [a, b, a, b] rfl rfl rfl (by omega) ho (by simp))
  · have e : p ++ [a, b, a, b] = (p ++ [a, b]) ++ [a, b] := by simp
    refine turns2 _ _ _ (p ++ [a, b, a, b]) (step 83 p [a, b] [a, b, a, b] rfl rfl rfl (by omega) (by omega)) ?_
    rw [e]
    have := step 82 (p ++ [a, b]) [a, b] [] rfl rfl rfl (by rw [← e]; omega) (by simpa using h)
    simpa using this
theorem t_over (l : List Int) : turns [72, 70] l := by
  by_cases h : 64 < l.length
  · exact Or.inl (refd_long 72 l h)
  by_cases hu : (l.length : Int) < 2
  · exact Or.inl (refd_under 72 l rfl hu (by omega))
  obtain ⟨p, q, rfl, hq⟩ := tops l 2 (by omega)
  obtain ⟨a, b, rfl⟩ := two hq
  by_cases ho : 64 < (p ++ [a, b, a]).length
  · exact Or.inl (refd_over 72 p [a, b] [a, b, a] rfl rfl rfl (by omega) ho (by simp))
  · have e : p ++ [a, b, a] = (p ++ [a, b]) ++ [a] := by simp
    refine turns2 _ _ _ (p ++ [a, b, a]) (step 72 p [a, b] [a, b, a] rfl rfl rfl (by omega) (by omega)) ?_
    rw [e]
    have := step 70 (p ++ [a, b]) [a] [] rfl rfl rfl (by rw [← e]; omega) (by simpa using h)
    simpa using this
theorem t_2over (l : List Int) : turns [84, 82] l := by
  by_cases h : 64 < l.length
  · exact Or.inl (refd_long 84 l h)
  by_cases hu : (l.length : Int) < 4
  · exact Or.inl (refd_under 84 l rfl hu (by omega))
  obtain ⟨p, q, rfl, hq⟩ := tops l 4 (by omega)
  obtain ⟨a, b, c, d, rfl⟩ := four hq
  by_cases ho : 64 < (p ++ [a, b, c, d, a, b]).length
  · exact Or.inl (refd_over 84 p [a, b, c, d] [a, b, c, d, a, b] rfl rfl rfl (by omega) ho (by simp))
  · have e : p ++ [a, b, c, d, a, b] = (p ++ [a, b, c, d]) ++ [a, b] := by simp
    refine turns2 _ _ _ (p ++ [a, b, c, d, a, b]) (step 84 p [a, b, c, d] [a, b, c, d, a, b] rfl rfl rfl (by omega) (by omega)) ?_
    rw [e]
    have := step 82 (p ++ [a, b, c, d]) [a, b] [] rfl rfl rfl (by rw [← e]; omega) (by simpa using h)
    simpa using this
theorem t_depth (l : List Int) : turns [81, 70] l := by
  by_cases h : 64 < l.length
  · exact Or.inl (refd_long 81 l h)
  have e0 : doF 81 l = fits (l ++ [(l.length : Int)]) := by
    unfold doF
    rw [if_neg h, if_neg (by decide), if_neg (by decide), if_pos rfl]
  by_cases ho : 64 < (l ++ [(l.length : Int)]).length
  · left
    show refd (doF 81 l) l
    rw [e0, fits_gt _ ho]
    exact ⟨rfl, Or.inr (Or.inr ⟨rfl, by simp at ho; omega⟩)⟩
  · refine turns2 _ _ _ (l ++ [(l.length : Int)]) (by rw [e0, fits_le _ (by omega)]) ?_
    have := step 70 l [(l.length : Int)] [] rfl rfl rfl (by omega) (by simpa using h)
    simpa using this
/-- the eleven rows -/
def rows11 : List (List Int) := [[73, 73], [85, 85], [74, 74, 74], [86, 86, 86], [74, 75], [75, 74], [71, 70], [83, 82], [72, 70], [84, 82], [81, 70]]
theorem rows_len (r : List Int) (h : r ∈ rows11) : 0 < r.length ∧ r.length ≤ 3 := by
  simp [rows11] at h
  rcases h with rfl | rfl | rfl | rfl | rfl | rfl | rfl | rfl | rfl | rfl | rfl <;> decide
theorem t_all (l : List Int) : ∀ r ∈ rows11, turns r l := by
  intro r hr
  simp [rows11] at hr
  rcases hr with rfl | rfl | rfl | rfl | rfl | rfl | rfl | rfl | rfl | rfl | rfl
  · exact t_swap l
  · exact t_2swap l
  · exact (t_rot l).1
  · exact t_2rot l
  · exact (t_rot l).2.1
  · exact (t_rot l).2.2
  · exact t_dup l
  · exact t_2dup l
  · exact t_over l
  · exact t_2over l
  · exact t_depth l
end Go.Proofs.YtefiohepglggdaaDoor
