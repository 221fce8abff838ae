/-
  reach of package stack: pick and roll.
-/
import Derived.Test.YtefiohepglggdaaDoorStu
namespace Go.Proofs.YtefiohepglggdaaDoor
open Go.ChangeShapes Go.WideShapes Go.ChangeAt Go.RowKit
set_option linter.unusedVariables false
set_option linter.unusedSimpArgs false

/-- too far: fewer cells than pick or roll asks for -/
theorem w_reach_far (op : Int) (v : Value) (xs : List Int) (w : World) (h : Rd .u32 w v xs) (hX : ∀ x ∈ xs, 0 ≤ x ∧ x < 4294967296) (hlI : (xs.length : Int) ≤ 64) (hf : far xs = true) :
    Calls Tryd.prog 17 #[.int .i64 op, v] w fun e w' => ∃ v1, e = .returned (.tuple #[v1, .int .i64 5]) ∧ Rd .u32 w' v1 [] ∧ Below w.heap.size w w' := by
  have hlen := rd_len h uS (P := Tryd.prog)
  unfold far at hf
  simp only [decide_eq_true_eq] at hf
  by_cases h0 : (xs.length : Int) = 0
  · rw [h0] at hlen
    go_enter Tryd.func17, Tryd.ntmps17
    go_wp2_with fail
    go_ret2
    exact ⟨_, rfl, Rd_nil, Below.refl _ _⟩
  · have hlow : (0 : Int) < xs.length := by omega
    have h0b : ((xs.length : Int) == 0) = false := beq_eq_false_iff_ne.2 h0
    obtain ⟨ad, hrun, hcell⟩ := rd_idx h uS zS ((xs.length : Int) - 1) (by omega) (by omega)
    rw [show ((xs.length : Int) - 1).toNat = xs.length - 1 by omega] at hcell
    have hm : xs.getD (xs.length - 1) 0 ∈ xs := by
      rw [List.getD_eq_getElem?_getD, List.getElem?_eq_getElem (by omega)]
      simp
    have hm2 := hX _ hm
    obtain ⟨T, hT⟩ : ∃ T, xs.getD (xs.length - 1) 0 = T := ⟨_, rfl⟩
    rw [hT] at hcell hm2 hf
    obtain ⟨t0, t1⟩ := hm2
    obtain ⟨va, ra, x1, c1, x2⟩ := rd_cutI h uS zS 0 ((xs.length : Int) - 1) (by omega) (by omega) (by omega)
    have c1' := c1 rfl
    have alen := rd_len ra uS (P := Tryd.prog)
    rw [show (((List.drop (Int.toNat 0) xs).take ((xs.length : Int) - 1 - 0).toNat).length : Int) = (xs.length : Int) - 1 by simp; omega] at alen
    have hfar : (xs.length : Int) - 1 ≤ T := by omega
    clear c1 x1 x2 hm hT hf
    have hw1 : IntKind.u64.wrap T = T := by rw [IntKind.wrap_u64]; omega
    have hw2 : IntKind.u64.wrap ((xs.length : Int) - 1) = (xs.length : Int) - 1 := by rw [IntKind.wrap_u64]; omega
    go_enter Tryd.func17, Tryd.ntmps17
    go_wp2_with fail
    go_quiet (fail)
    go_wp2_with fail
    go_ret2
    exact ⟨_, rfl, Rd_nil, below_drewN (Below.refl _ _) _⟩

/-- what holds where pick and roll find their cell -/
theorem near (xs : List Int) (hX : ∀ x ∈ xs, 0 ≤ x ∧ x < 4294967296) (hf : ¬ far xs = true) : ∃ T, xs.getD (xs.length - 1) 0 = T ∧ 0 ≤ T ∧ T < 4294967296 ∧ T < (xs.length : Int) - 1 ∧ (plc xs : Int) = (xs.length : Int) - 2 - T ∧ (1 : Int) < xs.length := by
  unfold far at hf
  simp only [decide_eq_true_eq] at hf
  have hm : xs.getD (xs.length - 1) 0 ∈ xs := by
    rw [List.getD_eq_getElem?_getD, List.getElem?_eq_getElem (by omega)]
    simp
  have := hX _ hm
  refine ⟨_, rfl, this.1, this.2, by omega, ?_, by omega⟩
  unfold plc
  omega

theorem w_reach_pick (v : Value) (xs : List Int) (w : World) (h : Rd .u32 w v xs) (hX : ∀ x ∈ xs, 0 ≤ x ∧ x < 4294967296) (hlI : (xs.length : Int) ≤ 64) (hf : ¬ far xs = true) :
    Calls Tryd.prog 17 #[.int .i64 78, v] w fun e w' => ∃ v1, e = .returned (.tuple #[v1, .int .i64 (doP xs).2]) ∧ Rd .u32 w' v1 (doP xs).1 ∧ Below w.heap.size w w' := by
  have hlen := rd_len h uS (P := Tryd.prog)
  have e : doP xs = pushF (xs.take (xs.length - 1)) [xs.getD (plc xs) 0] := by unfold doP; rw [if_neg hf, fits_push]
  rw [e]
  clear e
  obtain ⟨T, hT, t0, t1, hnear, hP, h1⟩ := near xs hX hf
  have h0b : ((xs.length : Int) == 0) = false := beq_eq_false_iff_ne.2 (by omega)
  obtain ⟨ad, hrun, hcell⟩ := rd_idx h uS zS ((xs.length : Int) - 1) (by omega) (by omega)
  rw [show ((xs.length : Int) - 1).toNat = xs.length - 1 by omega, hT] at hcell
  obtain ⟨va, ra, x1, c1, x2⟩ := rd_cutI h uS zS 0 ((xs.length : Int) - 1) (by omega) (by omega) (by omega)
  have c1' := c1 rfl
  rw [show ((xs.length : Int) - 1 - 0).toNat = xs.length - 1 by omega, show (0 : Int).toNat = 0 from rfl, List.drop_zero] at ra
  have hAl : ((xs.take (xs.length - 1)).length : Int) = (xs.length : Int) - 1 := by simp; omega
  have hyA : (xs.take (xs.length - 1)).getD (plc xs) 0 = xs.getD (plc xs) 0 := by
    rw [List.getD_eq_getElem?_getD, List.getElem?_take, if_pos (by omega), ← List.getD_eq_getElem?_getD]
  obtain ⟨A, hA⟩ : ∃ A, xs.take (xs.length - 1) = A := ⟨_, rfl⟩
  rw [hA] at ra hAl hyA ⊢
  have alen := rd_len ra uS (P := Tryd.prog)
  rw [hAl] at alen
  obtain ⟨ad2, hrun2, hcell2⟩ := rd_idx ra uS zS ((xs.length : Int) - 2 - T) (by omega) (by omega)
  rw [show ((xs.length : Int) - 2 - T).toNat = plc xs by omega, hyA] at hcell2
  obtain ⟨y, hy⟩ : ∃ y, xs.getD (plc xs) 0 = y := ⟨_, rfl⟩
  rw [hy] at hcell2 ⊢
  have hPs : (xs.length : Int) - 1 - 1 - T = (xs.length : Int) - 2 - T := by omega
  have zA : A.length * 4 ≤ 140737488355328 := by omega
  clear c1 x1 x2 hyA hA hT hy hP hX hf
  have hw1 : IntKind.u64.wrap T = T := by rw [IntKind.wrap_u64]; omega
  have hw2 : IntKind.u64.wrap ((xs.length : Int) - 1) = (xs.length : Int) - 1 := by rw [IntKind.wrap_u64]; omega
  have bA : ∀ n, Below w.heap.size w ((w.drewN n).alloc (.cells #[.int .u32 y] 39)) := fun n => (below_drewN (Below.refl _ _) n).alloc (Nat.le_refl _) _
  have cp : ∀ n, Calls Tryd.prog 13 #[va, .slice (some ⟨w.heap.size, 0, none⟩) 1 1] ((w.drewN n).alloc (.cells #[.int .u32 y] 39)) _ := fun n => w_spush va _ A [y] _ (ra.below (bA n)) (rd_one (w.drewN n) y 39) zA (by simp)
  go_enter Tryd.func17, Tryd.ntmps17
  go_wp2_with fail
  go_quiet (fail)
  go_wp2_with (go_at_call 13; refine (cp _).mono ?_; rintro e w2 ⟨v2, rfl, r2, b2⟩)
  go_ret2
  exact ⟨v2, rfl, r2, below_trans (bA _) b2⟩

theorem roll_lists (xs : List Int) (P : Nat) (h : P + 2 ≤ xs.length) : ((xs.take (xs.length - 1)).take P = xs.take P) ∧ (((xs.take (xs.length - 1)).drop (P + 1)).take (xs.length - 2 - P) = (xs.drop (P + 1)).take (xs.length - 2 - P)) ∧ (((xs.take (xs.length - 1)).drop P).take 1 = [xs.getD P 0]) := by
  refine ⟨by rw [List.take_take]; congr 1; omega, ?_, ?_⟩
  · rw [List.drop_take, List.take_take]; congr 1; omega
  · rw [List.drop_take, List.take_take, show min 1 (xs.length - 1 - P) = 1 by omega, List.drop_eq_getElem_cons (show P < xs.length by omega)]
    rw [List.getD_eq_getElem?_getD, List.getElem?_eq_getElem (show P < xs.length by omega)]
    rfl

set_option maxHeartbeats 2000000 in
theorem w_reach_roll (v : Value) (xs : List Int) (w : World) (h : Rd .u32 w v xs) (hX : ∀ x ∈ xs, 0 ≤ x ∧ x < 4294967296) (hlI : (xs.length : Int) ≤ 64) (hf : ¬ far xs = true) :
    Calls Tryd.prog 17 #[.int .i64 79, v] w fun e w' => ∃ v1, e = .returned (.tuple #[v1, .int .i64 (doR xs).2]) ∧ Rd .u32 w' v1 (doR xs).1 ∧ Below w.heap.size w w' := by
  have hlen := rd_len h uS (P := Tryd.prog)
  obtain ⟨T, hT, t0, t1, hnear, hP, h1⟩ := near xs hX hf
  obtain ⟨P, hPP⟩ : ∃ P, plc xs = P := ⟨_, rfl⟩
  obtain ⟨l1, l2, l3⟩ := roll_lists xs P (by omega)
  have e : doR xs = (xs.take P ++ (xs.drop (P + 1)).take (xs.length - 2 - P) ++ [xs.getD P 0], 0) := by
    unfold doR fits
    rw [if_neg hf, hPP, if_neg (by simp; omega)]
  rw [e]
  clear e
  have h0b : ((xs.length : Int) == 0) = false := beq_eq_false_iff_ne.2 (by omega)
  obtain ⟨ad, hrun, hcell⟩ := rd_idx h uS zS ((xs.length : Int) - 1) (by omega) (by omega)
  rw [show ((xs.length : Int) - 1).toNat = xs.length - 1 by omega, hT] at hcell
  obtain ⟨va, ra, x1, c1, x2⟩ := rd_cutI h uS zS 0 ((xs.length : Int) - 1) (by omega) (by omega) (by omega)
  have c1' := c1 rfl
  rw [show ((xs.length : Int) - 1 - 0).toNat = xs.length - 1 by omega, show (0 : Int).toNat = 0 from rfl, List.drop_zero] at ra
  have hAl : ((xs.take (xs.length - 1)).length : Int) = (xs.length : Int) - 1 := by simp; omega
  have alen := rd_len ra uS (P := Tryd.prog)
  rw [hAl] at alen
  obtain ⟨vb, rb, y1, c2, y2⟩ := rd_cutI ra uS zS 0 ((xs.length : Int) - 2 - T) (by omega) (by omega) (by omega)
  have c2' := c2 rfl
  rw [show ((xs.length : Int) - 2 - T - 0).toNat = P by omega, show (0 : Int).toNat = 0 from rfl, List.drop_zero, l1] at rb
  obtain ⟨vc, rc, y3, y4, c3⟩ := rd_cutI ra uS zS ((xs.length : Int) - 1 - T) ((xs.length : Int) - 1) (by omega) (by omega) (by omega)
  have c3' := c3 hAl.symm
  rw [show ((xs.length : Int) - 1 - T).toNat = P + 1 by omega, show ((xs.length : Int) - 1 - ((xs.length : Int) - 1 - T)).toNat = xs.length - 2 - P by omega, l2] at rc
  obtain ⟨vd, rd, c4, y5, y6⟩ := rd_cutI ra uS zS ((xs.length : Int) - 2 - T) ((xs.length : Int) - 1 - T) (by omega) (by omega) (by omega)
  rw [show ((xs.length : Int) - 2 - T).toNat = P by omega, show ((xs.length : Int) - 1 - T - ((xs.length : Int) - 2 - T)).toNat = 1 by omega, l3] at rd
  have lB : (xs.take P).length ≤ 64 := by simp; omega
  have lC : ((xs.drop (P + 1)).take (xs.length - 2 - P)).length ≤ 64 := by simp; omega
  have lD : [xs.getD P 0].length = 1 := rfl
  obtain ⟨B, hB⟩ : ∃ B, xs.take P = B := ⟨_, rfl⟩
  obtain ⟨C, hC⟩ : ∃ C, (xs.drop (P + 1)).take (xs.length - 2 - P) = C := ⟨_, rfl⟩
  obtain ⟨D, hD⟩ : ∃ D, [xs.getD P 0] = D := ⟨_, rfl⟩
  rw [hB] at rb lB ⊢
  rw [hC] at rc lC ⊢
  rw [hD] at rd lD ⊢
  clear l1 l2 l3 hB hC hD y1 y2 y3 y4 y5 y6 c1 c2 c3 x1 x2 hT hPP hX hf hP
  have hPs : (xs.length : Int) - 1 - 1 - T = (xs.length : Int) - 2 - T := by omega
  have hQs : (xs.length : Int) - 2 - T + 1 = (xs.length : Int) - 1 - T := by omega
  obtain ⟨bo, cb, rfl, z1, z2, z3⟩ := rd_form rb
  obtain ⟨co, cc, rfl, z4, z5, z6⟩ := rd_form rc
  obtain ⟨eo, cd, rfl, z7, z8, z9⟩ := rd_form rd
  have cp : ∀ n, Calls Tryd.prog 20 #[.slice (some ⟨w.heap.size, 0, none⟩) 3 3] ((w.drewN n).alloc (.cells #[.slice bo B.length cb, .slice co C.length cc, .slice eo D.length cd] 22)) fun e w' => ∃ v', e = .returned v' ∧ Rd .u32 w' v' (B ++ C ++ D) ∧ Below w.heap.size w w' := by
    intro n
    obtain ⟨V, hV⟩ : ∃ V, V = Value.slice bo B.length cb := ⟨_, rfl⟩
    obtain ⟨U, hU⟩ : ∃ U, U = Value.slice co C.length cc := ⟨_, rfl⟩
    obtain ⟨X, hX⟩ : ∃ X, X = Value.slice eo D.length cd := ⟨_, rfl⟩
    rw [← hV] at rb ⊢
    rw [← hU] at rc ⊢
    rw [← hX] at rd ⊢
    have b0 : Below w.heap.size w ((w.drewN n).alloc (.cells #[V, U, X] 22)) := (below_drewN (Below.refl _ _) n).alloc (Nat.le_refl _) _
    have q := w_concat w.heap.size 3 (fun i => if i = 0 then V else if i = 1 then U else X) (fun i => if i = 0 then B else if i = 1 then C else D) ((w.drewN n).alloc (.cells #[V, U, X] 22)) (by omega) (by omega) ?_ ?_ (by simp [cat]; omega)
    · rw [show cat (fun i => if i = 0 then B else if i = 1 then C else D) 3 = B ++ C ++ D by simp [cat]] at q
      refine q.mono ?_
      rintro e w' ⟨v', rfl, r, b⟩
      exact ⟨v', rfl, r, below_trans b0 b⟩
    · intro i hi
      rw [show w.heap.size = (w.drewN n).heap.size from rfl, World.cell?_alloc_new]
      rcases i with _ | _ | _ | i
      · rfl
      · rfl
      · rfl
      · omega
    · intro i hi
      rcases i with _ | _ | _ | i
      · exact rb.below b0
      · exact rc.below b0
      · exact rd.below b0
      · omega
  clear lB lC lD z1 z2 z3 z4 z5 z6 z7 z8 z9 rb rc rd ra h
  have hw1 : IntKind.u64.wrap T = T := by rw [IntKind.wrap_u64]; omega
  have hw2 : IntKind.u64.wrap ((xs.length : Int) - 1) = (xs.length : Int) - 1 := by rw [IntKind.wrap_u64]; omega
  have hw3 : IntKind.i64.wrap ((xs.length : Int) - 1 - T) = (xs.length : Int) - 1 - T := by rw [IntKind.wrap_i64]; omega
  go_enter Tryd.func17, Tryd.ntmps17
  go_wp2_with fail
  go_quiet (fail)
  go_wp2_with fail
  go_region_with (go_at_call 20; refine (cp _).mono ?_; rintro e w2 ⟨v2, rfl, r2, b2⟩)
  all_goals go_wp2_with fail
  all_goals go_ret2
  all_goals exact ⟨v2, rfl, r2, b2⟩
end Go.Proofs.YtefiohepglggdaaDoor
