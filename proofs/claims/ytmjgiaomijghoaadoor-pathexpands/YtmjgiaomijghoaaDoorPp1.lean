/-
  One step of a path, as the program parses it.
-/
import Derived.Test.YtmjgiaomijghoaaDoorPls
import Derived.Test.YtmjgiaomijghoaaDoorRa3
namespace Go.Proofs.YtmjgiaomijghoaaDoor
open Go.ChangeShapes Go.WideShapes Go.ChangeAt Go.RowKit
set_option linter.unusedVariables false
set_option linter.unusedSimpArgs false

theorem cutB_parts {c : Int} {l : List Int} {A B : ByteArray} {f : Bool} (h : CutB c l A B f) : L A = upTo c l ∧ L B = l.drop ((upTo c l).length + 1) ∧ f = decide ((upTo c l).length < l.length) := by
  rcases h with ⟨rfl, h1, h2, h3⟩ | ⟨rfl, h1, h2⟩
  · rw [upTo_all c l h3]
    refine ⟨h1, ?_, by simp⟩
    rw [h2, List.drop_of_length_le (by omega)]
  · have e : upTo c l = L A := by rw [h1]; exact upTo_app c _ _ h2
    rw [e]
    refine ⟨rfl, ?_, ?_⟩
    · conv => rhs; rw [h1]
      rw [show L A ++ c :: L B = (L A ++ [c]) ++ L B by simp, List.drop_left' (by simp)]
    · have := congrArg List.length h1
      simp at this
      simp
      omega
theorem Stands.lt {w : World} {b : Nat} {cs : Array Value} {T : TypeId} (h : Stands w b cs T) : b < w.heap.size := by
  unfold Stands at h
  exact (Array.getElem?_eq_some_iff.1 h).1
/-- what parseStep answers -/
def StepP (base : Nat) (R : Option Sp) (e : Ending) (w' : World) : Prop := match R with
  | some x => ∃ v nm ar, e = .returned (.tuple #[.agg #[.string nm, v, .string ar], .bool true]) ∧ L nm = x.1 ∧ L ar = x.2.2 ∧ OwnU base w' v x.2.1
  | none => ∃ nm ao n cap ar, e = .returned (.tuple #[.agg #[.string nm, .slice ao n cap, .string ar], .bool false])

set_option maxHeartbeats 4000000 in
set_option maxRecDepth 100000 in
theorem w_pstep (s : ByteArray) (w : World) (hT : Tab w) (hs : s.size ≤ 256) :
    Calls Tryd.prog 20 #[.string s] w fun e w' => StepP w.heap.size (stepF (L s)) e w' ∧ Below w.heap.size w w' := by
  obtain ⟨R, hR⟩ : ∃ R, stepF (L s) = R := ⟨_, rfl⟩
  rw [hR]
  have HR := hid hR
  clear hR
  go_enter Tryd.func20, Tryd.ntmps20
  go_wp2_with (go_at_call 38; refine (w_cut58 s _ (by unfold maxLen; omega)).mono ?_; rintro e w1 ⟨A, B, f, rfl, hc, b1⟩; refine Hid.out ?_)
  obtain ⟨eA, eB, ef⟩ := cutB_parts hc
  have hAs : A.size ≤ 256 := by rw [← L_len, eA]; have := upTo_len 58 (L s); rw [L_len] at this; omega
  have t1 : Stands w1 w.heap.size #[.string ⟨#[]⟩, .slice none 0 0, .string ⟨#[]⟩] 40 := (stands_new w _ _).below b1
  have hb1 := below_trans (box_below w (.cells #[.string ⟨#[]⟩, .slice none 0 0, .string ⟨#[]⟩] 40)) b1
  clear hc ef b1
  refine hid ?_
  go_wp2_with (go_at_call 38; refine (w_cut64 A _ (by unfold maxLen; omega)).mono ?_; rintro e w2 ⟨C, D, g, rfl, hc, b2⟩; refine Hid.out ?_)
  obtain ⟨eC, eD, eg⟩ := cutB_parts hc
  have hCs : C.size ≤ 256 := by rw [← L_len, eC]; have := upTo_len 64 (L A); rw [L_len] at this; omega
  have hDs : D.size ≤ 256 := by rw [← L_len, eD, List.length_drop, L_len]; omega
  have t2 := t1.below b2
  have hb2 := below_trans hb1 b2
  have hF : Hid (R = if g = true ∧ ¬ (punF (L D)).2 = 0 then none else if nmF (L C) = true then some (L C, if g = true then (punF (L D)).1 else [], L B) else none) := by
    show _ = _
    rw [← HR.out, eg, eC, eD, eB, eA]
    unfold stepF
    simp only [decide_eq_true_eq]
  have cn := w_pnamed C w2 (by unfold maxLen; omega)
  clear hc eg b2 eA eB eC eD HR t1 hb1
  refine hid ?_
  cases hn : nmF (L C)
  · rw [hn] at cn
    have hR : Hid (R = none) := by
      show _ = _
      rw [hF.out, hn]
      split <;> simp
    clear hn hF
    go_wp2_with (go_at_call 39; refine cn.mono ?_; rintro e w3 ⟨rfl, b3⟩; have t3 := t2.below b3; have m0 := t3.cell 0 _ rfl; have m1 := t3.cell 1 _ rfl; have m2 := t3.cell 2 _ rfl; have f1 := t3.free; have hb3 := below_trans hb2 b3)
    obtain ⟨W5, hW5, s5, b5⟩ : ∃ W5, (((w3.setCell ⟨w.heap.size, 0, none⟩ (.string ⟨#[]⟩)).setCell ⟨w.heap.size, 1, none⟩ (.slice none 0 0)).setCell ⟨w.heap.size, 2, none⟩ (.string ⟨#[]⟩)) = W5 ∧ Stands W5 w.heap.size #[.string ⟨#[]⟩, .slice none 0 0, .string ⟨#[]⟩] 40 ∧ Below w.heap.size w W5 :=
      ⟨_, rfl, ((t3.set 0 _).set 1 _).set 2 _, below_set (below_set (below_set hb3 _ 0 _ (Nat.le_refl _)) _ 1 _ (Nat.le_refl _)) _ 2 _ (Nat.le_refl _)⟩
    rw [hW5]
    have x0 := s5.cell 0 _ rfl
    have x1 := s5.cell 1 _ rfl
    have x2 := s5.cell 2 _ rfl
    refine bodyPost_ret (v := .tuple #[.agg #[.string ⟨#[]⟩, .slice none 0 0, .string ⟨#[]⟩], .bool false]) (by simp [results, Tryd.results20, go_sem, x0, x1, x2]) rfl ⟨?_, b5⟩
    rw [hR.out]
    exact ⟨_, _, _, _, _, rfl⟩
  · rw [hn] at cn
    cases g
    · have hR : Hid (R = some (L C, [], L B)) := by
        show _ = _
        rw [hF.out, hn]
        simp
      clear hn hF
      go_wp2_with (go_at_call 39; refine cn.mono ?_; rintro e w3 ⟨rfl, b3⟩; have t3 := t2.below b3; have hb3 := below_trans hb2 b3; have t4 := t3.below (box_below w3 (.cells #[.string C, .slice none 0 0, .string B] 40)); have hb4 := below_trans hb3 (box_below w3 (.cells #[.string C, .slice none 0 0, .string B] 40)); have u4 := stands_new w3 #[.string C, .slice none 0 0, .string B] 40; have m0 := t4.cell 0 _ rfl; have m1 := t4.cell 1 _ rfl; have m2 := t4.cell 2 _ rfl; have f1 := t4.free; have n0 := u4.cell 0 _ rfl; have n1 := u4.cell 1 _ rfl; have n2 := u4.cell 2 _ rfl)
      obtain ⟨W5, hW5, s5, b5⟩ : ∃ W5, ((((w3.alloc (.cells #[.string C, .slice none 0 0, .string B] 40)).setCell ⟨w.heap.size, 0, none⟩ (.string C)).setCell ⟨w.heap.size, 1, none⟩ (.slice none 0 0)).setCell ⟨w.heap.size, 2, none⟩ (.string B)) = W5 ∧ Stands W5 w.heap.size #[.string C, .slice none 0 0, .string B] 40 ∧ Below w.heap.size w W5 :=
        ⟨_, rfl, ((t4.set 0 _).set 1 _).set 2 _, below_set (below_set (below_set hb4 _ 0 _ (Nat.le_refl _)) _ 1 _ (Nat.le_refl _)) _ 2 _ (Nat.le_refl _)⟩
      rw [hW5]
      have x0 := s5.cell 0 _ rfl
      have x1 := s5.cell 1 _ rfl
      have x2 := s5.cell 2 _ rfl
      refine bodyPost_ret (v := .tuple #[.agg #[.string C, .slice none 0 0, .string B], .bool true]) (by simp [results, Tryd.results20, go_sem, x0, x1, x2]) rfl ⟨?_, b5⟩
      rw [hR.out]
      exact ⟨_, _, _, rfl, rfl, rfl, World.ownsRow_nil _ _ _ _⟩
    · obtain ⟨u, E, hu⟩ : ∃ u E, punF (L D) = (u, E) := ⟨_, _, rfl⟩
      have cu := fun W (h : Tab W) => w_ppunitO D W h (by omega)
      rw [hu] at cu
      have hF2 : Hid (R = if ¬ E = 0 then none else some (L C, u, L B)) := by
        show _ = _
        rw [hF.out, hn, hu]
        by_cases e : E = 0 <;> simp [e]
      clear hn hF hu
      by_cases hE : E = 0
      · subst hE
        have hR : Hid (R = some (L C, u, L B)) := by
          show _ = _
          rw [hF2.out]
          simp
        clear hF2
        go_wp2_with (first
          | (go_at_call 39; refine cn.mono ?_; rintro e w3 ⟨rfl, b3⟩; have t3 := t2.below b3; have hb3 := below_trans hb2 b3; have t4 := t3.below (box_below w3 (.cells #[.string C, .slice none 0 0, .string B] 40)); have hb4 := below_trans hb3 (box_below w3 (.cells #[.string C, .slice none 0 0, .string B] 40)); have u4 := stands_new w3 #[.string C, .slice none 0 0, .string B] 40; have h34 := hb3.size)
          | (go_at_call 40; refine (cu _ (hT.below hb4)).mono ?_; rintro e w5 ⟨v, rfl, ov, b5⟩; refine Hid.out ?_))
        obtain ⟨ao, cap, rfl⟩ := own_form ov
        have t5 := t4.below b5
        have u5 := u4.below b5
        have hb5 := below_trans hb4 b5
        have u6 := u5.set 1 (.slice ao u.length cap)
        have t6 := t5.other 1 (.slice ao u.length cap) (show w.heap.size ≠ w3.heap.size by have := t3.lt; omega)
        have n0 := u6.cell 0 _ rfl
        have n1 := u6.cell 1 _ rfl
        have n2 := u6.cell 2 _ rfl
        have f6 := t6.free
        have f5 := u5.free
        have m0 := t6.cell 0 _ rfl
        have m1 := t6.cell 1 _ rfl
        have m2 := t6.cell 2 _ rfl
        have k1 := u5.cell 1 _ rfl
        refine hid ?_
        go_wp2_with fail
        obtain ⟨W5, hW5, s5, b6⟩ : ∃ W5, ((((w5.setCell ⟨w3.heap.size, 1, none⟩ (.slice ao u.length cap)).setCell ⟨w.heap.size, 0, none⟩ (.string C)).setCell ⟨w.heap.size, 1, none⟩ (.slice ao u.length cap)).setCell ⟨w.heap.size, 2, none⟩ (.string B)) = W5 ∧ Stands W5 w.heap.size #[.string C, .slice ao u.length cap, .string B] 40 ∧ Below w.heap.size w W5 :=
          ⟨_, rfl, ((t6.set 0 _).set 1 _).set 2 _, below_set (below_set (below_set (below_set hb5 _ 1 _ h34) _ 0 _ (Nat.le_refl _)) _ 1 _ (Nat.le_refl _)) _ 2 _ (Nat.le_refl _)⟩
        have h3 := t3.lt
        have ov2 : OwnU w.heap.size W5 (.slice ao u.length cap) u := by
          rw [← hW5]
          rw [size_al] at ov
          exact own_le (by omega) (own_other (own_other (own_other (own_other ov _ 1 _ (by omega)) _ 0 _ (by omega)) _ 1 _ (by omega)) _ 2 _ (by omega))
        rw [hW5]
        have x0 := s5.cell 0 _ rfl
        have x1 := s5.cell 1 _ rfl
        have x2 := s5.cell 2 _ rfl
        refine bodyPost_ret (v := .tuple #[.agg #[.string C, .slice ao u.length cap, .string B], .bool true]) (by simp [results, Tryd.results20, go_sem, x0, x1, x2]) rfl ⟨?_, b6⟩
        rw [hR.out]
        exact ⟨_, _, _, rfl, rfl, rfl, ov2⟩
      · have hR : Hid (R = none) := by
          show _ = _
          rw [hF2.out]
          simp [hE]
        have hEb : (E != 0) = true := by simpa using hE
        clear hF2 hE
        go_wp2_with (first
          | (go_at_call 39; refine cn.mono ?_; rintro e w3 ⟨rfl, b3⟩; have t3 := t2.below b3; have hb3 := below_trans hb2 b3; have t4 := t3.below (box_below w3 (.cells #[.string C, .slice none 0 0, .string B] 40)); have hb4 := below_trans hb3 (box_below w3 (.cells #[.string C, .slice none 0 0, .string B] 40)); have u4 := stands_new w3 #[.string C, .slice none 0 0, .string B] 40; have h34 := hb3.size)
          | (go_at_call 40; refine (cu _ (hT.below hb4)).mono ?_; rintro e w5 ⟨v, rfl, ov, b5⟩; have t5 := t4.below b5; have hb5 := below_trans hb4 b5; have f5 := t5.free; have m0 := t5.cell 0 _ rfl; have m1 := t5.cell 1 _ rfl; have m2 := t5.cell 2 _ rfl))
        obtain ⟨W5, hW5, s5, b6⟩ : ∃ W5, (((w5.setCell ⟨w.heap.size, 0, none⟩ (.string ⟨#[]⟩)).setCell ⟨w.heap.size, 1, none⟩ (.slice none 0 0)).setCell ⟨w.heap.size, 2, none⟩ (.string ⟨#[]⟩)) = W5 ∧ Stands W5 w.heap.size #[.string ⟨#[]⟩, .slice none 0 0, .string ⟨#[]⟩] 40 ∧ Below w.heap.size w W5 :=
          ⟨_, rfl, ((t5.set 0 _).set 1 _).set 2 _, below_set (below_set (below_set hb5 _ 0 _ (Nat.le_refl _)) _ 1 _ (Nat.le_refl _)) _ 2 _ (Nat.le_refl _)⟩
        rw [hW5]
        have x0 := s5.cell 0 _ rfl
        have x1 := s5.cell 1 _ rfl
        have x2 := s5.cell 2 _ rfl
        refine bodyPost_ret (v := .tuple #[.agg #[.string ⟨#[]⟩, .slice none 0 0, .string ⟨#[]⟩], .bool false]) (by simp [results, Tryd.results20, go_sem, x0, x1, x2]) rfl ⟨?_, b6⟩
        rw [hR.out]
        exact ⟨_, _, _, _, _, rfl⟩
end Go.Proofs.YtmjgiaomijghoaaDoor
