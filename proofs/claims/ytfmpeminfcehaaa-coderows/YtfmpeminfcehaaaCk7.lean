/-
  What the acts of the landed package code want: plain facts, frames.
-/
import Derived.Test.YtfmpeminfcehaaaCk6
import Derived.Test.YtfmpeminfcehaaaPk2
namespace Go.Proofs.Ytfmpeminfcehaaa
open Go.ChangeShapes Go.WideShapes Go.ChangeAt Go.RowKit
set_option linter.unusedVariables false
set_option linter.unusedSimpArgs false

theorem pact_no2 {d : Dft} {a : Int} (h : frmD d = true) (h1 : 1 ≤ a) (h2 : a ≤ 15) (h3 : lakF d a = true) : actD d a = (nilD, 13) := by unfold actD; rw [if_neg (by rw [h]; simp; omega), if_pos h3]
theorem pact_no3 {d : Dft} {a : Int} (h : frmD d = true) (h1 : 1 ≤ a) (h2 : a ≤ 15) (h3 : lakF d a = false) (h4 : ladF a ≠ 0) (h5 : 256 ≤ d.code.length) : actD d a = (nilD, 3) := by unfold actD; rw [if_neg (by rw [h]; simp; omega), if_neg (by rw [h3]; simp), if_pos ⟨h4, h5⟩]
theorem pact_yes {d : Dft} {a : Int} (h : frmD d = true) (h1 : 1 ≤ a) (h2 : a ≤ 15) (h3 : lakF d a = false) (h4 : ¬ (ladF a ≠ 0 ∧ 256 ≤ d.code.length)) : actD d a = (doD d a (layF d a) d.code.length (layF d a).length (ladF a), 0) := by unfold actD; rw [if_neg (by rw [h]; simp; omega), if_neg (by rw [h3]; simp), if_neg h4]
theorem pfrm_code {d : Dft} (h : frmD d = true) : d.code.length ≤ 256 := by
  unfold frmD at h
  rw [Bool.and_eq_true, decide_eq_true_eq] at h
  exact h.1
theorem pfrm_o {d : Dft} (h : frmD d = true) (hl : 0 < d.origs.length) : 0 ≤ nwI d.origs ∧ nwI d.origs < d.code.length := by
  have g := ((frm_iff d).1 h).origs _ (nwI_mem (List.length_pos_iff.1 hl))
  unfold okOr at g
  rw [decide_eq_true_eq] at g
  exact knd_lt (by omega)
theorem pfrm_d {d : Dft} (h : frmD d = true) (hl : 0 < d.dests.length) : 0 ≤ nwI d.dests ∧ nwI d.dests ≤ d.code.length := by
  have g := ((frm_iff d).1 h).dests _ (nwI_mem (List.length_pos_iff.1 hl))
  unfold okDe at g
  rw [decide_eq_true_eq] at g
  exact g
theorem pfrm_l {d : Dft} (h : frmD d = true) (hl : 0 < d.loops.length) : (0 ≤ (nwO d.loops).1 ∧ (nwO d.loops).1 < d.code.length) ∧ ∀ n ∈ (nwO d.loops).2, 0 ≤ n ∧ n < d.code.length := by
  have g := ((frm_iff d).1 h).loops _ (nwO_mem (List.length_pos_iff.1 hl))
  unfold okLo at g
  rw [Bool.and_eq_true, decide_eq_true_eq] at g
  refine ⟨knd_lt (by omega), fun n hn => ?_⟩
  have q := List.all_eq_true.1 g.2 n hn
  unfold okOu at q
  rw [decide_eq_true_eq] at q
  exact knd_lt (by omega)
theorem pfrm_k {d : Dft} (h : frmD d = true) (hl : 0 < d.cases.length) : ((nwO d.cases).1 = -1 ∨ 0 ≤ (nwO d.cases).1 ∧ (nwO d.cases).1 < d.code.length) ∧ ∀ n ∈ (nwO d.cases).2, 0 ≤ n ∧ n < d.code.length := by
  have g := ((frm_iff d).1 h).cases _ (nwO_mem (List.length_pos_iff.1 hl))
  unfold okCa at g
  rw [Bool.and_eq_true, decide_eq_true_eq] at g
  refine ⟨g.1.imp id (fun q => knd_lt (by omega)), fun n hn => ?_⟩
  have q := List.all_eq_true.1 g.2 n hn
  unfold okOu at q
  rw [decide_eq_true_eq] at q
  exact knd_lt (by omega)
theorem set_last {α : Type} (l : List α) (x : α) (h : 0 < l.length) : l.set (l.length - 1) x = l.take (l.length - 1) ++ [x] := by
  apply List.ext_getElem?
  intro i
  by_cases e : i = l.length - 1
  · subst e
    rw [List.getElem?_set_self (by omega), List.getElem?_append_right (by simp)]
    simp
  · rw [List.getElem?_set_ne (fun q => e q.symm)]
    by_cases h2 : i < l.length - 1
    · rw [List.getElem?_append_left (by simp; omega), List.getElem?_take_of_lt h2]
    · rw [List.getElem?_eq_none (by omega), List.getElem?_eq_none (by simp; omega)]
theorem setN_last (c : List Opd) (k n x : Int) : setN (c ++ [(k, n)]) (c.length : Int) x = c ++ [(k, x)] := by
  unfold setN
  rw [Int.toNat_natCast, List.getD_eq_getElem?_getD, List.getElem?_append_right (Nat.le_refl _), List.set_append_right _ _ (Nat.le_refl _)]
  simp
theorem setN_comm (c : List Opd) (a b t : Int) : setN (setN c a t) b t = setN (setN c b t) a t := by
  by_cases e : a.toNat = b.toNat
  · unfold setN
    rw [e]
  · unfold setN
    rw [List.getD_eq_getElem?_getD (l := c.set a.toNat _), List.getElem?_set_ne e, List.getD_eq_getElem?_getD (l := c.set b.toNat _), List.getElem?_set_ne (fun q => e q.symm), List.set_comm _ _ (fun q => e q), ← List.getD_eq_getElem?_getD, ← List.getD_eq_getElem?_getD]
theorem aim_set (l : List Int) (a t : Int) : ∀ c : List Opd, aimF (setN c a t) l t = setN (aimF c l t) a t := by
  induction l with
  | nil => intro c; rfl
  | cons n l ih =>
    intro c
    show aimF (setN (setN c a t) n t) l t = setN (aimF (setN c n t) l t) a t
    rw [setN_comm, ih]
theorem aim_last (c : List Opd) (l : List Int) (a t : Int) : aimF c (l ++ [a]) t = aimF (aimF c [a] t) l t := by
  show (l ++ [a]).foldl (fun c n => setN c n t) c = aimF (setN c a t) l t
  rw [List.foldl_append, aim_set]
  rfl
/-- what an act leaves of a builder -/
def ActP (q base : Nat) (w : World) (d : Dft) (A : Int) (e : Ending) (w' : World) : Prop := e = .returned (.int .i64 (actD d A).2) ∧ ((actD d A).2 = 0 → ∃ v' : Dv, Stands w' q v'.cs 52 ∧ OwE base w' v' (actD d A).1) ∧ Below base w w'
theorem actP_no {q base : Nat} {w w' : World} {d : Dft} {A E : Int} {e : Ending} (h : actD d A = (nilD, E)) (h0 : ¬ E = 0) (b : Below base w w') (he : e = .returned (.int .i64 E)) : ActP q base w d A e w' := by
  unfold ActP
  rw [h]
  exact ⟨he, fun q => absurd q h0, b⟩
theorem actP_yes {q base : Nat} {w w' : World} {d D : Dft} {A : Int} {e : Ending} {v' : Dv} (h : actD d A = (D, 0)) (s : Stands w' q v'.cs 52) (o : OwE base w' v' D) (b : Below base w w') (he : e = .returned (.int .i64 0)) : ActP q base w d A e w' := by
  unfold ActP
  rw [h]
  exact ⟨he, fun _ => ⟨v', s, o⟩, b⟩
theorem Out.new {lo hi : Nat} {w w' : World} (h : Out lo hi w w') (g j : Nat) (u : Value) (hg : w.heap.size ≤ g) : Out lo hi w (w'.setCell ⟨g, j, none⟩ u) := by
  refine ⟨by simpa [World.setCell] using h.1, fun k cur T fr e t o => ?_⟩
  rw [← h.2 k cur T fr e t o]
  exact Below.heap_setCell _ _ _ k (fun e2 => by have e3 : k = g := e2; have := heap_lt e; omega)
theorem Nwst.out {lo hi : Nat} {w w' : World} {v vo : Value} {l : List Opn} {g cap : Nat} {rows : List (List Value)} (h : Nwst lo hi w v l g cap rows vo) (hl : 0 < l.length) (u : Out 0 0 w w') : Nwst lo hi w' v l g cap rows vo := by
  have h0 := h.len
  have o0 := own_out h.own u (Or.inr rfl)
  have o := o0
  rw [h.form] at o
  refine ⟨h.form, h.len, h.two, o0, fun i hi => ?_, h.sep, h.below, h.outsB, h.row, own_out h.outs u (Or.inl rfl), ?_, ?_, fun j => o.frozenAt _⟩
  · obtain ⟨vi, e1, e2⟩ := h.each i hi
    exact ⟨vi, e1, own_out e2 u (Or.inl rfl)⟩
  · refine own_cell o ((l.length - 1) * 2) _ ?_
    have := flat_get rows 2 (l.length - 1) 0 h.two (by omega) (by decide)
    rw [Nat.add_zero] at this
    rw [this, h.row]
    rfl
  · refine own_cell o ((l.length - 1) * 2 + 1) _ ?_
    rw [flat_get rows 2 (l.length - 1) 1 h.two (by omega) (by decide), h.row]
    rfl
theorem own_setbox {lo b : Nat} {w : World} {l : List Opn} {g n cap j : Nat} {cs : Array Value} {u : Value} (h : OwnR 58 2 (opnO lo) lo w (.slice (some ⟨g, 0, none⟩) n cap) l) (sb : Stands w b cs 58) (hne : g ≠ b) : OwnR 58 2 (opnO lo) lo (w.setCell ⟨b, j, none⟩ u) (.slice (some ⟨g, 0, none⟩) n cap) l := by
  obtain ⟨rows, h1, h2, h3, h4⟩ := h
  exact ⟨rows, h1, h2, grown_below (gb_set (gb_refl w _) j u) h3 (fun k hk e => by simp [Value.ownBlock] at hk; injection e with e; omega), fun i hi => opnO_apt (by decide) _ _ _ _ (set_kept sb j u) (h4 i hi)⟩
theorem own_outN {base : Nat} {w w' : World} {v : Value} {l : List Opn} (h : OwnR 58 2 (opnO base) base w v l) (u : Out 0 0 w w') : OwnR 58 2 (opnO base) base w' v l := by
  obtain ⟨rows, h1, h2, h3, h4⟩ := h
  refine ⟨rows, h1, h2, own_out h3 u (Or.inr rfl), fun i hi => ?_⟩
  obtain ⟨vo, e1, e2⟩ := h4 i hi
  exact ⟨vo, e1, own_out e2 u (Or.inl rfl)⟩
theorem OwD.size {base b1 b2 b3 : Nat} {w : World} {v : Dv} {d : Dft} (h : OwD base w v d b1 b2 b3) : base ≤ w.heap.size := Nat.le_trans h.le1 (Nat.le_trans h.le2 (Nat.le_trans h.le3 h.le4))
theorem gcode {base : Nat} {w : World} {v : Value} {c : List Opd} (h : OwC base w v c) (hc : 0 < c.length) : ∃ g cap, v = .slice (some ⟨g, 0, none⟩) c.length cap := by
  obtain ⟨cs, r⟩ := OwnR.row h
  exact own_some r hc
end Go.Proofs.Ytfmpeminfcehaaa
