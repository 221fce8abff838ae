/-
  Drafts of the call's own, written: one list put anew, the others stand.
-/
import Derived.Test.YtfmpeminfcehaaaRk6
import Derived.Test.YtfmpeminfcehaaaOw3
namespace Go.Proofs.Ytfmpeminfcehaaa
open Go.ChangeShapes Go.WideShapes Go.ChangeAt Go.RowKit
set_option linter.unusedVariables false
set_option linter.unusedSimpArgs false

/-- a draft of the call's own, with no order among its blocks -/
structure OwE (base : Nat) (w : World) (v : Dv) (d : Dft) : Prop where
  code : OwC base w v.vc d.code
  origs : w.ownsRow base 3 1 v.vo d.origs.length (d.origs.map (Value.int .i64))
  dests : w.ownsRow base 3 1 v.vd d.dests.length (d.dests.map (Value.int .i64))
  loops : OwnR 58 2 (opnO base) base w v.vl d.loops
  cases : OwnR 58 2 (opnO base) base w v.vk d.cases
theorem OwE.read {base : Nat} {w : World} {v : Dv} {d : Dft} (h : OwE base w v d) : RdD w v d :=
  ⟨OwnR.read (by decide) h.code (fun _ _ q => q), (Rd_own h.origs).1, (Rd_own h.dests).1, OwnR.read (by decide) h.loops opnO_R, OwnR.read (by decide) h.cases opnO_R⟩
theorem OwE.kept {base : Nat} {T : TypeId} {w w' : World} {v : Dv} {d : Dft} (h : OwE base w v d) (k : Kept T w w') (ho : ¬ 37 = T) (hj : ¬ 3 = T) (hn : ¬ 58 = T) : OwE base w' v d :=
  ⟨OwnR.kept h.code k ho opR_apt10, own_kept k hj h.origs, own_kept k hj h.dests, OwnR.kept h.loops k hn (opnO_apt hj), OwnR.kept h.cases k hn (opnO_apt hj)⟩
/-- a draft of some call's own -/
def OwQ (w : World) (v : Dv) (d : Dft) : Prop := ∃ base, OwE base w v d
theorem OwQ.read {w : World} {v : Dv} {d : Dft} (h : OwQ w v d) : RdD w v d := by
  obtain ⟨base, h⟩ := h
  exact h.read
theorem OwQ.kept {T : TypeId} {w w' : World} {v : Dv} {d : Dft} (h : OwQ w v d) (k : Kept T w w') (ho : ¬ 37 = T) (hj : ¬ 3 = T) (hn : ¬ 58 = T) : OwQ w' v d := by
  obtain ⟨base, h⟩ := h
  exact ⟨base, h.kept k ho hj hn⟩
theorem OwQ.below {w w' : World} {v : Dv} {d : Dft} (h : OwQ w v d) (g : Below w.heap.size w w') : OwQ w' v d := h.kept (T := 35) (Kept.below g) (by decide) (by decide) (by decide)
theorem OwQ.nil (w : World) : OwQ w ⟨.slice none 0 0, .slice none 0 0, .slice none 0 0, .slice none 0 0, .slice none 0 0⟩ nilD := ⟨0, OwnR.nil _ _ _ _ _, World.ownsRow_nil _ _ _ _, World.ownsRow_nil _ _ _ _, OwnR.nil _ _ _ _ _, OwnR.nil _ _ _ _ _⟩
theorem OwN.owe {base lo hi : Nat} {w : World} {v : Value} {l : List Opn} (h : OwN lo hi w v l) (hl : base ≤ lo) : OwnR 58 2 (opnO base) base w v l := (h.mono hl (Nat.le_refl _)).own
theorem OwD.owe {base b1 b2 b3 : Nat} {w : World} {v : Dv} {d : Dft} (h : OwD base w v d b1 b2 b3) : OwE base w v d :=
  ⟨h.code, h.origs, own_le h.le1 h.dests, h.loops.owe (Nat.le_trans h.le1 h.le2), h.cases.owe (Nat.le_trans h.le1 (Nat.le_trans h.le2 h.le3))⟩

/-- blocks of numbers and of what is open stand, but those between two bounds -/
def Out (lo hi : Nat) (w w' : World) : Prop := w.heap.size ≤ w'.heap.size ∧ ∀ (k : Nat) cur T fr, w.heap[k]? = some (Obj.cells cur T fr) → (T = 3 ∨ T = 58) → (k < lo ∨ hi ≤ k) → w'.heap[k]? = w.heap[k]?
theorem Out.refl (lo hi : Nat) (w : World) : Out lo hi w w := ⟨Nat.le_refl _, fun _ _ _ _ _ _ _ => rfl⟩
theorem Out.trans {lo hi : Nat} {a b c : World} (h : Out lo hi a b) (g : Out lo hi b c) : Out lo hi a c :=
  ⟨Nat.le_trans h.1 g.1, fun k cur T fr e t o => by have e1 := h.2 k cur T fr e t o; rw [g.2 k cur T fr (by rw [e1]; exact e) t o, e1]⟩
theorem heap_lt {w : World} {k : Nat} {o : Obj} (h : w.heap[k]? = some o) : k < w.heap.size := (Array.getElem?_eq_some_iff.1 h).1
theorem Out.grown {lo hi : Nat} {w w' : World} {r : Option Nat} (g : w.grownBy w' r) (hr : ∀ k, r = some k → lo ≤ k ∧ k < hi) : Out lo hi w w' :=
  ⟨g.size, fun k cur T fr e t o => g.block k (heap_lt e) (fun e2 => by have := hr k e2.symm; omega)⟩
theorem Out.kept {lo hi : Nat} {T : TypeId} {w w' : World} (k : Kept T w w') (hj : ¬ 3 = T) (hn : ¬ 58 = T) : Out lo hi w w' := by
  obtain ⟨row, g, hrow⟩ := k
  refine ⟨g.size, fun k cur T' fr e t o => g.block k (heap_lt e) (fun e2 => ?_)⟩
  obtain ⟨cur', fr', e3⟩ := hrow k e2.symm
  rw [e] at e3
  injection e3 with e3
  injection e3 with _ e4
  rcases t with rfl | rfl
  · exact hj e4
  · exact hn e4
theorem Out.below {lo hi : Nat} {w w' : World} (g : Below w.heap.size w w') : Out lo hi w w' := Out.kept (T := 35) (Kept.below g) (by decide) (by decide)
theorem own_outT {lo hi base : Nat} {w w' : World} {e : TypeId} {sz : Nat} {v : Value} {n : Nat} {cs : List Value} (o : w.ownsRow base e sz v n cs) (he : e = 3 ∨ e = 58) (hb : ∀ k, v.ownBlock = some k → k < lo ∨ hi ≤ k) (u : Out lo hi w w') : w'.ownsRow base e sz v n cs := by
  obtain ⟨hl, o⟩ := o
  refine ⟨hl, ?_⟩
  rcases o with h | ⟨b, cap, cur, rfl, h1, h2, h3⟩
  · exact Or.inl h
  · refine Or.inr ⟨b, cap, cur, rfl, h1, ?_, h3⟩
    rw [u.2 b _ _ _ h2 he (hb b rfl)]
    exact h2
theorem OwN.out {lo hi a b : Nat} {w w' : World} {v : Value} {l : List Opn} (h : OwN a b w v l) (u : Out lo hi w w') (hr : b ≤ lo ∨ hi ≤ a) : OwN a b w' v l := by
  obtain ⟨rows, p1, p2, p3, p4, p5, p6, p7⟩ := h
  refine ⟨rows, p1, p2, own_outT p3 (Or.inr rfl) (fun k hk => ?_) u, fun i hi => ?_, p5, p6, p7⟩
  · have h1 := (p3.lt k hk).1
    have h2 := p6 k hk
    omega
  · obtain ⟨vo, h1, h2⟩ := p4 i hi
    refine ⟨vo, h1, own_outT h2 (Or.inl rfl) (fun k hk => ?_) u⟩
    have h3 := (h2.lt k hk).1
    have h4 := p7 i (by omega) k (by rw [h1]; exact hk)
    omega
theorem OwD.toO {base b1 b2 b3 : Nat} {w w' : World} {v : Dv} {d : Dft} (h : OwD base w v d b1 b2 b3) (u : Out base b1 w w') {vc vo : Value} {c : List Opd} {xs : List Int} (hc : OwC base w' vc c) (hn : w'.ownsRow base 3 1 vo xs.length (xs.map (Value.int .i64))) :
    OwE base w' ⟨vc, vo, v.vd, v.vl, v.vk⟩ ⟨c, xs, d.dests, d.loops, d.cases⟩ := by
  have e1 := h.le1
  have e2 := h.le2
  have e3 := h.le3
  exact ⟨hc, hn, own_le e1 (own_outT h.dests (Or.inl rfl) (fun k hk => Or.inr (h.dests.lt k hk).1) u), (h.loops.out u (Or.inr e2)).owe (by omega), (h.cases.out u (Or.inr (by omega))).owe (by omega)⟩
theorem OwD.toD {base b1 b2 b3 : Nat} {w w' : World} {v : Dv} {d : Dft} (h : OwD base w v d b1 b2 b3) (u : Out b1 b2 w w') {vc vd : Value} {c : List Opd} {xs : List Int} (hc : OwC base w' vc c) (hn : w'.ownsRow base 3 1 vd xs.length (xs.map (Value.int .i64))) :
    OwE base w' ⟨vc, v.vo, vd, v.vl, v.vk⟩ ⟨c, d.origs, xs, d.loops, d.cases⟩ := by
  have e1 := h.le1
  have e2 := h.le2
  have e3 := h.le3
  exact ⟨hc, own_outT h.origs (Or.inl rfl) (fun k hk => Or.inl (h.origsL k hk)) u, hn, (h.loops.out u (Or.inr (by omega))).owe (by omega), (h.cases.out u (Or.inr (by omega))).owe (by omega)⟩
theorem OwD.toL {base b1 b2 b3 : Nat} {w w' : World} {v : Dv} {d : Dft} (h : OwD base w v d b1 b2 b3) (u : Out b2 b3 w w') {vc vl : Value} {c : List Opd} {xs : List Opn} (hc : OwC base w' vc c) (hn : OwnR 58 2 (opnO base) base w' vl xs) :
    OwE base w' ⟨vc, v.vo, v.vd, vl, v.vk⟩ ⟨c, d.origs, d.dests, xs, d.cases⟩ := by
  have e1 := h.le1
  have e2 := h.le2
  have e3 := h.le3
  exact ⟨hc, own_outT h.origs (Or.inl rfl) (fun k hk => Or.inl (by have := h.origsL k hk; omega)) u, own_le e1 (own_outT h.dests (Or.inl rfl) (fun k hk => Or.inl (h.destsL k hk)) u), hn, (h.cases.out u (Or.inr (by omega))).owe (by omega)⟩
theorem OwD.toK {base b1 b2 b3 hi : Nat} {w w' : World} {v : Dv} {d : Dft} (h : OwD base w v d b1 b2 b3) (u : Out b3 hi w w') {vc vk : Value} {c : List Opd} {xs : List Opn} (hc : OwC base w' vc c) (hn : OwnR 58 2 (opnO base) base w' vk xs) :
    OwE base w' ⟨vc, v.vo, v.vd, v.vl, vk⟩ ⟨c, d.origs, d.dests, d.loops, xs⟩ := by
  have e1 := h.le1
  have e2 := h.le2
  have e3 := h.le3
  exact ⟨hc, own_outT h.origs (Or.inl rfl) (fun k hk => Or.inl (by have := h.origsL k hk; omega)) u, own_le e1 (own_outT h.dests (Or.inl rfl) (fun k hk => Or.inl (by have := h.destsL k hk; omega)) u), (h.loops.out u (Or.inl (Nat.le_refl _))).owe (by omega), hn⟩

/-- the newest of what is open, where it lies -/
structure Nwst (lo hi : Nat) (w : World) (v : Value) (l : List Opn) (g cap : Nat) (rows : List (List Value)) (vo : Value) : Prop where
  form : v = .slice (some ⟨g, 0, none⟩) l.length cap
  len : rows.length = l.length
  two : ∀ r ∈ rows, r.length = 2
  own : w.ownsRow lo 58 2 v l.length rows.flatten
  each : ∀ i (h : i < l.length), opnO lo w (rows.getD i []) l[i]
  sep : SepK rows
  below : LtB v hi
  outsB : LtB vo hi
  row : rows.getD (l.length - 1) [] = [.int .i64 (nwO l).1, vo]
  outs : w.ownsRow lo 3 1 vo (nwO l).2.length ((nwO l).2.map (Value.int .i64))
  cellA : w.cell? ⟨g, (l.length - 1) * 2, none⟩ = some (.int .i64 (nwO l).1)
  cellO : w.cell? ⟨g, (l.length - 1) * 2 + 1, none⟩ = some vo
  free : ∀ j, w.frozen? ⟨g, j, none⟩ = false
theorem OwN.newest {lo hi : Nat} {w : World} {v : Value} {l : List Opn} (h : OwN lo hi w v l) (hl : 0 < l.length) : ∃ g cap rows vo, Nwst lo hi w v l g cap rows vo := by
  obtain ⟨rows, p1, p2, p3, p4, p5, p6, p7⟩ := h
  obtain ⟨g, cap, rfl⟩ := own_some p3 hl
  have hi1 : l.length - 1 < l.length := by omega
  have hn : nwO l = l[l.length - 1] := by
    unfold nwO
    rw [List.getD_eq_getElem?_getD, List.getElem?_eq_getElem hi1]
    rfl
  obtain ⟨vo, h1, h2⟩ := p4 _ hi1
  rw [← hn] at h1 h2
  refine ⟨g, cap, rows, vo, rfl, p1, p2, p3, p4, p5, p6, ?_, h1, h2, ?_, ?_, fun j => p3.frozenAt _⟩
  · have := p7 (l.length - 1) (by omega)
    rw [h1] at this
    exact this
  · refine own_cell p3 ((l.length - 1) * 2) _ ?_
    have := flat_get rows 2 (l.length - 1) 0 p2 (by omega) (by decide)
    rw [Nat.add_zero] at this
    rw [this, h1]
    rfl
  · refine own_cell p3 ((l.length - 1) * 2 + 1) _ ?_
    rw [flat_get rows 2 (l.length - 1) 1 p2 (by omega) (by decide), h1]
    rfl
theorem Nwst.sepOf {lo hi : Nat} {w : World} {v vo : Value} {l : List Opn} {g cap : Nat} {rows : List (List Value)} (h : Nwst lo hi w v l g cap rows vo) {i : Nat} (hi : i < l.length - 1) (k : Nat) (hk : ((rows.getD i []).getD 1 (.slice none 0 0)).ownBlock = some k) : vo.ownBlock ≠ some k := by
  intro e
  have hl := h.len
  exact h.sep i (l.length - 1) k hi (by omega) hk (by rw [h.row]; exact e)
/-- the branches of all others stand, where those of the newest have grown -/
theorem Nwst.others {lo hi : Nat} {w w' : World} {v vo : Value} {l : List Opn} {g cap : Nat} {rows : List (List Value)} (h : Nwst lo hi w v l g cap rows vo) (gr : w.grownBy w' vo.ownBlock) (i : Nat) (hi : i < l.length - 1) : opnO lo w' (rows.getD i []) (l[i]'(by omega)) := by
  obtain ⟨vi, h1, h2⟩ := h.each i (by omega)
  refine ⟨vi, h1, grown_below gr h2 (fun k hk e => h.sepOf hi k (by rw [h1]; exact hk) e)⟩
/-- the newest taken off -/
theorem Nwst.cut {lo hi : Nat} {w w' : World} {v vo : Value} {l : List Opn} {g cap : Nat} {rows : List (List Value)} (h : Nwst lo hi w v l g cap rows vo) (gr : w.grownBy w' vo.ownBlock) : OwnR 58 2 (opnO lo) lo w' (.slice (some ⟨g, 0, none⟩) (l.length - 1) cap) (l.take (l.length - 1)) := by
  have hl := h.len
  have kj : Kept 3 w w' := Kept.own h.outs gr
  have o1 := own_kept kj (by decide) h.own
  rw [h.form] at o1
  have o2 := own_take o1 (l.length - 1) (by omega)
  rw [flat_take rows 2 _ h.two] at o2
  refine ⟨rows.take (l.length - 1), by simp [hl], fun r hr => h.two r (List.mem_of_mem_take hr), by simpa using o2, fun i hi => ?_⟩
  have hi2 : i < l.length - 1 := by simpa using hi
  have e1 : (rows.take (l.length - 1)).getD i [] = rows.getD i [] := by rw [List.getD_eq_getElem?_getD, List.getElem?_take_of_lt hi2, ← List.getD_eq_getElem?_getD]
  rw [e1, List.getElem_take]
  exact h.others gr i hi2
/-- the newest one's branches put anew -/
theorem Nwst.put {lo hi : Nat} {w w' : World} {v vo : Value} {l : List Opn} {g cap : Nat} {rows : List (List Value)} (h : Nwst lo hi w v l g cap rows vo) (hl0 : 0 < l.length) (gr : w.grownBy w' vo.ownBlock) (vn : Value) (xs : List Int) (hx : w'.ownsRow lo 3 1 vn xs.length (xs.map (Value.int .i64))) :
    OwnR 58 2 (opnO lo) lo (w'.setCell ⟨g, (l.length - 1) * 2 + 1, none⟩ vn) v (l.set (l.length - 1) ((nwO l).1, xs)) ∧ w'.grownBy (w'.setCell ⟨g, (l.length - 1) * 2 + 1, none⟩ vn) (some g) ∧ Kept 58 w' (w'.setCell ⟨g, (l.length - 1) * 2 + 1, none⟩ vn) ∧ (∃ u, w'.cell? ⟨g, (l.length - 1) * 2 + 1, none⟩ = some u) ∧ w'.frozen? ⟨g, (l.length - 1) * 2 + 1, none⟩ = false := by
  have hl := h.len
  have kj : Kept 3 w w' := Kept.own h.outs gr
  have o1 := own_kept kj (by decide) h.own
  rw [h.form] at o1 ⊢
  obtain ⟨s1, s2⟩ := o1.stored ((l.length - 1) * 2 + 1) vn
  have kn : Kept 58 w' (w'.setCell ⟨g, (l.length - 1) * 2 + 1, none⟩ vn) := Kept.own (v := .slice (some ⟨g, 0, none⟩) l.length cap) o1 (by simpa [Value.ownBlock] using s2)
  rw [flat_set rows 2 (l.length - 1) 1 vn h.two (by omega) (by decide)] at s1
  have ha : Apt 58 (opnO lo) := opnO_apt (by decide)
  have hrow2 : (rows.getD (l.length - 1) []).set 1 vn = [.int .i64 (nwO l).1, vn] := by rw [h.row]; rfl
  refine ⟨⟨rows.set (l.length - 1) ((rows.getD (l.length - 1) []).set 1 vn), by simp [hl], fun r hr => ?_, by simpa using s1, fun i hi => ?_⟩, by simpa [Value.ownBlock] using s2, kn, ⟨vo, own_cell o1 ((l.length - 1) * 2 + 1) _ (by rw [flat_get rows 2 (l.length - 1) 1 h.two (by omega) (by decide), h.row]; rfl)⟩, o1.frozenAt _⟩
  · rcases List.mem_or_eq_of_mem_set hr with hr | rfl
    · exact h.two r hr
    · rw [hrow2]; rfl
  · rw [List.length_set] at hi
    rw [List.getElem_set]
    by_cases hin : l.length - 1 = i
    · rw [if_pos hin, List.getD_eq_getElem?_getD, ← hin, List.getElem?_set_self (by omega)]
      show opnO lo _ ((rows.getD (l.length - 1) []).set 1 vn) _
      rw [hrow2]
      exact ha _ _ _ _ kn ⟨vn, rfl, hx⟩
    · rw [if_neg hin, List.getD_eq_getElem?_getD, List.getElem?_set_ne hin, ← List.getD_eq_getElem?_getD]
      exact ha _ _ _ _ kn (h.others gr i (by omega))
/-- where the newest one began put anew -/
theorem opn_setA {lo g cap : Nat} {w : World} {l : List Opn} (h : OwnR 58 2 (opnO lo) lo w (.slice (some ⟨g, 0, none⟩) l.length cap) l) (hl : 0 < l.length) (x : Int) :
    OwnR 58 2 (opnO lo) lo (w.setCell ⟨g, (l.length - 1) * 2, none⟩ (.int .i64 x)) (.slice (some ⟨g, 0, none⟩) l.length cap) (l.set (l.length - 1) (x, (nwO l).2)) ∧ Kept 58 w (w.setCell ⟨g, (l.length - 1) * 2, none⟩ (.int .i64 x)) ∧ w.grownBy (w.setCell ⟨g, (l.length - 1) * 2, none⟩ (.int .i64 x)) (some g) ∧ (∃ u, w.cell? ⟨g, (l.length - 1) * 2, none⟩ = some u) ∧ w.frozen? ⟨g, (l.length - 1) * 2, none⟩ = false := by
  obtain ⟨rows, p1, p2, p3, p4⟩ := h
  have hn : nwO l = l[l.length - 1]'(by omega) := by
    unfold nwO
    rw [List.getD_eq_getElem?_getD, List.getElem?_eq_getElem (by omega)]
    rfl
  obtain ⟨vo, h1, h2⟩ := p4 (l.length - 1) (by omega)
  rw [← hn] at h1 h2
  have k0 := (p3.stored ((l.length - 1) * 2) (.int .i64 x)).2
  have kn : Kept 58 w (w.setCell ⟨g, (l.length - 1) * 2, none⟩ (.int .i64 x)) := Kept.own (v := .slice (some ⟨g, 0, none⟩) l.length cap) p3 (by simpa [Value.ownBlock] using k0)
  have h := OwnR.set (O := opnO lo) (e := 58) (opnO_apt (by decide)) p1 p2 p3 p4 (l.length - 1) 0 (by omega) (by decide) (.int .i64 x) (x, (nwO l).2) (by rw [h1]; exact ⟨vo, rfl, own_kept kn (by decide) h2⟩)
  refine ⟨h.1, h.2, by simpa [Value.ownBlock] using k0, ⟨.int .i64 (nwO l).1, own_cell p3 ((l.length - 1) * 2) _ ?_⟩, p3.frozenAt _⟩
  have := flat_get rows 2 (l.length - 1) 0 p2 (by omega) (by decide)
  rw [Nat.add_zero] at this
  rw [this, h1]
  rfl
theorem idx_opn (g n cap : Nat) (hn : 0 < n) : ∀ w', (Instr.indexAt 24 (.slice (some ⟨g, 0, none⟩) n cap) (.int .i64 ((n : Int) - 1))).run Try.prog w' = .ok (.pointer (some ⟨g, (n - 1) * 2, none⟩)) w' := by
  intro w'
  rw [run_indexAt_slice (h := uK), if_pos ⟨by omega, by omega⟩, zK]
  simp only [Result.andThen]
  rw [show ((n : Int) - 1).toNat = n - 1 by omega]
  congr 3
  unfold Addr.add
  split
  · rename_i hz; rw [hz]
  · simp
theorem idx_int (g n cap : Nat) (hn : 0 < n) : ∀ w', (Instr.indexAt 23 (.slice (some ⟨g, 0, none⟩) n cap) (.int .i64 ((n : Int) - 1))).run Try.prog w' = .ok (.pointer (some ⟨g, n - 1, none⟩)) w' := by
  intro w'
  rw [run_indexAt_slice (h := uJ), if_pos ⟨by omega, by omega⟩, zJ]
  simp only [Result.andThen]
  rw [show ((n : Int) - 1).toNat = n - 1 by omega]
  congr 3
  unfold Addr.add
  split
  · rename_i hz; rw [show n - 1 = 0 by omega]
  · simp
theorem cut_int (g n cap : Nat) (hn : 0 < n) (hc : n ≤ cap) : ∀ w', (Instr.slice 23 (.slice (some ⟨g, 0, none⟩) n cap) none (some (.int .i64 ((n : Int) - 1))) none).run Try.prog w' = .ok (.slice (some ⟨g, 0, none⟩) (n - 1) cap) w' := by
  intro w'
  rw [run_slice_h w' 23 _ n cap uJ .i64 ((n : Int) - 1) (by omega) (by omega), zJ]
  simp [Result.andThen, sliced, Addr.add]
theorem cut_opn (g n cap : Nat) (hn : 0 < n) (hc : n ≤ cap) : ∀ w', (Instr.slice 24 (.slice (some ⟨g, 0, none⟩) n cap) none (some (.int .i64 ((n : Int) - 1))) none).run Try.prog w' = .ok (.slice (some ⟨g, 0, none⟩) (n - 1) cap) w' := by
  intro w'
  rw [run_slice_h w' 24 _ n cap uK .i64 ((n : Int) - 1) (by omega) (by omega), zK]
  simp [Result.andThen, sliced, Addr.add]
theorem own_cap {w : World} {base : Nat} {e : TypeId} {sz g n cap : Nat} {cs : List Value} (o : w.ownsRow base e sz (.slice (some ⟨g, 0, none⟩) n cap) n cs) : n ≤ cap := by
  obtain ⟨_, o⟩ := o
  rcases o with ⟨h, _⟩ | ⟨b, cap', cur, h, h1, h2, h3⟩
  · simp at h
  · simp at h
    obtain ⟨rfl, rfl⟩ := h
    omega
/-- the newest number alone -/
theorem tail_int {w : World} {base g cap : Nat} {xs : List Int} (hl : 0 < xs.length) (o : w.ownsRow base 3 1 (.slice (some ⟨g, 0, none⟩) xs.length cap) xs.length (xs.map (Value.int .i64))) :
    ∃ v', (∀ w', (Instr.slice 23 (.slice (some ⟨g, 0, none⟩) xs.length cap) (some (.int .i64 ((xs.length : Int) - 1))) none none).run Try.prog w' = .ok v' w') ∧ ∀ W : World, W.ownsRow base 3 1 (.slice (some ⟨g, 0, none⟩) xs.length cap) xs.length (xs.map (Value.int .i64)) → Rd .i64 W v' [nwI xs] := by
  have key : ∀ W : World, W.ownsRow base 3 1 (.slice (some ⟨g, 0, none⟩) xs.length cap) xs.length (xs.map (Value.int .i64)) → ∃ v', Rd .i64 W v' [nwI xs] ∧ ∀ w', (Instr.slice 23 (.slice (some ⟨g, 0, none⟩) xs.length cap) (some (.int .i64 ((xs.length : Int) - 1))) none none).run Try.prog w' = .ok v' w' := by
    intro W oW
    obtain ⟨v', r, -, -, a⟩ := rd_cutI (Rd_own oW).1 uJ zJ ((xs.length : Int) - 1) xs.length (by omega) (by omega) (by omega)
    refine ⟨v', ?_, a rfl⟩
    have e1 : (xs.drop ((xs.length : Int) - 1).toNat).take ((xs.length : Int) - ((xs.length : Int) - 1)).toNat = [nwI xs] := by
      rw [show ((xs.length : Int) - 1).toNat = xs.length - 1 by omega, show ((xs.length : Int) - ((xs.length : Int) - 1)).toNat = 1 by omega]
      have hx : xs.length - 1 < xs.length := by omega
      rw [List.drop_eq_getElem_cons hx]
      unfold nwI
      rw [List.getD_eq_getElem?_getD, List.getElem?_eq_getElem hx]
      rfl
    rw [e1] at r
    exact r
  obtain ⟨v', r, a⟩ := key w o
  refine ⟨v', a, fun W oW => ?_⟩
  obtain ⟨v2, r2, a2⟩ := key W oW
  have := (a w).symm.trans (a2 w)
  injection this with this
  rw [this]
  exact r2
theorem OwN.rng {lo hi : Nat} {w : World} {v : Value} {l : List Opn} (h : OwN lo hi w v l) (k : Nat) (hk : v.ownBlock = some k) : lo ≤ k ∧ k < hi := by
  obtain ⟨rows, p1, p2, p3, p4, p5, p6, p7⟩ := h
  exact ⟨(p3.lt k hk).1, p6 k hk⟩
theorem Nwst.rng {lo hi : Nat} {w : World} {v vo : Value} {l : List Opn} {g cap : Nat} {rows : List (List Value)} (h : Nwst lo hi w v l g cap rows vo) (k : Nat) (hk : vo.ownBlock = some k) : lo ≤ k ∧ k < hi := ⟨(h.outs.lt k hk).1, h.outsB k hk⟩
theorem Nwst.kept {lo hi : Nat} {T : TypeId} {w w' : World} {v vo : Value} {l : List Opn} {g cap : Nat} {rows : List (List Value)} (h : Nwst lo hi w v l g cap rows vo) (hl : 0 < l.length) (k : Kept T w w') (hj : ¬ 3 = T) (hn : ¬ 58 = T) : Nwst lo hi w' v l g cap rows vo := by
  have h0 := h.len
  have o := own_kept k hn h.own
  rw [h.form] at o
  refine ⟨h.form, h.len, h.two, own_kept k hn h.own, fun i hi => opnO_apt hj _ _ _ _ k (h.each i hi), h.sep, h.below, h.outsB, h.row, own_kept k hj h.outs, ?_, ?_, fun j => o.frozenAt _⟩
  · refine own_cell o ((l.length - 1) * 2) _ ?_
    have := flat_get rows 2 (l.length - 1) 0 h.two (by omega) (by decide)
    rw [Nat.add_zero] at this
    rw [this, h.row]
    rfl
  · refine own_cell o ((l.length - 1) * 2 + 1) _ ?_
    rw [flat_get rows 2 (l.length - 1) 1 h.two (by omega) (by decide), h.row]
    rfl
theorem nwI_get {l : List Int} (h : 0 < l.length) : (l.map (Value.int .i64))[l.length - 1]? = some (.int .i64 (nwI l)) := by
  have hl : l.length - 1 < l.length := by omega
  rw [List.getElem?_map, List.getElem?_eq_getElem hl]
  unfold nwI
  rw [List.getD_eq_getElem?_getD, List.getElem?_eq_getElem hl]
  rfl
theorem idx_opI (g n cap : Nat) (x : Int) (h0 : 0 ≤ x) (h1 : x < n) : ∀ w', (Instr.indexAt 22 (.slice (some ⟨g, 0, none⟩) n cap) (.int .i64 x)).run Try.prog w' = .ok (.pointer (some ⟨g, x.toNat * 2, none⟩)) w' := by
  have := idx_op g n cap x.toNat (by omega)
  rw [show ((x.toNat : Nat) : Int) = x by omega] at this
  exact this
theorem setN_nat (c : List Opd) (x to : Int) (h : 0 ≤ x) : setN c ((x.toNat : Nat) : Int) to = setN c x to := by rw [show ((x.toNat : Nat) : Int) = x by omega]
theorem nwO_set {l : List Opn} (h : 0 < l.length) (x : Opn) : nwO (l.set (l.length - 1) x) = x := by
  unfold nwO
  rw [List.length_set, List.getD_eq_getElem?_getD, List.getElem?_set_self (by omega)]
  rfl
theorem opn_cellA {lo g cap : Nat} {w : World} {l : List Opn} (h : OwnR 58 2 (opnO lo) lo w (.slice (some ⟨g, 0, none⟩) l.length cap) l) (hl : 0 < l.length) : w.cell? ⟨g, (l.length - 1) * 2, none⟩ = some (.int .i64 (nwO l).1) := by
  obtain ⟨rows, p1, p2, p3, p4⟩ := h
  have hn : nwO l = l[l.length - 1]'(by omega) := by
    unfold nwO
    rw [List.getD_eq_getElem?_getD, List.getElem?_eq_getElem (by omega)]
    rfl
  obtain ⟨vo, h1, h2⟩ := p4 (l.length - 1) (by omega)
  rw [← hn] at h1
  refine own_cell p3 ((l.length - 1) * 2) _ ?_
  have := flat_get rows 2 (l.length - 1) 0 p2 (by omega) (by decide)
  rw [Nat.add_zero] at this
  rw [this, h1]
  rfl
theorem opnO_leR {base lo : Nat} {w : World} {v : Value} {l : List Opn} (h : OwnR 58 2 (opnO lo) lo w v l) (hl : base ≤ lo) : OwnR 58 2 (opnO base) base w v l := OwnR.le hl h (fun cs x q => opnO_le hl cs x q)
theorem slice_inj {a b : Option Addr} {n m c e : Nat} (h : Value.slice a n c = Value.slice b m e) : a = b ∧ c = e := by
  injection h with h1 h2 h3
  exact ⟨h1, h3⟩
theorem rd_maxI {k : IntKind} {w : World} {v : Value} {xs : List Int} (h : Rd k w v xs) : xs.length ≤ maxLen := by
  rcases h with ⟨_, _, _, _, e⟩ | ⟨_, _, _, _, _, g1, g2, _⟩
  · rw [e]; simp
  · omega
/-- there is room for one more in each list -/
structure szE (d : Dft) : Prop where
  origs : d.origs.length * 8 ≤ 140737488351232
  dests : d.dests.length * 8 ≤ 140737488351232
  loops : d.loops.length * 32 ≤ 189999999999000
  cases : d.cases.length * 32 ≤ 189999999999000
  louts : ∀ x ∈ d.loops, x.2.length * 8 ≤ 140737488351232
  kouts : ∀ x ∈ d.cases, x.2.length * 8 ≤ 140737488351232
end Go.Proofs.Ytfmpeminfcehaaa
