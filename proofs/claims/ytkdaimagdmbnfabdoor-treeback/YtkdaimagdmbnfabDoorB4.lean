/-
  Texts of one proof, laid one behind the other: Rt8 Rta Rtb Rtc Tf7 Tf8 Rtd Rte Tf9 Rtf Ow3 Tfa Rt9 Plc Pbd Plq Plf Ps3 Pp3.
-/
import Derived.Test.YtkdaimagdmbnfabDoorB3
import Derived.Deep.RegionHeld
import Derived.Deep.Cut
import Derived.Deep.CutRange
import Derived.Deep.DeepCutAuto
import Derived.Laws.IdiomCopy
import Derived.Deep.RegionLaw
import Derived.BigFrame
import Derived.Lib.Bytealg
import Derived.Lib.Strings
import Derived.Lib.Builder
import Derived.Lib.AppendStr
import Derived.Lib.UnsafeStr
import Derived.Laws.BitsAllLaws
namespace Go.Proofs.YtkdaimagdmbnfabDoor
open Go.ChangeShapes Go.WideShapes Go.ChangeAt Go.RowKit
set_option linter.unusedVariables false
set_option linter.unusedSimpArgs false

/-
  New and Add of the document's answer for trees.
-/
/-- a formed tree is small -/
theorem frm_siz {t : List Nd} (hf : frmT t = true) : t.length ≤ 32 ∧ ∀ x ∈ t, sizN x := by
  obtain ⟨g0, g1, g2, g3⟩ := (frm_iff t).1 hf
  refine ⟨g1, fun x hx => ?_⟩
  obtain ⟨i, hi, rfl⟩ := List.getElem_of_mem hx
  have h := g3 i hi
  unfold okN at h
  simp only [Bool.and_eq_true, Bool.or_eq_true, decide_eq_true_eq] at h
  obtain ⟨h1, h2, h3, h4⟩ := h
  have hu : t[i].2.1.length ≤ 4 := by
    rcases h1 with h1 | h1
    · subst h1
      unfold rootF at g2
      simp only [Bool.and_eq_true, decide_eq_true_eq] at g2
      rw [g2.2.1]
      simp
    · unfold okA at h1
      simp only [Bool.and_eq_true, decide_eq_true_eq] at h1
      omega
  refine ⟨by omega, by omega, by omega, fun p hp => ?_⟩
  have := (((okR_iff _).1 h4).1 p hp).2
  omega

/-
  A device's properties put anew in a tree of the call's own.
-/
theorem grown_below {w w' : World} {r : Option Nat} (g : w.grownBy w' r) {e : TypeId} {sz base : Nat} {v : Value} {n : Nat} {cs : List Value} (o : w.ownsRow base e sz v n cs) (hne : ∀ k, v.ownBlock = some k → r ≠ some k) : w'.ownsRow base e sz v n cs := by
  obtain ⟨hl, o⟩ := o
  refine ⟨hl, ?_⟩
  rcases o with h | ⟨b, cap, cur, rfl, h1, h2, h3⟩
  · exact Or.inl h
  · refine Or.inr ⟨b, cap, cur, rfl, h1, ?_, h3⟩
    rw [g.block b (Array.getElem?_eq_some_iff.1 h2).1 (fun e => hne b rfl e.symm)]
    exact h2
/-- a device stands, where a block of properties that is not its own has grown -/
theorem nodO_grown {base : Nat} {w w' : World} {r : Option Nat} (g : w.grownBy w' r) (k : Kept 33 w w') {cs : List Value} {x : Nd} (h : nodO base w cs x) (hne : ∀ b, (cs.getD 3 (.slice none 0 0)).ownBlock = some b → r ≠ some b) : nodO base w' cs x := by
  obtain ⟨vu, vp, vc, rfl, o1, ⟨rows, p1, p2, p3, p4⟩, o3⟩ := h
  refine ⟨vu, vp, vc, rfl, own_kept k (by decide) o1, ⟨rows, p1, p2, grown_below g p3 (by simpa using hne), fun i hi => ?_⟩, own_kept k (by decide) o3⟩
  exact propO_apt (by decide) _ _ _ _ k (p4 i hi)

theorem ts_put {base : Nat} {w w1 : World} {g m cap n : Nat} {t : List Nd} {rows : List (List Value)} (h1 : rows.length = t.length) (h2 : ∀ r ∈ rows, r.length = 5) (h3 : w.ownsRow base 30 5 (.slice (some ⟨g, 0, none⟩) m cap) t.length rows.flatten) (h4 : ∀ i (h : i < t.length), nodO base w (rows.getD i []) t[i]) (h5 : SepR rows)
    (hn : n < t.length) {nm vu vp vc : Value} {p : Value} (hrow : rows.getD n [] = [nm, vu, p, vp, vc]) (gr : w.grownBy w1 vp.ownBlock) (kp : Kept 33 w w1) {l : List Pp} {vp' : Value} (hp : OwnR 33 2 (propO base) base w1 vp' l)
    (hs : vp'.ownBlock = vp.ownBlock ∨ ∀ k, vp'.ownBlock = some k → w.heap.size ≤ k) :
    OwnTS base (w1.setCell ⟨g, n * 5 + 3, none⟩ vp') (.slice (some ⟨g, 0, none⟩) m cap) (t.set n (t[n].1, t[n].2.1, t[n].2.2.1, l, t[n].2.2.2.2)) := by
  have hsep : ∀ j, j < rows.length → j ≠ n → ∀ b, ((rows.getD j []).getD 3 (.slice none 0 0)).ownBlock = some b → vp.ownBlock ≠ some b := by
    intro j hj hjn b hb hv
    have hvp : ((rows.getD n []).getD 3 (.slice none 0 0)).ownBlock = some b := by rw [hrow]; exact hv
    rcases Nat.lt_or_gt_of_ne hjn with hlt | hgt
    · exact h5 j n b hlt (by omega) hb hvp
    · exact h5 n j b hgt hj hvp hb
  have k4 : ∀ i (h : i < t.length), i ≠ n → nodO base w1 (rows.getD i []) t[i] := fun i hi hin => nodO_grown gr kp (h4 i hi) (fun b hb => hsep i (by omega) hin b hb)
  have h3' : w1.ownsRow base 30 5 (.slice (some ⟨g, 0, none⟩) m cap) t.length rows.flatten := own_kept kp (by decide) h3
  have hmt : m = t.length := by
    obtain ⟨_, h3⟩ := h3
    rcases h3 with ⟨h, _⟩ | ⟨g', cap', cur, h, _⟩
    · simp at h
    · simp at h; exact h.2.1
  subst hmt
  obtain ⟨s1, s2⟩ := h3'.stored (n * 5 + 3) vp'
  have kn : Kept 30 w1 (w1.setCell ⟨g, n * 5 + 3, none⟩ vp') := Kept.own (v := .slice (some ⟨g, 0, none⟩) t.length cap) h3' (by simpa [Value.ownBlock] using s2)
  rw [flat_set rows 5 n 3 vp' h2 (by omega) (by decide)] at s1
  have ha : Apt 30 (nodO base) := nodO_apt (by decide) (by decide) (by decide)
  obtain ⟨vu0, vp0, vc0, hcs, o1, o2, o3⟩ := h4 n hn
  rw [hrow] at hcs
  simp at hcs
  obtain ⟨rfl, rfl, rfl, rfl, rfl⟩ := hcs
  have hrow2 : (rows.getD n []).set 3 vp' = [.string (strOfNums t[n].1), vu, .int .i64 t[n].2.2.1, vp', vc] := by rw [hrow]; rfl
  refine ⟨rows.set n ((rows.getD n []).set 3 vp'), by simp [h1], fun r hr => ?_, by simpa using s1, fun i hi => ?_, ?_⟩
  · rcases List.mem_or_eq_of_mem_set hr with hr | rfl
    · exact h2 r hr
    · rw [hrow2]; rfl
  · rw [List.length_set] at hi
    rw [List.getElem_set]
    by_cases hin : n = i
    · subst hin
      rw [if_pos rfl, List.getD_eq_getElem?_getD, List.getElem?_set_self (by omega)]
      show nodO base _ ((rows.getD n []).set 3 vp') _
      rw [hrow2]
      exact ha _ _ _ _ kn ⟨vu, vp', vc, rfl, own_kept kp (by decide) o1, hp, own_kept kp (by decide) o3⟩
    · rw [if_neg hin, List.getD_eq_getElem?_getD, List.getElem?_set_ne hin, ← List.getD_eq_getElem?_getD]
      exact ha _ _ _ _ kn (k4 i hi (fun e => hin e.symm))
  · have hget : ∀ j, ((rows.set n ((rows.getD n []).set 3 vp')).getD j []) = if j = n then (rows.getD n []).set 3 vp' else rows.getD j [] := by
      intro j
      by_cases hj : j = n
      · subst hj
        rw [if_pos rfl, List.getD_eq_getElem?_getD, List.getElem?_set_self (by omega)]
        rfl
      · rw [if_neg hj, List.getD_eq_getElem?_getD, List.getElem?_set_ne (fun e => hj e.symm), ← List.getD_eq_getElem?_getD]
    have hnew : ∀ j b, j < rows.length → j ≠ n → ((rows.getD j []).getD 3 (.slice none 0 0)).ownBlock = some b → vp'.ownBlock ≠ some b := by
      intro j b hj hjn hb hv
      rcases hs with hs | hs
      · exact hsep j hj hjn b hb (by rw [← hs]; exact hv)
      · have := hs b hv
        obtain ⟨vu9, vp9, vc9, hv9, -, op9, -⟩ := h4 j (by omega)
        obtain ⟨cs9, o9⟩ := op9.row
        rw [hv9] at hb
        have a1 := (o9.lt b (by simpa using hb)).2
        omega
    intro i j b hij hj hib hjb
    rw [List.length_set] at hj
    rw [hget] at hib hjb
    by_cases hi : i = n
    · rw [if_pos hi, hrow2] at hib
      rw [if_neg (by omega)] at hjb
      exact hnew j b hj (by omega) hjb hib
    · rw [if_neg hi] at hib
      by_cases hjn : j = n
      · rw [if_pos hjn, hrow2] at hjb
        exact hnew i b (by omega) hi hib hjb
      · rw [if_neg hjn] at hjb
        exact h5 i j b hij hj hib hjb

/-
  Set of the document's answer for trees: what is refused.
-/
/-- a device of a row of the call's own: where it lies -/
theorem idx_node (g m cap n : Nat) (h : n < m) : ∀ w', (Instr.indexAt 22 (.slice (some ⟨g, 0, none⟩) m cap) (.int .i64 (n : Int))).run Tryd.prog w' = .ok (.pointer (some ⟨g, n * 5, none⟩)) w' := by
  intro w'
  rw [run_indexAt_slice (h := uN), if_pos ⟨by omega, by omega⟩, zN]
  simp only [Result.andThen, Int.toNat_natCast]
  congr 3
  unfold Addr.add
  split
  · rename_i hz; rw [hz]
  · simp
theorem idx_prop (g m cap n : Nat) (h : n < m) : ∀ w', (Instr.indexAt 28 (.slice (some ⟨g, 0, none⟩) m cap) (.int .i64 (n : Int))).run Tryd.prog w' = .ok (.pointer (some ⟨g, n * 2, none⟩)) w' := by
  intro w'
  rw [run_indexAt_slice (h := uR), if_pos ⟨by omega, by omega⟩, zR]
  simp only [Result.andThen, Int.toNat_natCast]
  congr 3
  unfold Addr.add
  split
  · rename_i hz; rw [hz]
  · simp

/-
  Set of the document's answer for trees: a property that is there.
-/
theorem own_some {w : World} {base : Nat} {e : TypeId} {sz : Nat} {v : Value} {n : Nat} {cs : List Value} (o : w.ownsRow base e sz v n cs) (h : 0 < n) : ∃ g cap, v = .slice (some ⟨g, 0, none⟩) n cap := by
  rcases o.2 with ⟨_, h0⟩ | ⟨g, cap, cur, hv, _⟩
  · omega
  · exact ⟨g, cap, hv⟩
theorem own_cell {w : World} {base : Nat} {e : TypeId} {sz g n cap : Nat} {cs : List Value} (o : w.ownsRow base e sz (.slice (some ⟨g, 0, none⟩) n cap) n cs) (j : Nat) (u : Value) (h : cs[j]? = some u) : w.cell? ⟨g, j, none⟩ = some u := by
  have h1 := o.cells (g := g) rfl j u h
  have e1 : (⟨g, 0, none⟩ : Addr).add j = ⟨g, j, none⟩ := by
    unfold Addr.add
    split
    · rename_i hz; rw [hz]
    · simp
  rwa [e1] at h1
/-- the properties of a device changed in their place -/
theorem ts_in {base : Nat} {w w1 : World} {v : Value} {n : Nat} {t : List Nd} {rows : List (List Value)} (h1 : rows.length = t.length) (h2 : ∀ r ∈ rows, r.length = 5) (h3 : w.ownsRow base 30 5 v t.length rows.flatten) (h4 : ∀ i (h : i < t.length), nodO base w (rows.getD i []) t[i]) (h5 : SepR rows)
    (hn : n < t.length) {nm vu vp vc : Value} {p : Value} (hrow : rows.getD n [] = [nm, vu, p, vp, vc]) (gr : w.grownBy w1 vp.ownBlock) (kp : Kept 33 w w1) {l : List Pp} (hp : OwnR 33 2 (propO base) base w1 vp l) :
    OwnTS base w1 v (t.set n (t[n].1, t[n].2.1, t[n].2.2.1, l, t[n].2.2.2.2)) := by
  have hsep : ∀ j, j < rows.length → j ≠ n → ∀ b, ((rows.getD j []).getD 3 (.slice none 0 0)).ownBlock = some b → vp.ownBlock ≠ some b := by
    intro j hj hjn b hb hv
    have hvp : ((rows.getD n []).getD 3 (.slice none 0 0)).ownBlock = some b := by rw [hrow]; exact hv
    rcases Nat.lt_or_gt_of_ne hjn with hlt | hgt
    · exact h5 j n b hlt (by omega) hb hvp
    · exact h5 n j b hgt hj hvp hb
  have k4 : ∀ i (h : i < t.length), i ≠ n → nodO base w1 (rows.getD i []) t[i] := fun i hi hin => nodO_grown gr kp (h4 i hi) (fun b hb => hsep i (by omega) hin b hb)
  obtain ⟨vu0, vp0, vc0, hcs, o1, o2, o3⟩ := h4 n hn
  rw [hrow] at hcs
  simp at hcs
  obtain ⟨rfl, rfl, rfl, rfl, rfl⟩ := hcs
  refine ⟨rows, by simp [h1], h2, by simpa using own_kept kp (by decide) h3, fun i hi => ?_, h5⟩
  rw [List.length_set] at hi
  rw [List.getElem_set]
  by_cases hin : n = i
  · subst hin
    rw [if_pos rfl, hrow]
    exact ⟨vu, vp, vc, rfl, own_kept kp (by decide) o1, hp, own_kept kp (by decide) o3⟩
  · rw [if_neg hin]
    exact k4 i hi (fun e => hin e.symm)

/-
  Package tree's Copy.
-/
theorem gb_refl (w : World) (r : Option Nat) : w.grownBy w r := ⟨rfl, rfl, rfl, Nat.le_refl _, fun _ _ _ => rfl⟩
theorem gb_below {a b c : World} {r : Option Nat} (h : a.grownBy b r) (g : Below b.heap.size b c) : a.grownBy c r :=
  ⟨g.os.trans h.os, g.tape.trans h.tape, g.output.trans h.output, Nat.le_trans h.size g.size, fun k hk hne => (g.block k (Nat.lt_of_lt_of_le hk h.size)).trans (h.block k hk hne)⟩
theorem gb_set {a b : World} {g : Nat} (h : a.grownBy b (some g)) (j : Nat) (u : Value) : a.grownBy (b.setCell ⟨g, j, none⟩ u) (some g) :=
  ⟨h.os, h.tape, h.output, by simpa [World.setCell] using h.size, fun k hk hne => (Below.heap_setCell _ _ _ k (fun e => hne (by rw [e]))).trans (h.block k hk hne)⟩
theorem gb_new {a b : World} {r : Option Nat} {g : Nat} (h : a.grownBy b r) (hg : a.heap.size ≤ g) (j : Nat) (u : Value) : a.grownBy (b.setCell ⟨g, j, none⟩ u) r :=
  ⟨h.os, h.tape, h.output, by simpa [World.setCell] using h.size, fun k hk hne => (Below.heap_setCell _ _ _ k (fun e => by have e2 : k = g := e; omega)).trans (h.block k hk hne)⟩
/-- the row of devices that a copy works on -/
def OwA (base g n cap : Nat) (w : World) (rs : List (List Value)) : Prop := (∀ r ∈ rs, r.length = 5) ∧ rs.length = n ∧ w.ownsRow base 30 5 (.slice (some ⟨g, 0, none⟩) n cap) n rs.flatten
theorem OwA.cell {base g n cap : Nat} {w : World} {rs : List (List Value)} (h : OwA base g n cap w rs) (i j : Nat) (hi : i < n) (hj : j < 5) (u : Value) (hu : (rs.getD i [])[j]? = some u) : w.cell? ⟨g, i * 5 + j, none⟩ = some u :=
  own_cell h.2.2 (i * 5 + j) u (by rw [flat_get rs 5 i j h.1 (by rw [h.2.1]; exact hi) hj]; exact hu)
theorem OwA.free {base g n cap : Nat} {w : World} {rs : List (List Value)} (h : OwA base g n cap w rs) (j : Nat) : w.frozen? ⟨g, j, none⟩ = false := h.2.2.frozenAt j
theorem OwA.kept {base g n cap : Nat} {T : TypeId} {w w' : World} {rs : List (List Value)} (h : OwA base g n cap w rs) (k : Kept T w w') (hne : ¬ 30 = T) : OwA base g n cap w' rs := ⟨h.1, h.2.1, own_kept k hne h.2.2⟩
theorem OwA.below {base g n cap : Nat} {w w' : World} {rs : List (List Value)} (h : OwA base g n cap w rs) (k : Below w.heap.size w w') : OwA base g n cap w' rs := h.kept (T := 5) (Kept.below k) (by decide)
theorem set_getD {α : Type} (rs : List (List α)) (i : Nat) (r : List α) (h : i < rs.length) : (rs.set i r).getD i [] = r := by
  rw [List.getD_eq_getElem?_getD, List.getElem?_set_self h]
  rfl
theorem OwA.set {base g n cap : Nat} {w : World} {rs : List (List Value)} {i : Nat} {r : List Value} (h : OwA base g n cap w (rs.set i r)) (hi : i < n) (j : Nat) (hj : j < 5) (u : Value) : OwA base g n cap (w.setCell ⟨g, i * 5 + j, none⟩ u) (rs.set i (r.set j u)) ∧ Kept 30 w (w.setCell ⟨g, i * 5 + j, none⟩ u) := by
  obtain ⟨h1, h2, h3⟩ := h
  have hl : i < (rs.set i r).length := by rw [h2]; exact hi
  have hl2 : i < rs.length := by simpa using hl
  obtain ⟨s1, s2⟩ := h3.stored (i * 5 + j) u
  rw [flat_set (rs.set i r) 5 i j u h1 hl hj, set_getD rs i r hl2, List.set_set] at s1
  refine ⟨⟨fun q hq => ?_, by simpa using h2, s1⟩, Kept.own (v := .slice (some ⟨g, 0, none⟩) n cap) h3 s2⟩
  obtain ⟨m, hm, rfl⟩ := List.getElem_of_mem hq
  rw [List.getElem_set]
  split
  · rw [List.length_set]
    exact h1 r (List.mem_iff_getElem.2 ⟨i, hl, by simp⟩)
  · rename_i e
    have e2 : (rs.set i r)[m]'(by simpa using hm) = rs[m]'(by simpa using hm) := by rw [List.getElem_set, if_neg e]
    rw [← e2]
    exact h1 _ (List.getElem_mem _)
/-- the row of properties that a copy works on: those ahead of k are the call's own, the others as they were -/
def PrI (base gb : Nat) (wo : World) (vP : Value) (Ps : List Pp) (prow : List (List Value)) (k : Nat) (w : World) : Prop :=
  ∃ prs : List (List Value), prs.length = Ps.length ∧ (∀ r ∈ prs, r.length = 2) ∧ w.ownsRow gb 33 2 vP Ps.length prs.flatten ∧ (∀ j (h : j < Ps.length), j < k → propO gb w (prs.getD j []) Ps[j]) ∧ (∀ j, k ≤ j → prs.getD j [] = prow.getD j [])
/-- the devices that a copy works on: those ahead of i are the call's own, the others as they were -/
def NdI (base g cap : Nat) (t : List Nd) (rows : List (List Value)) (i : Nat) (w : World) : Prop :=
  ∃ rs : List (List Value), OwA base g t.length cap w rs ∧ (∀ j (h : j < t.length), j < i → nodO base w (rs.getD j []) t[j]) ∧ SepR (rs.take i) ∧ (∀ j, i ≤ j → rs.getD j [] = rows.getD j [])

set_option maxHeartbeats 4000000 in
set_option maxRecDepth 100000 in
theorem w_p8copyS (v : Value) (t : List Nd) (w : World) (h : RdT w v t) (hz : t.length * 96 ≤ 140737488355328) (hs : ∀ x ∈ t, sizN x) :
    Calls Tryd.prog 25 #[v] w fun e w' => ∃ v1, e = .returned v1 ∧ OwnTS w.heap.size w' v1 t ∧ Below w.heap.size w w' := by
  obtain ⟨rows, hr1, hr2, hr3⟩ := h
  have hone : ∀ r ∈ rows, ∀ u ∈ r, u.oneCell' = true := by
    intro r hr u hu
    obtain ⟨i, hi, rfl⟩ := List.getElem_of_mem hr
    obtain ⟨vu, vp, vc, e, g1, g2, g3⟩ := hr3 i (by omega)
    rw [List.getD_eq_getElem?_getD, List.getElem?_eq_getElem hi] at e
    simp only [Option.getD_some] at e
    rw [e] at hu
    obtain ⟨a1, c1, rfl⟩ := rd_slice g1
    obtain ⟨a2, c2, rfl⟩ := slr_slice g2
    obtain ⟨a3, c3, rfl⟩ := rd_slice g3
    simp at hu
    rcases hu with rfl | rfl | rfl | rfl | rfl <;> rfl
  have cN := w_pcloneN v rows w hr1 hone (by rw [hr2]; exact hz)
  rw [hr2] at cN
  by_cases h0 : t.length = 0
  · have ht : t = [] := List.eq_nil_of_length_eq_zero h0
    subst ht
    have hn : rows = [] := List.eq_nil_of_length_eq_zero (by simpa using hr2)
    subst hn
    go_enter Tryd.func25, Tryd.ntmps25
    go_wp2_with (go_at_call 43; refine cN.mono ?_; rintro e w1 ⟨v1, rfl, o1, b1⟩; obtain ⟨ao, ac, rfl⟩ := own_form o1)
    go_rounds 1
    go_ret
    exact ⟨_, rfl, ⟨[], rfl, by simp, o1, fun i hi => by simp at hi, fun i j g h1 h2 => by simp at h2⟩, b1⟩
  · have hrl : ∀ r ∈ rows, r.length = 5 := by
      intro r hr
      obtain ⟨i, hi, rfl⟩ := List.getElem_of_mem hr
      obtain ⟨vu, vp, vc, e, g1, g2, g3⟩ := hr3 i (by omega)
      rw [List.getD_eq_getElem?_getD, List.getElem?_eq_getElem hi] at e
      simp only [Option.getD_some] at e
      rw [e]
      rfl
    have ht0 : 0 < t.length := by omega
    have hzI : (t.length : Int) * 96 ≤ 140737488355328 := by omega
    clear h0 hr1 hone
    go_enter Tryd.func25, Tryd.ntmps25
    go_wp2_with (go_at_call 43; refine cN.mono ?_; rintro e w1 ⟨v1, rfl, o1, b1⟩; obtain ⟨g, cap, rfl⟩ := own_some o1 ht0)
    have hgb := (o1.lt g rfl).1
    have N0 : NdI w.heap.size g cap t rows 0 w1 := ⟨rows, ⟨hrl, hr2, o1⟩, fun j h hj => by omega, fun i j g h1 h2 => by simp at h2, fun j hj => rfl⟩
    clear cN o1 hrl hr2
    go_loopw [11] (fun I wx => ∃ (i : Nat), (i : Int) ≤ t.length ∧ I = .int .i64 i ∧ NdI w.heap.size g cap t rows i wx ∧ Below w.heap.size w wx) (fun I _ => (t.length - intOf I).toNat)
    case atStart => exact ⟨0, by omega, rfl, N0, b1⟩
    case round =>
      clear N0 b1
      obtain ⟨i, hi, rfl, hN, hb⟩ := hrel
      by_cases hlt : (i : Int) < t.length
      · have hil : i < t.length := by omega
        obtain ⟨rs, hA, hno, hsep, hrest⟩ := hN
        obtain ⟨W0, rfl⟩ : ∃ W0, W0 = wr := ⟨_, rfl⟩
        obtain ⟨vu, vp, vc, hrow, ru, rp, rc⟩ := hr3 i hil
        have hri := hrest i (Nat.le_refl _)
        rw [hrow] at hri
        obtain ⟨s1, s2, s3, s4⟩ := hs _ (List.getElem_mem hil)
        have rpR := rp
        obtain ⟨prow, hp1, hp2, hp3⟩ := rp
        have hpo : ∀ r ∈ prow, ∀ u ∈ r, u.oneCell' = true := by
          intro r hr u hu
          obtain ⟨m, hm, rfl⟩ := List.getElem_of_mem hr
          obtain ⟨vd, e, g1⟩ := hp3 m (by omega)
          rw [List.getD_eq_getElem?_getD, List.getElem?_eq_getElem hm] at e
          simp only [Option.getD_some] at e
          rw [e] at hu
          obtain ⟨a1, c1, rfl⟩ := rd_slice g1
          simp at hu
          rcases hu with rfl | rfl <;> rfl
        have hpl : ∀ r ∈ prow, r.length = 2 := by
          intro r hr
          obtain ⟨m, hm, rfl⟩ := List.getElem_of_mem hr
          obtain ⟨vd, e, g1⟩ := hp3 m (by omega)
          rw [List.getD_eq_getElem?_getD, List.getElem?_eq_getElem hm] at e
          simp only [Option.getD_some] at e
          rw [e]
          rfl
        obtain ⟨ua, uq, rfl⟩ := rd_slice ru
        obtain ⟨pa, pq, rfl⟩ := slr_slice rpR
        obtain ⟨ca, cq, rfl⟩ := rd_slice rc
        obtain ⟨P, hP⟩ : ∃ P, t[i].2.2.1 = P := ⟨_, rfl⟩
        obtain ⟨nm, hnm⟩ : ∃ nm, strOfNums t[i].1 = nm := ⟨_, rfl⟩
        obtain ⟨Ps, hPs⟩ : ∃ Ps, t[i].2.2.2.1 = Ps := ⟨_, rfl⟩
        rw [hP, hnm] at hri
        rw [hPs] at hri hp2 s3 s4 hp1
        simp only [hPs] at hp3
        have hrsl : i < rs.length := by rw [hA.2.1]; exact hil
        have hset : rs.set i [.string nm, .slice ua t[i].2.1.length uq, .int .i64 P, .slice pa Ps.length pq, .slice ca t[i].2.2.2.2.length cq] = rs := by
          rw [← hri, List.getD_eq_getElem?_getD, List.getElem?_eq_getElem hrsl]
          simp
        have hA0 : OwA w.heap.size g t.length cap W0 (rs.set i [.string nm, .slice ua t[i].2.1.length uq, .int .i64 P, .slice pa Ps.length pq, .slice ca t[i].2.2.2.2.length cq]) := by rw [hset]; exact hA
        have HA := hid hA
        have cu := fun W (g : Below w.heap.size w W) => w_pclone32 _ _ W (ru.below g) s1
        have cc := fun W (g : Below w.heap.size w W) => w_pclone32 _ _ W (rc.below g) s2
        have cp := fun W (g : Below w.heap.size w W) => w_pcloneP _ prow W (hp1.below g) hpo (by rw [hp2]; exact s3)
        simp only [hp2] at cp
        have hix := idx_node g t.length cap i hil
        have c1 := hA0.cell i 1 hil (by decide) _ (by rw [set_getD rs i _ hrsl]; rfl)
        have hPm : (Ps.length : Int) * 40 ≤ 140737488355328 := by omega
        clear hset hri hA hrow s1 s2 s3
        go_upto_region 7 with (go_at_call 24; refine (cu _ hb).mono ?_; rintro e w2 ⟨vU, rfl, oU, bU⟩; obtain ⟨uo, uc, rfl⟩ := own_form oU; have y1 := below_cell bU c1; have y2 := (hA0.below bU).free (i * 5 + 1))
        obtain ⟨hA3, k3⟩ := (hA0.below bU).set hil 1 (by decide) (.slice uo t[i].2.1.length uc)
        have hA3 : OwA w.heap.size g t.length cap _ (rs.set i [.string nm, .slice uo t[i].2.1.length uc, .int .i64 P, .slice pa Ps.length pq, .slice ca t[i].2.2.2.2.length cq]) := hA3
        have oU3 := own_kept k3 (by decide) oU
        have B3 := below_set (below_trans hb bU) g (i * 5 + 1) (.slice uo t[i].2.1.length uc) hgb
        have G3 := gb_set (gb_below (gb_refl W0 (some g)) bU) (i * 5 + 1) (.slice uo t[i].2.1.length uc)
        generalize w2.setCell ⟨g, i * 5 + 1, none⟩ (.slice uo t[i].2.1.length uc) = w3 at hA3 oU3 B3 G3 k3 ⊢
        have c4 := hA3.cell i 4 hil (by decide) _ (by rw [set_getD rs i _ hrsl]; rfl)
        clear y1 y2 c1 hA0 oU bU k3 cu
        go_upto_region 8 with (go_at_call 24; refine (cc _ B3).mono ?_; rintro e w4 ⟨vC, rfl, oC, bC⟩; obtain ⟨co, ccap, rfl⟩ := own_form oC; have y1 := below_cell bC c4; have y2 := (hA3.below bC).free (i * 5 + 4))
        obtain ⟨hA5, k5⟩ := (hA3.below bC).set hil 4 (by decide) (.slice co t[i].2.2.2.2.length ccap)
        have hA5 : OwA w.heap.size g t.length cap _ (rs.set i [.string nm, .slice uo t[i].2.1.length uc, .int .i64 P, .slice pa Ps.length pq, .slice co t[i].2.2.2.2.length ccap]) := hA5
        have oC5 := own_le G3.size (own_kept k5 (by decide) oC)
        have oU5 := own_kept k5 (by decide) (own_below oU3 bC)
        have B5 := below_set (below_trans B3 bC) g (i * 5 + 4) (.slice co t[i].2.2.2.2.length ccap) hgb
        have G5 := gb_set (gb_below G3 bC) (i * 5 + 4) (.slice co t[i].2.2.2.2.length ccap)
        generalize w4.setCell ⟨g, i * 5 + 4, none⟩ (.slice co t[i].2.2.2.2.length ccap) = w5 at hA5 oC5 oU5 B5 G5 k5 ⊢
        have c3 := hA5.cell i 3 hil (by decide) _ (by rw [set_getD rs i _ hrsl]; rfl)
        clear y1 y2 c4 hA3 oC oU3 bC k5 cc B3 G3
        go_upto_region 9 with (go_at_call 44; refine (cp _ B5).mono ?_; rintro e w6 ⟨vP, rfl, oP, bP⟩; obtain ⟨po, pcap, rfl⟩ := own_form oP; have y1 := below_cell bP c3; have y2 := (hA5.below bP).free (i * 5 + 3))
        obtain ⟨hA7, k7⟩ := (hA5.below bP).set hil 3 (by decide) (.slice po Ps.length pcap)
        have hA7 : OwA w.heap.size g t.length cap _ (rs.set i [.string nm, .slice uo t[i].2.1.length uc, .int .i64 P, .slice po Ps.length pcap, .slice co t[i].2.2.2.2.length ccap]) := hA7
        have oP7 := own_le G5.size (own_kept k7 (by decide) oP)
        have oC7 := own_kept k7 (by decide) (own_below oC5 bP)
        have oU7 := own_kept k7 (by decide) (own_below oU5 bP)
        have B7 := below_set (below_trans B5 bP) g (i * 5 + 3) (.slice po Ps.length pcap) hgb
        have G7 := gb_set (gb_below G5 bP) (i * 5 + 3) (.slice po Ps.length pcap)
        generalize w6.setCell ⟨g, i * 5 + 3, none⟩ (.slice po Ps.length pcap) = w7 at hA7 oP7 oC7 oU7 B7 G7 k7 ⊢
        have c3 := hA7.cell i 3 hil (by decide) _ (by rw [set_getD rs i _ hrsl]; rfl)
        have PI0 : PrI w.heap.size W0.heap.size w (.slice po Ps.length pcap) Ps prow 0 w7 := ⟨prow, hp2, hpl, oP7, fun j h hj => by omega, fun j hj => rfl⟩
        clear y1 y2 hA5 oP oC5 oU5 bP k7 cp B5 G5 oP7
        have hsR := hid hsep
        have hnoR := hid hno
        have hrestR := hid hrest
        have hgW : w.heap.size ≤ W0.heap.size := hb.size
        clear hsep hno hrest
        go_wp2_with fail
        go_loopw [46] (fun K wx => ∃ (k : Nat), (k : Int) ≤ Ps.length ∧ K = .int .i64 k ∧ PrI w.heap.size W0.heap.size w (.slice po Ps.length pcap) Ps prow k wx ∧ OwA w.heap.size g t.length cap wx (rs.set i [.string nm, .slice uo t[i].2.1.length uc, .int .i64 P, .slice po Ps.length pcap, .slice co t[i].2.2.2.2.length ccap]) ∧ wx.ownsRow W0.heap.size 47 1 (.slice uo t[i].2.1.length uc) t[i].2.1.length (t[i].2.1.map (Value.int .u32)) ∧ wx.ownsRow W0.heap.size 47 1 (.slice co t[i].2.2.2.2.length ccap) t[i].2.2.2.2.length (t[i].2.2.2.2.map (Value.int .u32)) ∧ W0.grownBy wx (some g) ∧ Below w.heap.size w wx) (fun K _ => (Ps.length - intOf K).toNat)
        case atStart => exact ⟨0, by omega, rfl, PI0, hA7, oU7, oC7, G7, B7⟩
        case round =>
          clear PI0 hA7 oU7 oC7 G7 B7 c3
          obtain ⟨k, hk, rfl, hPI, hA8, oU8, oC8, G8, B8⟩ := hrel
          by_cases hlk : (k : Int) < Ps.length
          · have hkl : k < Ps.length := by omega
            obtain ⟨prs, z1, z2, z3, z4, z5⟩ := hPI
            obtain ⟨gP, cP, hgP⟩ := own_some z3 (by omega)
            simp only [Value.slice.injEq] at hgP
            obtain ⟨rfl, -, rfl⟩ := hgP
            obtain ⟨vd, hpr, rd⟩ := hp3 k hkl
            have hpk := z5 k (Nat.le_refl _)
            rw [hpr] at hpk
            obtain ⟨da, dq, rfl⟩ := rd_slice rd
            have cd := fun W (g : Below w.heap.size w W) => w_pclone8 _ _ W (rd.below g) (s4 _ (List.getElem_mem hkl))
            have c3 := hA8.cell i 3 hil (by decide) _ (by rw [set_getD rs i _ hrsl]; rfl)
            have hip := idx_prop gP Ps.length pcap k hkl
            have hold : prs.flatten[k * 2 + 1]? = some (.slice da Ps[k].2.length dq) := by rw [flat_get prs 2 k 1 z2 (by omega) (by decide), hpk]; rfl
            have cD := own_cell z3 (k * 2 + 1) _ hold
            have hne : gP ≠ g := by
              intro e
              subst e
              rcases hA8.2.2.2 with ⟨hh, _⟩ | ⟨g', c', cur, hh, _, x1, _⟩
              · simp at hh
              · rcases z3.2 with ⟨hh2, _⟩ | ⟨g2', c2', cur2, hh2, _, x2, _⟩
                · simp at hh2
                · simp at hh hh2
                  obtain ⟨rfl, -⟩ := hh
                  obtain ⟨rfl, -⟩ := hh2
                  rw [x1] at x2
                  simp at x2
            have HS : Hid (∀ W, Below wr.heap.size wr W → W.cell? ⟨g, i * 5 + 3, none⟩ = some (.slice (some ⟨gP, 0, none⟩) Ps.length pcap)) := fun W q => below_cell q c3
            have hrd : Hid (Below wr.heap.size wr wr.drew) := below_drewN (Below.refl _ _) 1
            have hbd : Hid (Below w.heap.size w wr.drew) := below_drewN B8 1
            have CD := hid cd
            have T1 : Hid (∀ qD, Below wr.heap.size wr qD → qD.ownsRow W0.heap.size 33 2 (.slice (some ⟨gP, 0, none⟩) Ps.length pcap) Ps.length prs.flatten) := fun qD q => own_kept (T := 5) (Kept.below q) (by decide) z3
            have T2 : Hid (∀ qD, Below wr.heap.size wr qD → qD.cell? ⟨gP, k * 2 + 1, none⟩ = some (.slice da Ps[k].2.length dq)) := fun qD q => below_cell q cD
            have T3 : Hid (∀ qD, Below wr.heap.size wr qD → qD.frozen? ⟨gP, k * 2 + 1, none⟩ = false) := fun qD q => (T1.out qD q).frozenAt (k * 2 + 1)
            have T4 : Hid (∀ qD, Below wr.heap.size wr qD → ∀ u, (qD.setCell ⟨gP, k * 2 + 1, none⟩ u).cell? ⟨g, i * 5 + 3, none⟩ = some (.slice (some ⟨gP, 0, none⟩) Ps.length pcap)) := fun qD q u => by
              rw [World.cell?_setCell_far _ _ _ _ (by exact hne)]
              exact HS.out _ q
            have Z3 := hid z3
            clear cd z3 hold
            go_wp2_with fail
            go_region_with (go_at_call 45; refine (CD.out _ (by with_reducible exact hbd.out)).mono ?_; rintro e qD ⟨vD, rfl, oD, bD'⟩; obtain ⟨dd, dcap, rfl⟩ := own_form oD; have RD : Hid (Below wr.heap.size wr qD) := below_trans hrd.out bD'; have y0 := HS.out qD RD.out; have y1 := T2.out qD RD.out; have y2 := T3.out qD RD.out; have OD := hid oD; clear oD bD')
            all_goals (
              go_wp2_with fail
              have bD := RD.out
              have z3' := T1.out qD bD
              obtain ⟨w8, hw8⟩ : ∃ w8, qD.setCell ⟨gP, k * 2 + 1, none⟩ (.slice dd Ps[k].2.length dcap) = w8 := ⟨_, rfl⟩
              have gr : qD.grownBy w8 (some gP) := by rw [← hw8]; exact (z3'.stored (k * 2 + 1) _).2
              have kp : Kept 33 qD w8 := Kept.own z3' gr
              have hgP8 : W0.heap.size ≤ gP := (z3'.lt gP rfl).1
              have hset := z3'.stored (k * 2 + 1) (.slice dd Ps[k].2.length dcap)
              rw [flat_set prs 2 k 1 _ z2 (by omega) (by decide), hpk, hw8] at hset
              have PI9 : PrI w.heap.size W0.heap.size w (.slice (some ⟨gP, 0, none⟩) Ps.length pcap) Ps prow (k + 1) w8 := by
                refine ⟨prs.set k [.string (strOfNums Ps[k].1), .slice dd Ps[k].2.length dcap], by simpa using z1, fun r hr => ?_, hset.1, fun j hj hjk => ?_, fun j hj => ?_⟩
                · rcases List.mem_or_eq_of_mem_set hr with hr | rfl
                  · exact z2 r hr
                  · rfl
                · by_cases e : j = k
                  · subst e
                    rw [set_getD prs j _ (by omega)]
                    exact ⟨_, rfl, own_kept kp (by decide) (own_le (Nat.le_trans G8.size hrd.out.size) OD.out)⟩
                  · rw [List.getD_eq_getElem?_getD, List.getElem?_set_ne (fun e2 => e e2.symm), ← List.getD_eq_getElem?_getD]
                    exact propO_apt (by decide) _ _ _ _ kp (propO_below bD _ _ (z4 j hj (by omega)))
                · rw [List.getD_eq_getElem?_getD, List.getElem?_set_ne (by omega), ← List.getD_eq_getElem?_getD]
                  exact z5 j (by omega)
              have hA9 := (hA8.below bD).kept kp (by decide)
              have oU9 := own_kept kp (by decide) (own_below oU8 bD)
              have oC9 := own_kept kp (by decide) (own_below oC8 bD)
              have G9 : W0.grownBy w8 (some g) := by rw [← hw8]; exact gb_new (gb_below G8 bD) hgP8 _ _
              have B9 : Below w.heap.size w w8 := by rw [← hw8]; exact below_set (below_trans B8 bD) gP _ _ (by omega)
              rw [hw8]
              go_roundw
              case rel => exact ⟨k + 1, by omega, by go_num, PI9, hA9, oU9, oC9, G9, B9⟩
              case measure => simp [intOf]; omega)
          · have hkp : k = Ps.length := by omega
            subst hkp
            obtain ⟨prs, z1, z2, z3, z4, z5⟩ := hPI
            have kN : Kept 30 W0 wr := ⟨some g, G8, fun q hq => by
              cases hq
              obtain ⟨_, _, o⟩ := HA.out
              rcases o.2 with ⟨hh, _⟩ | ⟨g', c', cur, hh, _, x1, _⟩
              · simp at hh
              · simp at hh
                obtain ⟨rfl, -⟩ := hh
                exact ⟨cur, _, x1⟩⟩
            have hN9 : NdI w.heap.size g cap t rows (i + 1) wr := by
              refine ⟨_, hA8, fun j hj hji => ?_, ?_, fun j hj => ?_⟩
              · by_cases e : j = i
                · subst e
                  rw [set_getD rs j _ hrsl]
                  exact ⟨_, _, _, by rw [hnm, hP], own_le hgW oU8, by rw [hPs]; exact ⟨prs, z1, z2, own_le hgW z3, fun m hm => propO_le hgW _ _ (z4 m hm hm)⟩, own_le hgW oC8⟩
                · rw [List.getD_eq_getElem?_getD, List.getElem?_set_ne (fun e2 => e e2.symm), ← List.getD_eq_getElem?_getD]
                  exact nodO_apt (by decide) (by decide) (by decide) _ _ _ _ kN (hnoR.out j hj (by omega))
              · have hl1 : ∀ q, q < rs.length → ((rs.set i [Value.string nm, .slice uo t[i].2.1.length uc, .int .i64 P, .slice po Ps.length pcap, .slice co t[i].2.2.2.2.length ccap]).take (i + 1)) = rs.take i ++ [[Value.string nm, .slice uo t[i].2.1.length uc, .int .i64 P, .slice po Ps.length pcap, .slice co t[i].2.2.2.2.length ccap]] := by
                  intro q hq
                  rw [List.take_succ_eq_append_getElem (by simpa using hrsl), List.take_set_of_le (Nat.le_refl _)]
                  simp
                rw [hl1 i hrsl]
                refine sep_snoc hsR.out fun j q hj hq hq2 => ?_
                have hji : j < i := by simp at hj; omega
                have e1 : (rs.take i).getD j [] = rs.getD j [] := by rw [List.getD_eq_getElem?_getD, List.getElem?_take, if_pos hji, ← List.getD_eq_getElem?_getD]
                rw [e1] at hq
                obtain ⟨vu9, vp9, vc9, hv9, -, op9, -⟩ := hnoR.out j (by omega) hji
                obtain ⟨cs9, o9⟩ := op9.row
                rw [hv9] at hq
                have a1 := (o9.lt q (by simpa using hq)).2
                have a2 := (z3.lt q (by simpa using hq2)).1
                omega
              · rw [List.getD_eq_getElem?_getD, List.getElem?_set_ne (by omega), ← List.getD_eq_getElem?_getD]
                exact hrestR.out j (by omega)
            go_wp2_with fail
            go_roundw
            case rel => exact ⟨i + 1, by omega, by go_num, hN9, B8⟩
            case measure => simp [intOf]; omega
      · go_wp2_with fail
        go_ret
        have hit : i = t.length := by omega
        subst hit
        obtain ⟨rs, ⟨a1, a2, a3⟩, hno, hsep, hrest⟩ := hN
        rw [List.take_of_length_le (by omega)] at hsep
        exact ⟨_, rfl, ⟨rs, a2, a1, a3, fun j hj => hno j hj hj, hsep⟩, hb⟩

/-
  Package tree's Add.
-/
set_option maxHeartbeats 4000000 in
set_option maxRecDepth 100000 in
theorem w_p8add' (v : Value) (t : List Nd) (p : Int) (s : ByteArray) (vu : Value) (un : List Int) (w : World) (h : RdT w v t) (hu : Rd .u32 w vu un) (bt : ∀ x ∈ t, bytN x) (ls : ∀ x ∈ t, lenN x) (hs : s.size ≤ maxLen) :
    Calls Tryd.prog 11 #[v, .int .i64 p, .string s, vu] w fun e w' => ∃ v1, e = .returned (.tuple #[v1, .int .i64 (addF t p (L s) un).2.1, .int .i64 (addF t p (L s) un).2.2]) ∧ RdT w' v1 (addF t p (L s) un).1 ∧ Below w.heap.size w w' := by
  have hla := slr_len h uN (P := Tryd.prog)
  have hm := slr_max h
  unfold maxLen at hm
  obtain ⟨i0, hi0, hz0, hz1, hz2⟩ := info_parts infoNode
  obtain ⟨A, M, E, hA⟩ : ∃ A M E, addF t p (L s) un = (A, M, E) := ⟨_, _, _, rfl⟩
  rw [hA]
  show Calls _ _ _ _ fun e w' => ∃ v1, e = .returned (.tuple #[v1, .int .i64 M, .int .i64 E]) ∧ RdT w' v1 A ∧ _
  have HA := hid hA
  clear hA
  have cw := w_pdevice v t p w h bt ls
  by_cases hw : wrgF t p = 0
  · rw [hw] at cw
    obtain ⟨hf, hp0, hp1⟩ := wrg_ok hw
    obtain ⟨hl32, hsz⟩ := frm_siz hf
    have hadd : addF t p (L s) un = if nmF (L s) = false ∨ 4 < un.length then (([] : List Nd), (0 : Int), (1 : Int)) else if twF t p (L s) un = true then ([], 0, 20) else if 32 ≤ t.length then ([], 0, 22) else (t ++ [(L s, un, p, [], [])], t.length, 0) := by
      unfold addF
      rw [if_neg (by simp [hf]), if_neg (by omega)]
    have HD := hid hadd
    have ca := fun W (g : Below w.heap.size w W) => w_paddressed s vu un W hs (hu.below g)
    have cl := fun W (g : Below w.heap.size w W) => w_pcalled s vu un t W (hu.below g) bt
    have ck := fun W lb (g : Below w.heap.size w W) ha => w_pchild v t p _ lb (fun y : Nd => decide (y.1 = L s) && decide (y.2.1 = un)) W eg_called (h.below g) ha
    obtain ⟨F, hF⟩ : ∃ F, fdI (t.findIdx? (fun x => decide (x.2.2.1 = p) && (fun y : Nd => decide (y.1 = L s) && decide (y.2.1 = un)) x)) = F := ⟨_, rfl⟩
    have hF2 : (F != -1) = twF t p (L s) un := by rw [← hF, tw_idx]; exact fdI_some _
    simp only [hF] at ck
    clear hadd hw hF
    cases hnm : (nmF (L s) && decide (un.length ≤ 4))
    · simp only [hnm] at ca
      have e : Hid (addF t p (L s) un = ([], 0, 1)) := by
        show _ = _
        rw [HD.out, if_pos]
        rw [Bool.and_eq_false_iff, decide_eq_false_iff_not] at hnm
        rcases hnm with g | g
        · exact Or.inl g
        · exact Or.inr (by omega)
      clear HD hnm cl ck hF2
      go_enter Tryd.func11, Tryd.ntmps11
      go_wp2_with (first
        | (go_at_call 14; refine cw.mono ?_; rintro e w1 ⟨rfl, b1⟩)
        | (go_at_call 22; refine (ca _ b1).mono ?_; rintro e w2 ⟨rfl, b2⟩; have g2 := below_trans b1 b2))
      go_ret3
      obtain ⟨rfl, h2⟩ := Prod.mk.inj (HA.out.symm.trans e.out)
      obtain ⟨rfl, rfl⟩ := Prod.mk.inj h2
      exact ⟨_, rfl, SlR.nil, below_trans b1 b2⟩
    · simp only [hnm] at ca
      have HD2 : Hid (addF t p (L s) un = if twF t p (L s) un = true then (([] : List Nd), (0 : Int), (20 : Int)) else if 32 ≤ t.length then ([], 0, 22) else (t ++ [(L s, un, p, [], [])], t.length, 0)) := by
        show _ = _
        have hq := Bool.and_eq_true_iff.1 hnm
        have hq2 := of_decide_eq_true hq.2
        rw [HD.out, if_neg (by rw [hq.1]; simp; omega)]
      have HU4 : Hid (un.length ≤ 4) := hid (of_decide_eq_true ((Bool.and_eq_true_iff.1 hnm).2))
      clear HD hnm
      cases htw : twF t p (L s) un
      · rw [htw] at hF2
        by_cases h32 : t.length = 32
        · have hb32 : ((t.length : Int) == 32) = true := by rw [h32]; rfl
          have e : Hid (addF t p (L s) un = ([], 0, 22)) := by show _ = _; rw [HD2.out, htw, if_neg (by simp), if_pos (by omega)]
          clear HD2 htw h32
          go_enter Tryd.func11, Tryd.ntmps11
          go_wp2_with (first
            | (go_at_call 14; refine cw.mono ?_; rintro e w1 ⟨rfl, b1⟩)
            | (go_at_call 22; refine (ca _ b1).mono ?_; rintro e w2 ⟨rfl, b2⟩; have g2 := below_trans b1 b2)
            | (go_at_call 23; refine (cl _ g2).mono ?_; rintro e w3 ⟨lb, rfl, ha3, b3⟩; have g3 := below_trans g2 b3)
            | (go_at_call 20; refine (ck _ lb g3 ha3).mono ?_; rintro e w4 ⟨rfl, b4⟩; have g4 := below_trans g3 b4))
          go_ret3
          obtain ⟨rfl, h2⟩ := Prod.mk.inj (HA.out.symm.trans e.out)
          obtain ⟨rfl, rfl⟩ := Prod.mk.inj h2
          exact ⟨_, rfl, SlR.nil, g4⟩
        · have hb32 : ((t.length : Int) == 32) = false := by rw [beq_eq_false_iff_ne]; omega
          have e : Hid (addF t p (L s) un = (t ++ [(L s, un, p, [], [])], (t.length : Int), (0 : Int))) := by show _ = _; rw [HD2.out, htw, if_neg (by simp), if_neg (by omega)]
          have cc := fun w' (g : Below w.heap.size w w') => w_p8copyS v t w' (h.below g) (by omega) hsz
          have hu4 : un.length * 4 ≤ 140737488355328 := by
            have h1 := HU4.out
            omega
          have cu := fun w' (g : Below w.heap.size w w') => w_pclone32 vu un w' (hu.below g) hu4
          clear HD2 htw h32
          go_enter Tryd.func11, Tryd.ntmps11
          go_wp2_with (first
            | (go_at_call 14; refine cw.mono ?_; rintro e w1 ⟨rfl, b1⟩)
            | (go_at_call 22; refine (ca _ b1).mono ?_; rintro e w2 ⟨rfl, b2⟩; have g2 := below_trans b1 b2)
            | (go_at_call 23; refine (cl _ g2).mono ?_; rintro e w3 ⟨lb, rfl, ha3, b3⟩; have g3 := below_trans g2 b3)
            | (go_at_call 20; refine (ck _ lb g3 ha3).mono ?_; rintro e w4 ⟨rfl, b4⟩; have g4 := below_trans g3 b4)
            | (go_at_call 24; refine (cu _ g4).mono ?_; rintro e w5 ⟨vU, rfl, oU, b5⟩; obtain ⟨ua, uc, rfl⟩ := own_form oU))
          have g5 := below_trans g4 b5
          have st := stands_new w5 #[.string s, .slice ua un.length uc, .int .i64 p, .slice none 0 0, .slice none 0 0] 30
          have bX := box_below w5 (.cells #[.string s, .slice ua un.length uc, .int .i64 p, .slice none 0 0, .slice none 0 0] 30)
          have oU6 := World.ownsRow.alloc (own_le g4.size oU) (.cells #[.string s, .slice ua un.length uc, .int .i64 p, .slice none 0 0, .slice none 0 0] 30)
          obtain ⟨B, hB⟩ : ∃ B, w5.heap.size = B := ⟨_, rfl⟩
          rw [hB] at st
          have g6 := below_trans g5 bX
          simp only [hB]
          generalize w5.alloc (.cells #[.string s, .slice ua un.length uc, .int .i64 p, .slice none 0 0, .slice none 0 0] 30) = wb at st bX oU6 g6 ⊢
          have Z : Hid (∀ W, Below wb.heap.size wb W → W.cell? ⟨B, 0, none⟩ = some (.string s) ∧ W.cell? ⟨B, 1, none⟩ = some (.slice ua un.length uc) ∧ W.cell? ⟨B, 2, none⟩ = some (.int .i64 p) ∧ W.cell? ⟨B, 3, none⟩ = some (.slice none 0 0) ∧ W.cell? ⟨B, 4, none⟩ = some (.slice none 0 0)) := fun W q => ⟨(st.below q).cell 0 _ rfl, (st.below q).cell 1 _ rfl, (st.below q).cell 2 _ rfl, (st.below q).cell 3 _ rfl, (st.below q).cell 4 _ rfl⟩
          have hrd : Hid (Below wb.heap.size wb wb.drew) := below_drewN (Below.refl _ _) 1
          have hbd : Hid (Below w.heap.size w wb.drew) := below_drewN g6 1
          have CC := hid cc
          have OU := hid oU6
          clear cc cw ca cl ck cu oU6 st bX oU
          refine wp_region_held_drew (S := fun W => W.cell? ⟨B, 0, none⟩ = some (.string s) ∧ W.cell? ⟨B, 1, none⟩ = some (.slice ua un.length uc) ∧ W.cell? ⟨B, 2, none⟩ = some (.int .i64 p) ∧ W.cell? ⟨B, 3, none⟩ = some (.slice none 0 0) ∧ W.cell? ⟨B, 4, none⟩ = some (.slice none 0 0)) (by kernel_rfl) (Z.out _ hrd.out) (fun hHeld => ?_)
          refine wpAnyH_take (i := 0) (v := ?v1) rfl (by kernel_rfl) (by kernel_rfl) (by kernel_rfl) (fun _ _ _ h => h) (Or.inl ⟨by rfl, ?h1⟩) (by assumption) ?r1
          case h1 => intro W hSw; (try dsimp only at hSw); obtain ⟨s0, s1, s2, s3, s4⟩ := hSw; go_simp; try with_reducible rfl
          simp only [Act.put, List.setIfInBounds_toArray, List.set_cons_zero, List.set_cons_succ]
          refine wpAnyH_take (i := 2) (v := ?v2) rfl (by kernel_rfl) (by kernel_rfl) (by kernel_rfl) (fun _ _ _ h => h) (Or.inl ⟨by rfl, ?h2⟩) (by assumption) ?r2
          case h2 => intro W hSw; (try dsimp only at hSw); obtain ⟨s0, s1, s2, s3, s4⟩ := hSw; go_simp; try with_reducible rfl
          simp only [Act.put, List.setIfInBounds_toArray, List.set_cons_zero, List.set_cons_succ]
          refine wpAnyH_take (i := 5) (v := ?v3) rfl (by kernel_rfl) (by kernel_rfl) (by kernel_rfl) (fun _ _ _ h => h) (Or.inl ⟨by rfl, ?h3⟩) (by assumption) ?r3
          case h3 => intro W hSw; (try dsimp only at hSw); obtain ⟨s0, s1, s2, s3, s4⟩ := hSw; go_simp; try with_reducible rfl
          simp only [Act.put, List.setIfInBounds_toArray, List.set_cons_zero, List.set_cons_succ]
          refine wpAnyH_take (i := 6) (v := ?v4) rfl (by kernel_rfl) (by kernel_rfl) (by kernel_rfl) (fun _ _ _ h => h) (Or.inl ⟨by rfl, ?h4⟩) (by assumption) ?r4
          case h4 => intro W hSw; (try dsimp only at hSw); obtain ⟨s0, s1, s2, s3, s4⟩ := hSw; go_simp; try with_reducible rfl
          simp only [Act.put, List.setIfInBounds_toArray, List.set_cons_zero, List.set_cons_succ]
          refine wpAnyH_ready (rs := [1, 3]) (by kernel_rfl) (by simp) ?_
          refine AllReadyH.cons rfl (fun K hK => ?_) ?_
          · skip
            go_simp
            go_wp2_with (first | (go_at_call 25; refine (CC.out _ hbd.out).mono ?_; rintro e qC ⟨vT, rfl, oT, bC'⟩; have RC : Hid (Below wb.heap.size wb qC) := below_trans hrd.out bC'; have OT := hid oT; have BC := hid bC'; clear oT bC'))
            refine hK.out _ _ (Z.out _ RC.out) (fun hHeld => ?_)
            clear hK K
            refine wpAnyH_ready (rs := [3]) (by kernel_rfl) (by simp) ?_
            refine AllReadyH.cons rfl (fun K hK => ?_) AllReadyH.nil
            go_simp
            refine hK.out _ _ (Z.out _ (RC.out.alloc RC.out.size _)) (fun hHeld => ?_)
            clear hK K
            have BX : Below w.heap.size w (qC.alloc (.cells #[.string s, .slice ua un.length uc, .int .i64 p, .slice none 0 0, .slice none 0 0] 30)) := below_trans g6 (RC.out.alloc RC.out.size (.cells #[.string s, .slice ua un.length uc, .int .i64 p, .slice none 0 0, .slice none 0 0] 30))
            have hx : nodO w.heap.size (qC.alloc (.cells #[.string s, .slice ua un.length uc, .int .i64 p, .slice none 0 0, .slice none 0 0] 30)) [Value.string s, .slice ua un.length uc, .int .i64 p, .slice none 0 0, .slice none 0 0] (L s, un, p, [], []) := ⟨_, _, _, by rw [show strOfNums (L s) = s from nums_LB s], own_below OU.out (RC.out.alloc RC.out.size (.cells #[.string s, .slice ua un.length uc, .int .i64 p, .slice none 0 0, .slice none 0 0] 30)), OwnR.nil _ _ _ _ _, World.ownsRow_nil _ _ _ _⟩
            obtain ⟨rows, q1, q2, q3, q4⟩ := OwnT8.below (OwnT8.le hbd.out.size OT.out.own) (box_below qC (.cells #[.string s, .slice ua un.length uc, .int .i64 p, .slice none 0 0, .slice none 0 0] 30))
            refine wpAnyH_ready (rs := [4]) (by kernel_rfl) (by simp) ?_
            refine AllReadyH.cons rfl (fun K hK => ?_) AllReadyH.nil
            refine step_append_rows rfl _ _ 22 rfl w.heap.size 30 i0 _ 5 96 Tryd.underlying22 hi0 hz0 hz1 hz2 rfl (by decide) vT t.length _ rfl q3 _ [[Value.string s, .slice ua un.length uc, .int .i64 p, .slice none 0 0, .slice none 0 0]] rfl (slc_one qC [Value.string s, .slice ua un.length uc, .int .i64 p, .slice none 0 0, .slice none 0 0] 30 5 rfl) (one5 _ _ _ _ _ _ _ _ _ _ _) (by unfold maxLen; simp only [List.length_singleton]; omega) (by simp only [List.length_singleton]; omega) BX.size ?_
            intro v9 w9 ho9 hg9
            have oT9 := hid (OwnR.snoc (nodO_apt (by decide) (by decide) (by decide)) q1 q2 q3 q4 rfl hx (by simpa using ho9) hg9)
            have b9 : Hid (Below w.heap.size w w9) := below_grown BX hg9 (fun k hk => (q3.lt k hk).1)
            have z9 : Hid (Below wb.heap.size wb w9) := below_grown (RC.out.alloc RC.out.size (.cells #[.string s, .slice ua un.length uc, .int .i64 p, .slice none 0 0, .slice none 0 0] 30)) hg9 (fun k hk => OT.out.own.row.elim (fun cs o => Nat.le_trans hrd.out.size (o.lt k hk).1))
            refine hK.out _ _ (Z.out _ z9.out) (fun hHeld => ?_)
            clear hK K
            clear hx q1 q2 q3 q4 ho9 hg9
            refine wpAnyH_ready (rs := [7]) (by kernel_rfl) (by simp) ?_
            refine AllReadyH.cons rfl (fun K hK => ?_) AllReadyH.nil
            go_simp
            refine hK.out _ _ (Z.out _ z9.out) (fun hHeld => ?_)
            clear hK K
            refine wpAnyH_ready (rs := [8]) (by kernel_rfl) (by simp) ?_
            refine AllReadyH.cons rfl (fun K hK => ?_) AllReadyH.nil
            go_simp
            refine hK.out _ _ (Z.out _ z9.out) (fun hHeld => ?_)
            clear hK K
            refine wpAnyH_ready (rs := [9]) (by kernel_rfl) (by simp) ?_
            refine AllReadyH.cons rfl (fun K hK => ?_) AllReadyH.nil
            go_simp
            refine hK.out _ _ (Z.out _ z9.out) (fun hHeld => ?_)
            clear hK K
            refine wpAnyH_done (by kernel_rfl) ?_ _
            go_wp2_with fail
            go_ret3
            obtain ⟨rfl, h2⟩ := Prod.mk.inj (HA.out.symm.trans e.out)
            obtain ⟨rfl, rfl⟩ := Prod.mk.inj h2
            exact ⟨_, rfl, ownT8_read oT9.out, b9.out⟩
          · refine AllReadyH.cons rfl (fun K hK => ?_) AllReadyH.nil
            go_simp
            refine hK.out _ _ (Z.out _ (hrd.out.alloc hrd.out.size _)) (fun hHeld => ?_)
            clear hK K
            refine wpAnyH_ready (rs := [1]) (by kernel_rfl) (by simp) ?_
            refine AllReadyH.cons rfl (fun K hK => ?_) AllReadyH.nil
            go_simp
            go_wp2_with (first | (go_at_call 25; refine (CC.out _ (hbd.out.alloc hbd.out.size _)).mono ?_; rintro e qC ⟨vT, rfl, oT, bC'⟩; have RC : Hid (Below wb.heap.size wb qC) := below_trans (hrd.out.alloc hrd.out.size (.cells #[.string s, .slice ua un.length uc, .int .i64 p, .slice none 0 0, .slice none 0 0] 30)) bC'; have OT := hid oT; have BC := hid bC'; clear oT bC'))
            refine hK.out _ _ (Z.out _ RC.out) (fun hHeld => ?_)
            clear hK K
            have BX : Below w.heap.size w qC := below_trans g6 RC.out
            have hx : nodO w.heap.size qC [Value.string s, .slice ua un.length uc, .int .i64 p, .slice none 0 0, .slice none 0 0] (L s, un, p, [], []) := ⟨_, _, _, by rw [show strOfNums (L s) = s from nums_LB s], own_below OU.out RC.out, OwnR.nil _ _ _ _ _, World.ownsRow_nil _ _ _ _⟩
            obtain ⟨rows, q1, q2, q3, q4⟩ := (OwnT8.le (hbd.out.alloc hbd.out.size (.cells #[.string s, .slice ua un.length uc, .int .i64 p, .slice none 0 0, .slice none 0 0] 30)).size OT.out.own)
            refine wpAnyH_ready (rs := [4]) (by kernel_rfl) (by simp) ?_
            refine AllReadyH.cons rfl (fun K hK => ?_) AllReadyH.nil
            refine step_append_rows rfl _ _ 22 rfl w.heap.size 30 i0 _ 5 96 Tryd.underlying22 hi0 hz0 hz1 hz2 rfl (by decide) vT t.length _ rfl q3 _ [[Value.string s, .slice ua un.length uc, .int .i64 p, .slice none 0 0, .slice none 0 0]] rfl ((slc_one wb.drew [Value.string s, .slice ua un.length uc, .int .i64 p, .slice none 0 0, .slice none 0 0] 30 5 rfl).below BC.out) (one5 _ _ _ _ _ _ _ _ _ _ _) (by unfold maxLen; simp only [List.length_singleton]; omega) (by simp only [List.length_singleton]; omega) BX.size ?_
            intro v9 w9 ho9 hg9
            have oT9 := hid (OwnR.snoc (nodO_apt (by decide) (by decide) (by decide)) q1 q2 q3 q4 rfl hx (by simpa using ho9) hg9)
            have b9 : Hid (Below w.heap.size w w9) := below_grown BX hg9 (fun k hk => (q3.lt k hk).1)
            have z9 : Hid (Below wb.heap.size wb w9) := below_grown RC.out hg9 (fun k hk => OT.out.own.row.elim (fun cs o => Nat.le_trans (hrd.out.alloc hrd.out.size (.cells #[.string s, .slice ua un.length uc, .int .i64 p, .slice none 0 0, .slice none 0 0] 30)).size (o.lt k hk).1))
            refine hK.out _ _ (Z.out _ z9.out) (fun hHeld => ?_)
            clear hK K
            clear hx q1 q2 q3 q4 ho9 hg9
            refine wpAnyH_ready (rs := [7]) (by kernel_rfl) (by simp) ?_
            refine AllReadyH.cons rfl (fun K hK => ?_) AllReadyH.nil
            go_simp
            refine hK.out _ _ (Z.out _ z9.out) (fun hHeld => ?_)
            clear hK K
            refine wpAnyH_ready (rs := [8]) (by kernel_rfl) (by simp) ?_
            refine AllReadyH.cons rfl (fun K hK => ?_) AllReadyH.nil
            go_simp
            refine hK.out _ _ (Z.out _ z9.out) (fun hHeld => ?_)
            clear hK K
            refine wpAnyH_ready (rs := [9]) (by kernel_rfl) (by simp) ?_
            refine AllReadyH.cons rfl (fun K hK => ?_) AllReadyH.nil
            go_simp
            refine hK.out _ _ (Z.out _ z9.out) (fun hHeld => ?_)
            clear hK K
            refine wpAnyH_done (by kernel_rfl) ?_ _
            go_wp2_with fail
            go_ret3
            obtain ⟨rfl, h2⟩ := Prod.mk.inj (HA.out.symm.trans e.out)
            obtain ⟨rfl, rfl⟩ := Prod.mk.inj h2
            exact ⟨_, rfl, ownT8_read oT9.out, b9.out⟩
      · rw [htw] at hF2
        have e : Hid (addF t p (L s) un = ([], 0, 20)) := by show _ = _; rw [HD2.out, htw, if_pos rfl]
        clear HD2 htw
        go_enter Tryd.func11, Tryd.ntmps11
        go_wp2_with (first
          | (go_at_call 14; refine cw.mono ?_; rintro e w1 ⟨rfl, b1⟩)
          | (go_at_call 22; refine (ca _ b1).mono ?_; rintro e w2 ⟨rfl, b2⟩; have g2 := below_trans b1 b2)
          | (go_at_call 23; refine (cl _ g2).mono ?_; rintro e w3 ⟨lb, rfl, ha3, b3⟩; have g3 := below_trans g2 b3)
          | (go_at_call 20; refine (ck _ lb g3 ha3).mono ?_; rintro e w4 ⟨rfl, b4⟩; have g4 := below_trans g3 b4))
        go_ret3
        obtain ⟨rfl, h2⟩ := Prod.mk.inj (HA.out.symm.trans e.out)
        obtain ⟨rfl, rfl⟩ := Prod.mk.inj h2
        exact ⟨_, rfl, SlR.nil, g4⟩
  · have e : Hid (addF t p (L s) un = ([], 0, wrgF t p)) := by
      show _ = _
      unfold addF wrgF
      unfold wrgF at hw
      split
      · rfl
      · rename_i g1
        rw [if_neg g1] at hw
        split
        · rename_i g2
          first | rw [if_pos g2] | simp [g2]
        · rename_i g2
          rw [if_neg g2] at hw
          exact absurd rfl hw
    obtain ⟨W, hW⟩ : ∃ W, wrgF t p = W := ⟨_, rfl⟩
    rw [hW] at cw e hw
    have hwb : (W != 0) = true := by simpa using hw
    clear hW hw
    go_enter Tryd.func11, Tryd.ntmps11
    go_wp2_with (first
      | (go_at_call 14; refine cw.mono ?_; rintro e w1 ⟨rfl, b1⟩))
    go_ret3
    obtain ⟨rfl, h2⟩ := Prod.mk.inj (HA.out.symm.trans e.out)
    obtain ⟨rfl, rfl⟩ := Prod.mk.inj h2
    exact ⟨_, rfl, SlR.nil, b1⟩

/-
  Set of the document's answer for trees: a property that is new.
-/
theorem t8_put {base : Nat} {w w1 : World} {g m cap n : Nat} {t : List Nd} {rows : List (List Value)} (h1 : rows.length = t.length) (h2 : ∀ r ∈ rows, r.length = 5) (h3 : w.ownsRow base 30 5 (.slice (some ⟨g, 0, none⟩) m cap) t.length rows.flatten) (h4 : ∀ i (h : i < t.length), nodO base w (rows.getD i []) t[i]) (h5 : SepR rows)
    (hn : n < t.length) {nm vu vp vc : Value} {p : Value} (hrow : rows.getD n [] = [nm, vu, p, vp, vc]) (gr : w.grownBy w1 vp.ownBlock) (kp : Kept 33 w w1) {l : List Pp} {vp' : Value} (hp : OwnR 33 2 (propO base) base w1 vp' l) :
    OwnT8 base (w1.setCell ⟨g, n * 5 + 3, none⟩ vp') (.slice (some ⟨g, 0, none⟩) m cap) (t.set n (t[n].1, t[n].2.1, t[n].2.2.1, l, t[n].2.2.2.2)) := by
  have hsep : ∀ j, j < rows.length → j ≠ n → ∀ b, ((rows.getD j []).getD 3 (.slice none 0 0)).ownBlock = some b → vp.ownBlock ≠ some b := by
    intro j hj hjn b hb hv
    have hvp : ((rows.getD n []).getD 3 (.slice none 0 0)).ownBlock = some b := by rw [hrow]; exact hv
    rcases Nat.lt_or_gt_of_ne hjn with hlt | hgt
    · exact h5 j n b hlt (by omega) hb hvp
    · exact h5 n j b hgt hj hvp hb
  have k4 : ∀ i (h : i < t.length), i ≠ n → nodO base w1 (rows.getD i []) t[i] := fun i hi hin => nodO_grown gr kp (h4 i hi) (fun b hb => hsep i (by omega) hin b hb)
  have h3' : w1.ownsRow base 30 5 (.slice (some ⟨g, 0, none⟩) m cap) t.length rows.flatten := own_kept kp (by decide) h3
  have hmt : m = t.length := by
    obtain ⟨_, h3⟩ := h3
    rcases h3 with ⟨h, _⟩ | ⟨g', cap', cur, h, _⟩
    · simp at h
    · simp at h; exact h.2.1
  subst hmt
  obtain ⟨s1, s2⟩ := h3'.stored (n * 5 + 3) vp'
  have kn : Kept 30 w1 (w1.setCell ⟨g, n * 5 + 3, none⟩ vp') := Kept.own (v := .slice (some ⟨g, 0, none⟩) t.length cap) h3' (by simpa [Value.ownBlock] using s2)
  rw [flat_set rows 5 n 3 vp' h2 (by omega) (by decide)] at s1
  have ha : Apt 30 (nodO base) := nodO_apt (by decide) (by decide) (by decide)
  obtain ⟨vu0, vp0, vc0, hcs, o1, o2, o3⟩ := h4 n hn
  rw [hrow] at hcs
  simp at hcs
  obtain ⟨rfl, rfl, rfl, rfl, rfl⟩ := hcs
  have hrow2 : (rows.getD n []).set 3 vp' = [.string (strOfNums t[n].1), vu, .int .i64 t[n].2.2.1, vp', vc] := by rw [hrow]; rfl
  refine ⟨rows.set n ((rows.getD n []).set 3 vp'), by simp [h1], fun r hr => ?_, by simpa using s1, fun i hi => ?_⟩
  · rcases List.mem_or_eq_of_mem_set hr with hr | rfl
    · exact h2 r hr
    · rw [hrow2]; rfl
  · rw [List.length_set] at hi
    rw [List.getElem_set]
    by_cases hin : n = i
    · subst hin
      rw [if_pos rfl, List.getD_eq_getElem?_getD, List.getElem?_set_self (by omega)]
      show nodO base _ ((rows.getD n []).set 3 vp') _
      rw [hrow2]
      exact ha _ _ _ _ kn ⟨vu, vp', vc, rfl, own_kept kp (by decide) o1, hp, own_kept kp (by decide) o3⟩
    · rw [if_neg hin, List.getD_eq_getElem?_getD, List.getElem?_set_ne hin, ← List.getD_eq_getElem?_getD]
      exact ha _ _ _ _ kn (k4 i hi (fun e => hin e.symm))

/-
  Set of the document's answer for trees, whole.
-/
theorem put_at8 {t : List Nd} {k : Nat} (hk : k < t.length) (l : List Pp) : putN t (k : Int) l = t.set k (t[k].1, t[k].2.1, t[k].2.2.1, l, t[k].2.2.2.2) := by
  unfold putN
  rw [Int.toNat_natCast, List.getElem?_eq_getElem hk]

/-
  Package tree's Set.
-/


/-
  Drop of the document's answer for trees.
-/
/-- a stretch of an own row of pairs -/
theorem slc_part {w : World} {base : Nat} {e : TypeId} {g m cap : Nat} {rows : List (List Value)} (o : w.ownsRow base e 2 (.slice (some ⟨g, 0, none⟩) m cap) m rows.flatten) (hm : rows.length = m) (h2 : ∀ r ∈ rows, r.length = 2) (a n c : Nat) (hn : a + n ≤ m) (hc : n ≤ c) (hc2 : c ≤ maxLen) (hc0 : 0 < n) :
    SlC 2 w (.slice (some ⟨g, a * 2, none⟩) n c) ((rows.drop a).take n) := by
  have hl : ((rows.drop a).take n).length = n := by simp; omega
  refine Or.inr ⟨g, a * 2, c, by rw [hl], by omega, by omega, hc2, fun i hi => ?_⟩
  have hg : ((rows.drop a).take n).getD i [] = rows.getD (a + i) [] := by
    rw [List.getD_eq_getElem?_getD, List.getElem?_take, if_pos (by omega), List.getElem?_drop, ← List.getD_eq_getElem?_getD]
  rw [hg]
  have hr : (rows.getD (a + i) []).length = 2 := by
    rw [List.getD_eq_getElem?_getD, List.getElem?_eq_getElem (by omega)]
    exact h2 _ (List.getElem_mem _)
  refine ⟨hr, fun j hj => ?_⟩
  have hf := flat_get rows 2 (a + i) j h2 (by omega) hj
  have hs : ∃ u, (rows.getD (a + i) [])[j]? = some u := ⟨_, List.getElem?_eq_getElem (by omega)⟩
  obtain ⟨u, hu⟩ := hs
  rw [hu] at hf ⊢
  have := own_cell o ((a + i) * 2 + j) u hf
  rw [show a * 2 + i * 2 + j = (a + i) * 2 + j by omega]
  exact this
theorem cut_h (g m c j : Nat) (h : j ≤ c) : ∀ w, (Instr.slice 28 (.slice (some ⟨g, 0, none⟩) m c) none (some (.int .i64 (j : Int))) none).run Tryd.prog w = .ok (.slice (some ⟨g, 0, none⟩) j c) w := by
  intro w
  rw [run_slice_h w 28 (some ⟨g, 0, none⟩) m c uR .i64 (j : Int) (by omega) (by omega), zR]
  simp [Result.andThen, sliced, Addr.add]
theorem cut_l (g m c j : Nat) (h : j ≤ m) (hmc : m ≤ c) : ∃ a, (∀ w, (Instr.slice 28 (.slice (some ⟨g, 0, none⟩) m c) (some (.int .i64 (j : Int))) none none).run Tryd.prog w = .ok (.slice a (m - j) (c - j)) w) ∧ (j < m → a = some ⟨g, j * 2, none⟩) ∧ (a = none → c - j = 0) := by
  refine ⟨if c = j then some ⟨g, 0, none⟩ else some ((⟨g, 0, none⟩ : Addr).add (j * 2)), fun w => ?_, fun hj => ?_, fun hn => ?_⟩
  · rw [run_slice_l w 28 (some ⟨g, 0, none⟩) m c uR .i64 (j : Int) (by omega) (by omega), zR]
    simp [Result.andThen, sliced]
  · rw [if_neg (by omega)]
    unfold Addr.add
    split
    · rename_i hz; rw [hz]
    · simp
  · split at hn <;> cases hn
theorem part_get {rows : List (List Value)} {l : List Pp} {base : Nat} {w : World} (h1 : rows.length = l.length) (j : Nat) (hj : j < l.length) (h4 : ∀ i (h : i < l.length), propO base w (rows.getD i []) l[i]) : ∀ i (h : i < (l.take j ++ l.drop (j + 1)).length), propO base w ((rows.take j ++ rows.drop (j + 1)).getD i []) (l.take j ++ l.drop (j + 1))[i] := by
  intro i hi
  have hl : (l.take j ++ l.drop (j + 1)).length = l.length - 1 := by simp; omega
  by_cases hij : i < j
  · have e1 : (rows.take j ++ rows.drop (j + 1)).getD i [] = rows.getD i [] := by
      rw [List.getD_eq_getElem?_getD, List.getElem?_append_left (by rw [List.length_take]; omega), List.getElem?_take, if_pos hij, ← List.getD_eq_getElem?_getD]
    have e2 : (l.take j ++ l.drop (j + 1))[i] = l[i]'(by omega) := by
      rw [List.getElem_append_left (by rw [List.length_take]; omega), List.getElem_take]
    rw [e1, e2]
    exact h4 i (by omega)
  · have e1 : (rows.take j ++ rows.drop (j + 1)).getD i [] = rows.getD (i + 1) [] := by
      rw [List.getD_eq_getElem?_getD, List.getElem?_append_right (by rw [List.length_take]; omega), List.getElem?_drop, List.length_take, show j + 1 + (i - min j rows.length) = i + 1 by omega, ← List.getD_eq_getElem?_getD]
    have e2 : (l.take j ++ l.drop (j + 1))[i] = l[i + 1]'(by omega) := by
      rw [List.getElem_append_right (by rw [List.length_take]; omega), List.getElem_drop]
      congr 1
      rw [List.length_take]
      omega
    rw [e1, e2]
    exact h4 (i + 1) (by omega)
theorem prop_one {base : Nat} {w : World} {cs : List Value} {x : Pp} (h : propO base w cs x) : ∀ u ∈ cs, u.oneCell' = true := by
  obtain ⟨vd, rfl, o⟩ := h
  obtain ⟨a, c, rfl⟩ := own_form o
  intro u hu
  simp at hu
  rcases hu with rfl | rfl <;> rfl

/-
  Rows of the call's own written at several cells, and cut short. No Go text in sight.
-/
/-- cells written one behind the other -/
def setL {α : Type} (cs : List α) : Nat → List α → List α
  | _, [] => cs
  | o, v :: r => setL (cs.set o v) (o + 1) r
theorem setL_len {α : Type} : ∀ (news : List α) (cs : List α) (o : Nat), (setL cs o news).length = cs.length
  | [], cs, o => rfl
  | v :: r, cs, o => by rw [setL, setL_len r]; simp
theorem setL_get {α : Type} : ∀ (news : List α) (cs : List α) (o : Nat), o + news.length ≤ cs.length → ∀ i, (setL cs o news)[i]? = if i < o then cs[i]? else if i < o + news.length then news[i - o]? else cs[i]?
  | [], cs, o, h, i => by simp only [setL, List.length_nil, Nat.add_zero]; split <;> (try split) <;> first | rfl | omega
  | v :: r, cs, o, h, i => by
    rw [setL, setL_get r (cs.set o v) (o + 1) (by simp at h ⊢; omega) i]
    simp only [List.length_cons] at h ⊢
    by_cases h1 : i < o
    · rw [if_pos (by omega), if_pos h1, List.getElem?_set_ne (by omega)]
    · rw [if_neg h1]
      by_cases h2 : i = o
      · subst h2
        rw [if_pos (by omega), if_pos (by omega), List.getElem?_set_self (by omega), Nat.sub_self]
        rfl
      · rw [if_neg (by omega)]
        by_cases h3 : i < o + (r.length + 1)
        · rw [if_pos (by omega), if_pos h3, show i - o = (i - (o + 1)) + 1 by omega]
          rfl
        · rw [if_neg (by omega), if_neg h3, List.getElem?_set_ne (by omega)]
theorem setL_eq {α : Type} (news cs : List α) (o : Nat) (h : o + news.length ≤ cs.length) : setL cs o news = cs.take o ++ news ++ cs.drop (o + news.length) := by
  apply List.ext_getElem?
  intro i
  rw [setL_get news cs o h]
  by_cases h1 : i < o
  · rw [if_pos h1, List.append_assoc, List.getElem?_append_left (by simp; omega), List.getElem?_take, if_pos h1]
  · rw [if_neg h1]
    by_cases h2 : i < o + news.length
    · rw [if_pos h2, List.getElem?_append_left (by simp; omega), List.getElem?_append_right (by simp; omega)]
      congr 1
      simp
      omega
    · rw [if_neg h2, List.getElem?_append_right (by simp; omega), List.getElem?_drop]
      congr 1
      simp
      omega
theorem own_setCells {base : Nat} {e : TypeId} {sz g n cap : Nat} : ∀ (news : List Value) (w : World) (cs : List Value) (o : Nat), w.ownsRow base e sz (.slice (some ⟨g, 0, none⟩) n cap) n cs →
    (w.setCells g o news).ownsRow base e sz (.slice (some ⟨g, 0, none⟩) n cap) n (setL cs o news) ∧ w.grownBy (w.setCells g o news) (some g)
  | [], w, cs, o, h => ⟨h, ⟨rfl, rfl, rfl, Nat.le_refl _, fun _ _ _ => rfl⟩⟩
  | v :: r, w, cs, o, h => by
    obtain ⟨h1, h2⟩ := h.stored o v
    obtain ⟨h3, h4⟩ := own_setCells r (w.setCell ⟨g, o, none⟩ v) (cs.set o v) (o + 1) h1
    exact ⟨h3, h4.os.trans h2.os, h4.tape.trans h2.tape, h4.output.trans h2.output, Nat.le_trans h2.size h4.size, fun k hk hne => (h4.block k (Nat.lt_of_lt_of_le hk h2.size) hne).trans (h2.block k hk hne)⟩
/-- the first ones of an own row -/
theorem own_take {w : World} {base : Nat} {e : TypeId} {sz g n cap : Nat} {cs : List Value} (h : w.ownsRow base e sz (.slice (some ⟨g, 0, none⟩) n cap) n cs) (m : Nat) (hm : m ≤ n) : w.ownsRow base e sz (.slice (some ⟨g, 0, none⟩) m cap) m (cs.take (m * sz)) := by
  obtain ⟨hl, h⟩ := h
  have hle : m * sz ≤ n * sz := Nat.mul_le_mul_right _ hm
  refine ⟨by rw [List.length_take]; omega, ?_⟩
  rcases h with ⟨h, _⟩ | ⟨g', cap', cur, he, hb, hg, hc, hx, hs, ht⟩
  · simp at h
  · simp at he
    obtain ⟨rfl, rfl⟩ := he
    refine Or.inr ⟨g, cap, cur, rfl, hb, hg, by omega, hx, hs, ?_⟩
    rw [← ht, List.take_take, Nat.min_eq_left hle]
theorem flat_take {α : Type} : ∀ (rows : List (List α)) (sz j : Nat), (∀ r ∈ rows, r.length = sz) → rows.flatten.take (j * sz) = (rows.take j).flatten
  | [], sz, j, h => by simp
  | r :: rows, sz, 0, h => by simp
  | r :: rows, sz, j + 1, h => by
    have hr := h r (by simp)
    have ih := flat_take rows sz j (fun x hx => h x (by simp [hx]))
    rw [List.flatten_cons, List.take_succ_cons, List.flatten_cons, List.take_append, hr, Nat.add_mul, Nat.one_mul, show j * sz + sz - sz = j * sz by omega, ih, List.take_of_length_le (by omega)]
theorem flat_drop {α : Type} : ∀ (rows : List (List α)) (sz j : Nat), (∀ r ∈ rows, r.length = sz) → rows.flatten.drop (j * sz) = (rows.drop j).flatten
  | [], sz, j, h => by simp
  | r :: rows, sz, 0, h => by simp
  | r :: rows, sz, j + 1, h => by
    have hr := h r (by simp)
    have ih := flat_drop rows sz j (fun x hx => h x (by simp [hx]))
    rw [List.flatten_cons, List.drop_succ_cons, List.drop_append, hr, Nat.add_mul, Nat.one_mul, show j * sz + sz - sz = j * sz by omega, ih, List.drop_of_length_le (by omega), List.nil_append]

/-
  The library's Delete at properties, and package tree's Drop.
-/
theorem zeroP8 (w : World) : (zeroValue 33).run Tryd.prog w = .ok (.agg #[.string ⟨#[]⟩, .slice none 0 0]) w := by kernel_rfl
theorem cut_3 (g m c j : Nat) (h : j + 1 ≤ m) (hmc : m ≤ c) : ∃ v3, ∀ w, (Instr.slice 28 (.slice (some ⟨g, 0, none⟩) m c) (some (.int .i64 (j : Int))) (some (.int .i64 ((j : Int) + 1))) (some (.int .i64 (m : Int)))).run Tryd.prog w = .ok v3 w := by
  refine ⟨sliced (some ⟨g, 0, none⟩) j (j + 1) m 2, fun w => ?_⟩
  rw [run_slice_lhm w 28 (some ⟨g, 0, none⟩) m c uR .i64 .i64 .i64 (j : Int) ((j : Int) + 1) (m : Int) (by omega) (by omega) (by omega) (by omega), zR]
  simp only [Result.andThen, Int.toNat_natCast]
  rw [show ((j : Int) + 1).toNat = j + 1 by omega]
theorem cut_A (g m c j : Nat) (h : j + 1 ≤ m) (hmc : m ≤ c) : ∃ A, (∀ w, (Instr.slice 28 (.slice (some ⟨g, 0, none⟩) m c) (some (.int .i64 ((j : Int) + 1))) none none).run Tryd.prog w = .ok (.slice (some A) (m - (j + 1)) (c - (j + 1))) w) ∧ (j + 1 < m → A = ⟨g, (j + 1) * 2, none⟩) := by
  obtain ⟨a, h1, h2, h3⟩ := cut_l g m c (j + 1) h hmc
  rw [show ((j + 1 : Nat) : Int) = (j : Int) + 1 by omega] at h1
  by_cases hj : j + 1 < m
  · have := h2 hj
    subst this
    exact ⟨_, h1, fun _ => rfl⟩
  · have h4 := h1 default
    rw [run_slice_l default 28 (some ⟨g, 0, none⟩) m c uR .i64 ((j : Int) + 1) (by omega) (by omega), zR] at h4
    simp only [Result.andThen, sliced] at h4
    cases a with
    | none =>
      exfalso
      simp at h4
      split at h4 <;> cases h4
    | some A => exact ⟨A, h1, fun hh => absurd hh hj⟩
theorem cut_last (g M m c : Nat) (hm : m = M + 1) (hmc : m ≤ c) : ∀ w, (Instr.slice 28 (.slice (some ⟨g, 0, none⟩) M c) (some (.int .i64 (M : Int))) (some (.int .i64 (m : Int))) none).run Tryd.prog w = .ok (.slice (some ⟨g, M * 2, none⟩) 1 (c - M)) w := by
  intro w
  rw [run_slice_lh w 28 (some ⟨g, 0, none⟩) M c uR .i64 .i64 (M : Int) (m : Int) (by omega) (by omega) (by omega), zR]
  simp only [Result.andThen, sliced, Int.toNat_natCast]
  rw [if_neg (by omega), show m - M = 1 by omega]
  simp only [Option.map_some]
  congr 3
  unfold Addr.add
  split
  · rename_i hz; rw [hz]
  · simp
theorem clear_P (g o c : Nat) (W : World) (hc : ∀ i, i < 2 → (W.cell? ⟨g, o + i, none⟩).isSome = true) (hf : ∀ i, i < 2 → W.frozen? ⟨g, o + i, none⟩ = false) :
    ∀ ty, (Builtin.clear_ #[28] ty #[.slice (some ⟨g, o, none⟩) 1 c]).run Tryd.prog W = .ok (.tuple #[]) (W.setCells g o [.string ⟨#[]⟩, .slice none 0 0]) := by
  intro ty
  have hst := run_storeCells_cells (P := Tryd.prog) g o [.string ⟨#[]⟩, .slice none 0 0] 0 W (by simpa using hc) (by simpa using hf) (by intro u hu; simp at hu; rcases hu with rfl | rfl <;> rfl)
  simp only [Nat.add_zero] at hst
  have hzc : (Builtin.zeroCells (Value.agg #[.string ⟨#[]⟩, .slice none 0 0]).cells 1).toList = [.string ⟨#[]⟩, .slice none 0 0] := by kernel_rfl
  have hu := run_underlying (P := Tryd.prog) uR
  simp [Builtin.clear_, hu, eR, zeroP8, hzc, hst]

/-
  Steps and Path of the document's answer for trees.
-/
theorem infoStp8 : (Tryd.prog.info? 43).map (fun i => (i.zero, i.size, i.bytes)) = some (some (.agg #[.string ⟨#[]⟩, .slice none 0 0, .string ⟨#[]⟩]), 3, 56) := by kernel_rfl
theorem one3 (nm : ByteArray) (a : Option Addr) (l c : Nat) (ar : ByteArray) : ∀ u ∈ [Value.string nm, .slice a l c, .string ar], u.oneCell' = true := by
  intro u hu
  simp at hu
  rcases hu with rfl | rfl | rfl <;> rfl
theorem own_slc {w : World} {base : Nat} {v : Value} {xs : List Sp} (h : OwnP base w v xs) : ∃ rows, SlC 3 w v rows ∧ rows.length = xs.length ∧ (∀ r ∈ rows, ∀ u ∈ r, u.oneCell' = true) ∧ ∀ i (h : i < xs.length), stpO base w (rows.getD i []) xs[i] := by
  obtain ⟨rows, h1, h2, h3, h4⟩ := h
  have h5 : SlR 3 (fun _ cs (r : List Value) => cs = r) w v rows := slr_rows (n := xs.length) (e := 43) (fun r => r) h2 (by decide) (by simpa using h3) (fun r hr => rfl)
  obtain ⟨rows2, k1, k2, k3⟩ := h5
  have e : rows2 = rows := by
    apply List.ext_getElem k2
    intro i hi hi2
    have := k3 i hi2
    rw [List.getD_eq_getElem?_getD, List.getElem?_eq_getElem hi] at this
    simpa using this
  subst e
  refine ⟨rows2, k1, h1, fun r hr u hu => ?_, h4⟩
  obtain ⟨i, hi, rfl⟩ := List.getElem_of_mem hr
  obtain ⟨vv, hv, hO⟩ := h4 i (by omega)
  rw [List.getD_eq_getElem?_getD, List.getElem?_eq_getElem hi] at hv
  simp at hv
  obtain ⟨ao, cap, rfl⟩ := own_form hO
  rw [hv] at hu
  exact one3 _ _ _ _ _ u hu

theorem nm_len {l : List Int} (h : nmF l = true) : l.length ≤ 31 := by
  unfold nmF at h
  simp only [Bool.and_eq_true, decide_eq_true_eq] at h
  omega
theorem wtS_le : ∀ l : List Sp, (∀ x ∈ l, x.1.length ≤ 31 ∧ x.2.1.length ≤ 4 ∧ x.2.2.length ≤ 0) → wtS l ≤ 36 * l.length
  | [], _ => by simp [wtS]
  | x :: l, h => by
    have h1 := h x (by simp)
    have h2 := wtS_le l fun y hy => h y (by simp [hy])
    simp only [wtS, List.length_cons]
    omega

/-
  The library's functions of texts that package path leans on, as plain functions of lists of numbers: Index, Contains, Cut, HasPrefix, CutPrefix at one byte, LastIndex and Count of a slash.
-/
/-- what Cut at the byte c answers -/
def CutB (c : Int) (l : List Int) (A B : ByteArray) (f : Bool) : Prop := (f = false ∧ L A = l ∧ L B = [] ∧ ∀ x ∈ l, ¬ x = c) ∨ (f = true ∧ l = L A ++ c :: L B ∧ ∀ x ∈ L A, ¬ x = c)

set_option maxHeartbeats 1000000 in
set_option maxRecDepth 100000 in
theorem w_slix47 (s : ByteArray) (w : World) :
    Calls Tryd.prog 58 #[.string s, .string ⟨#[47]⟩] w fun e w' => ∃ i, e = .returned (.int .i64 i) ∧ AtB (L s) 47 i ∧ w' = w := by
  go_enter Tryd.func58, Tryd.ntmps58
  go_wp2_with (go_at_call 61; refine (w_slib s 47 _ (by decide) (by decide)).mono ?_; rintro e w1 ⟨i, rfl, hi, rfl⟩)
  · have h : ([47] == s.toList) = true := by assumption
    go_ret
    have e : s.data.toList = [47] := by rw [← ByteArray.toList_eq]; exact (beq_iff_eq.1 h).symm
    refine ⟨_, rfl, Or.inr ⟨0, rfl, ?_, ?_, fun x hx => by simp at hx⟩, rfl⟩
    · simp [L, e]
    · simp [L, e]
  · go_ret
    exact ⟨i, rfl, hi, rfl⟩

set_option maxHeartbeats 1000000 in
set_option maxRecDepth 100000 in
theorem w_six47 (s : ByteArray) (w : World) :
    Calls Tryd.prog 53 #[.string s, .string ⟨#[47]⟩] w fun e w' => ∃ i, e = .returned (.int .i64 i) ∧ AtB (L s) 47 i ∧ w' = w := by
  go_enter Tryd.func53, Tryd.ntmps53
  go_wp2_with (go_at_call 58; refine (w_slix47 s _).mono ?_; rintro e w1 ⟨i, rfl, hi, rfl⟩)
  go_ret
  exact ⟨i, rfl, hi, rfl⟩

set_option maxHeartbeats 1000000 in
set_option maxRecDepth 100000 in
theorem w_slix58 (s : ByteArray) (w : World) :
    Calls Tryd.prog 58 #[.string s, .string ⟨#[58]⟩] w fun e w' => ∃ i, e = .returned (.int .i64 i) ∧ AtB (L s) 58 i ∧ w' = w := by
  go_enter Tryd.func58, Tryd.ntmps58
  go_wp2_with (go_at_call 61; refine (w_slib s 58 _ (by decide) (by decide)).mono ?_; rintro e w1 ⟨i, rfl, hi, rfl⟩)
  · have h : ([58] == s.toList) = true := by assumption
    go_ret
    have e : s.data.toList = [58] := by rw [← ByteArray.toList_eq]; exact (beq_iff_eq.1 h).symm
    refine ⟨_, rfl, Or.inr ⟨0, rfl, ?_, ?_, fun x hx => by simp at hx⟩, rfl⟩
    · simp [L, e]
    · simp [L, e]
  · go_ret
    exact ⟨i, rfl, hi, rfl⟩

set_option maxHeartbeats 1000000 in
set_option maxRecDepth 100000 in
theorem w_six58 (s : ByteArray) (w : World) :
    Calls Tryd.prog 53 #[.string s, .string ⟨#[58]⟩] w fun e w' => ∃ i, e = .returned (.int .i64 i) ∧ AtB (L s) 58 i ∧ w' = w := by
  go_enter Tryd.func53, Tryd.ntmps53
  go_wp2_with (go_at_call 58; refine (w_slix58 s _).mono ?_; rintro e w1 ⟨i, rfl, hi, rfl⟩)
  go_ret
  exact ⟨i, rfl, hi, rfl⟩

set_option maxHeartbeats 1000000 in
set_option maxRecDepth 100000 in
theorem w_slix64 (s : ByteArray) (w : World) :
    Calls Tryd.prog 58 #[.string s, .string ⟨#[64]⟩] w fun e w' => ∃ i, e = .returned (.int .i64 i) ∧ AtB (L s) 64 i ∧ w' = w := by
  go_enter Tryd.func58, Tryd.ntmps58
  go_wp2_with (go_at_call 61; refine (w_slib s 64 _ (by decide) (by decide)).mono ?_; rintro e w1 ⟨i, rfl, hi, rfl⟩)
  · have h : ([64] == s.toList) = true := by assumption
    go_ret
    have e : s.data.toList = [64] := by rw [← ByteArray.toList_eq]; exact (beq_iff_eq.1 h).symm
    refine ⟨_, rfl, Or.inr ⟨0, rfl, ?_, ?_, fun x hx => by simp at hx⟩, rfl⟩
    · simp [L, e]
    · simp [L, e]
  · go_ret
    exact ⟨i, rfl, hi, rfl⟩

set_option maxHeartbeats 1000000 in
set_option maxRecDepth 100000 in
theorem w_six64 (s : ByteArray) (w : World) :
    Calls Tryd.prog 53 #[.string s, .string ⟨#[64]⟩] w fun e w' => ∃ i, e = .returned (.int .i64 i) ∧ AtB (L s) 64 i ∧ w' = w := by
  go_enter Tryd.func53, Tryd.ntmps53
  go_wp2_with (go_at_call 58; refine (w_slix64 s _).mono ?_; rintro e w1 ⟨i, rfl, hi, rfl⟩)
  go_ret
  exact ⟨i, rfl, hi, rfl⟩

theorem first_is47 (s : ByteArray) (h : 1 ≤ s.size) : ((s.extract 0 1).toList == [47]) = decide ((L s).head? = some 47) := by
  rw [Bool.eq_iff_iff, beq_iff_eq, decide_eq_true_iff]
  rw [ByteArray.toList_eq, ByteArray.data_extract, Array.toList_extract]
  unfold L
  cases hd : s.data.toList with
  | nil => have := Lib.size_eq s; rw [hd, List.length_nil] at this; omega
  | cons a t =>
    simp only [List.extract_eq_take_drop, List.drop_zero, List.map_cons, List.head?_cons, Option.some.injEq]
    simp only [List.take_succ_cons, List.take_zero, List.cons.injEq, and_true]
    constructor
    · rintro rfl; rfl
    · intro h
      exact UInt8.toNat_inj.1 (by
        have : ((47 : UInt8).toNat : Int) = 47 := by decide
        omega)

theorem first_is58 (s : ByteArray) (h : 1 ≤ s.size) : ((s.extract 0 1).toList == [58]) = decide ((L s).head? = some 58) := by
  rw [Bool.eq_iff_iff, beq_iff_eq, decide_eq_true_iff]
  rw [ByteArray.toList_eq, ByteArray.data_extract, Array.toList_extract]
  unfold L
  cases hd : s.data.toList with
  | nil => have := Lib.size_eq s; rw [hd, List.length_nil] at this; omega
  | cons a t =>
    simp only [List.extract_eq_take_drop, List.drop_zero, List.map_cons, List.head?_cons, Option.some.injEq]
    simp only [List.take_succ_cons, List.take_zero, List.cons.injEq, and_true]
    constructor
    · rintro rfl; rfl
    · intro h
      exact UInt8.toNat_inj.1 (by
        have : ((58 : UInt8).toNat : Int) = 58 := by decide
        omega)

set_option maxHeartbeats 1000000 in
set_option maxRecDepth 100000 in
theorem w_cont47 (s : ByteArray) (w : World) :
    Calls Tryd.prog 48 #[.string s, .string ⟨#[47]⟩] w fun e w' => e = .returned (.bool (!((L s).all (fun c => decide (¬ c = 47))))) ∧ w' = w := by
  go_enter Tryd.func48, Tryd.ntmps48
  go_wp2_with (go_at_call 53; refine (w_six47 s _).mono ?_; rintro e w1 ⟨i, rfl, hi, rfl⟩)
  go_ret
  refine ⟨?_, rfl⟩
  rcases hi with ⟨rfl, h2⟩ | ⟨k, rfl, h2, h3, h4⟩
  · have : (L s).all (fun c => decide (¬ c = 47)) = true := List.all_eq_true.2 fun x hx => decide_eq_true (h2 x hx)
    rw [this]; rfl
  · have : (L s).all (fun c => decide (¬ c = 47)) = false := by
      rw [h3]; simp
    rw [this]
    have : decide ((k : Int) ≥ 0) = true := decide_eq_true (by omega)
    first | rw [this]; rfl | simp

/-- where c stands last: -1, or the place -/
def LastB (l : List Int) (c i : Int) : Prop := (i = -1 ∧ ∀ x ∈ l, ¬ x = c) ∨ ∃ k : Nat, i = k ∧ k < l.length ∧ l = l.take k ++ c :: l.drop (k + 1) ∧ ∀ x ∈ l.drop (k + 1), ¬ x = c

/-
  strings.Builder: a text written behind what it holds, and all that it holds as a text.
-/
theorem bldS : (Tryd.prog.info? 67).map (·.size) = some 2 := by kernel_rfl
theorem bldL : liesAt Tryd.prog Tryd.prog.depth 67 (2 / Tryd.prog.cellsOf 67) 0 67 1 = true := by kernel_rfl
theorem cellsB : Tryd.prog.cellsOf 5 = 1 := by kernel_rfl

set_option maxHeartbeats 1000000 in
set_option maxRecDepth 100000 in
theorem w_bcc_used (b : Nat) (w : World) (h0 : w.cell? ⟨b, 0, none⟩ = some (.pointer (some ⟨b, 0, none⟩))) :
    Calls Tryd.prog 49 #[.pointer (some ⟨b, 0, none⟩)] w fun e w' => e = .returned (.tuple #[]) ∧ w' = w := by
  obtain ⟨j, hj, _⟩ := Option.map_eq_some_iff.1 bldS
  go_enter Tryd.func49, Tryd.ntmps49
  go_wp2
  rw [Lib.run_neq_ptr_same w _ Tryd.underlying65 hj]
  go_wp2
  go_end0
  exact ⟨rfl, rfl⟩

set_option maxHeartbeats 1000000 in
set_option maxRecDepth 100000 in
theorem w_bcc_fresh (b : Nat) (w : World) (h0 : w.cell? ⟨b, 0, none⟩ = some (.pointer none)) (hsh : w.shape? b = some (67, 2)) (hfz : w.frozen? ⟨b, 0, none⟩ = false) :
    Calls Tryd.prog 49 #[.pointer (some ⟨b, 0, none⟩)] w fun e w' => e = .returned (.tuple #[]) ∧ w' = w.setCell ⟨b, 0, none⟩ (.pointer (some ⟨b, 0, none⟩)) := by
  obtain ⟨j, hj, hjs⟩ := Option.map_eq_some_iff.1 bldS
  go_enter Tryd.func49, Tryd.ntmps49
  go_wp2
  rw [Lib.run_to_unsafe w ⟨b, 0, none⟩ Tryd.underlying65 Tryd.underlying93 hj (by rw [hjs]; decide) hsh (Nat.zero_lt_succ 1)]
  simp only [Result.andThen]
  rw [Oper.upon_value]
  go_wp2
  rw [run_callFunc_extern Tryd.func54 (by kernel_rfl) (by kernel_rfl) (by kernel_rfl) (e := Extern.AbiNoEscape.same) (by kernel_rfl)]
  rw [Lib.run_noEscape]
  simp only [Result.andThen]
  rw [Oper.upon_value]
  go_wp2
  rw [Lib.run_from_unsafe w ⟨b, 0, none⟩ Tryd.underlying93 Tryd.underlying65 hj hsh bldL]
  simp only [Result.andThen]
  rw [Oper.upon_value]
  go_wp2
  go_end0
  exact ⟨rfl, rfl⟩

abbrev BldA (B b : Nat) (p : Value) (ys : List Int) (w : World) : Prop := Lib.BuilderAt 67 5 B b p (ys.map (Value.int .u8)) w
abbrev Bld (B b : Nat) (ys : List Int) (w : World) : Prop := Lib.IsBuilder 67 5 B b (ys.map (Value.int .u8)) w

/-- every step that stands still stands -/
def KeptS (w w' : World) : Prop := ∀ c cs, Stands w c cs 43 → Stands w' c cs 43
theorem stands_ne {w : World} {c b : Nat} {cs ds : Array Value} (h : Stands w c cs 43) (g : w.heap[b]? = some (.cells ds 67 (0, 0))) : c ≠ b := by
  intro e
  subst e
  unfold Stands at h
  rw [h] at g
  simp at g
theorem bld_below {w w' : World} {B b : Nat} {ys : List Int} (h : Bld B b ys w) (g : Below w.heap.size w w') : Bld B b ys w' := by
  have go : ∀ p, BldA B b p ys w → BldA B b p ys w' := fun p ⟨h1, v, h2, h3, h4⟩ => ⟨h1, v, Stands.below h2 g, own_below h3 g, h4⟩
  rcases h with h | h
  · exact Or.inl (go _ h)
  · exact Or.inr (go _ h)

theorem w_bcc (B b : Nat) (ys : List Int) (w : World) (h : Bld B b ys w) :
    Calls Tryd.prog 49 #[.pointer (some ⟨b, 0, none⟩)] w fun e w' => e = .returned (.tuple #[]) ∧ (BldA B b (.pointer (some ⟨b, 0, none⟩)) ys w' ∧ Below B w w' ∧ KeptS w w') := by
  rcases h with h | h
  · refine (w_bcc_fresh b w h.cell0 h.shape h.frozen0).mono ?_
    rintro e w' ⟨rfl, rfl⟩
    refine ⟨rfl, h.used _, (Below.refl B w).setCell (p := ⟨b, 0, none⟩) h.1 _, fun c cs hc => ?_⟩
    obtain ⟨_, v, hbk, _⟩ := h
    exact hc.other 0 _ (stands_ne hc hbk)
  · refine (w_bcc_used b w h.cell0).mono ?_
    rintro e w' ⟨rfl, rfl⟩
    exact ⟨rfl, h, Below.refl B _, fun c cs hc => hc⟩

set_option maxHeartbeats 2000000 in
set_option maxRecDepth 100000 in
theorem w_bws (B b : Nat) (ys : List Int) (s : ByteArray) (w : World) (h : Bld B b ys w) (hlen : ys.length + s.size ≤ 140737488355328) (hBw : B ≤ w.heap.size) :
    Calls Tryd.prog 28 #[.pointer (some ⟨b, 0, none⟩), .string s] w fun e w' => e = .returned (.tuple #[.int .i64 s.size, .nilIface]) ∧ (Bld B b (ys ++ L s) w' ∧ Below B w w' ∧ KeptS w w') := by
  obtain ⟨i0, hi, hz0, hz1, hz2⟩ := info_parts infoU8
  go_enter Tryd.func28, Tryd.ntmps28
  go_wp2_with (go_at_call 49; refine (w_bcc B b ys _ h).mono ?_)
  rintro e w1 ⟨rfl, h1, hb1, hk1⟩
  obtain ⟨hB, v, hbk, hown, hne⟩ := h1
  have c0 : w1.cell? ⟨b, 0, none⟩ = some (.pointer (some ⟨b, 0, none⟩)) := by rw [Lib.cell_of_heap hbk]; rfl
  have c1 : w1.cell? ⟨b, 1, none⟩ = some v := by rw [Lib.cell_of_heap hbk]; rfl
  go_wp2_with (at_builtin; refine Lib.wpList_append_own_string _ rfl _ _ 31 9 rfl B 5 i0 Tryd.underlying31 Tryd.underlying9 hi hz0 hz1 hz2 _ _ _ rfl hown s rfl ?c3 ?c4 ?c5 ?_)
  case c3 => rw [List.length_map]; unfold maxLen; omega
  case c4 => rw [List.length_map]; omega
  case c5 => have := hb1.size; omega
  intro v' w2 hown' hgrow _
  have hlt : b < w1.heap.size := by
    rcases Nat.lt_or_ge b w1.heap.size with h' | h'
    · exact h'
    · simp [Array.getElem?_eq_none h'] at hbk
  have hb2 : w2.heap[b]? = some (.cells #[.pointer (some ⟨b, 0, none⟩), v] 67 (0, 0)) := by
    rw [hgrow.block b hlt (fun e => hne e.symm)]
    exact hbk
  have d0 : w2.cell? ⟨b, 0, none⟩ = some (.pointer (some ⟨b, 0, none⟩)) := by rw [Lib.cell_of_heap hb2]; rfl
  have d1 : w2.cell? ⟨b, 1, none⟩ = some v := by rw [Lib.cell_of_heap hb2]; rfl
  have f1 : w2.frozen? ⟨b, 1, none⟩ = false := Lib.frozen_of_heap hb2 1
  obtain ⟨ao, n', cap, rfl⟩ : ∃ ao n' cap, v' = .slice ao n' cap := by
    rcases hown'.2 with ⟨hv, _⟩ | ⟨g, cap, cur, hv, _⟩
    · exact ⟨_, _, _, hv⟩
    · exact ⟨_, _, _, hv⟩
  go_wp2
  go_ret2
  have hsc : Lib.strCells s = (L s).map (Value.int .u8) := by simp [Lib.strCells, L]
  refine ⟨rfl, Or.inr ?_, ?_, fun c cs hc => ?_⟩
  · refine Lib.BuilderAt.put (T := 67) (e := 5) hB hb2 (bs' := (ys ++ L s).map (Value.int .u8)) ?_ (by decide)
    rw [List.map_append, ← hsc, List.length_append, Lib.strCells_length, List.length_map]
    exact hown'
  · exact (hb1.grown hgrow (by have := hb1.size; omega) (fun k hk => (hown.lt k hk).1)).setCell (p := ⟨b, 1, none⟩) hB _
  · have h1 := hk1 c cs hc
    have h2 : Stands w2 c cs 43 := h1.grown hgrow (stands_apart h1 hown (by decide))
    exact h2.other 1 _ (stands_ne h1 hbk)

set_option maxHeartbeats 2000000 in
set_option maxRecDepth 100000 in
theorem w_bstr (B b : Nat) (ys : List Int) (w : World) (h : Bld B b ys w) (h0 : ys ≠ []) (hby : bytesL ys) :
    Calls Tryd.prog 31 #[.pointer (some ⟨b, 0, none⟩)] w fun e w' => e = .returned (.string (strOfNums ys)) ∧ Below B w w' := by
  obtain ⟨l, hl⟩ : ∃ l : List UInt8, (strOfNums ys).data.toList = l := ⟨_, rfl⟩
  have hlb : ys.map (Value.int .u8) = Lib.byteCells l := by
    have := LB_nums ys hby
    rw [← hl, Lib.byteCells]
    conv => lhs; rw [← this]
    simp [LB, L]
  have hse : strOfNums ys = ⟨l.toArray⟩ := by rw [← hl]
  rw [hse]
  have h0 : l ≠ [] := by
    intro e
    apply h0
    rw [e] at hlb
    simpa [Lib.byteCells] using hlb
  unfold Bld at h
  rw [hlb] at h
  clear hlb hse hl
  obtain ⟨p, hB, v, hbk, hown, hne⟩ : ∃ p, Lib.BuilderAt 67 5 B b p (Lib.byteCells l) w := by
    rcases h with h | h
    · exact ⟨_, h⟩
    · exact ⟨_, h⟩
  have hl0 : l.length ≠ 0 := by simpa using h0
  rw [Lib.byteCells_length] at hown
  obtain ⟨g, cap, cur, rfl, hbg, hg, hnc, hcm, hcs, htake⟩ : ∃ g cap cur, v = .slice (some ⟨g, 0, none⟩) l.length cap ∧ B ≤ g ∧ w.heap[g]? = some (.cells cur 5 (0, 0)) ∧ l.length ≤ cap ∧ cap ≤ maxLen ∧ cur.size = cap * 1 ∧ cur.toList.take (l.length * 1) = Lib.byteCells l := by
    rcases hown.2 with ⟨_, hz⟩ | ⟨g, cap, cur, hv, r⟩
    · exact absurd hz hl0
    · exact ⟨g, cap, cur, hv, r⟩
  have c1 : w.drew.cell? ⟨b, 1, none⟩ = some (.slice (some ⟨g, 0, none⟩) l.length cap) := by
    have : w.drew.heap[b]? = some (.cells #[p, .slice (some ⟨g, 0, none⟩) l.length cap] 67 (0, 0)) := hbk
    rw [Lib.cell_of_heap this]; rfl
  have hSD : (Builtin.unsafeSliceData_ #[31] 88 #[.slice (some ⟨g, 0, none⟩) l.length cap]).run Tryd.prog w.drew = .ok (.pointer (some ⟨g, 0, none⟩)) w.drew :=
    Lib.run_unsafeSliceData_row _ _ _ _ _ _ (by omega)
  have hUS : (Builtin.unsafeString_ #[88, 3] 9 #[.pointer (some ⟨g, 0, none⟩), .int .i64 l.length]).run Tryd.prog w.drew = .ok (.string ⟨l.toArray⟩) (w.drew.freeze ⟨g, 0, none⟩ l.length) := by
    refine Lib.run_unsafeString_row w.drew 88 3 9 5 Tryd.underlying88 cellsB g cur.size (by have hg' : w.drew.heap[g]? = some (.cells cur 5 (0, 0)) := hg; simp [World.shape?, hg']) l h0 (by omega) (by unfold maxLen at hcm; omega) ?_
    intro j x hx
    have := hown.cells (g := g) rfl j (.int .u8 x.toNat) (by simp [Lib.byteCells, hx])
    exact this
  go_enter Tryd.func31, Tryd.ntmps31
  go_wp2
  go_region
  all_goals (go_wp2; go_ret; exact ⟨rfl, Lib.below_freeze (Below.drew (Below.refl B w)) (p := ⟨g, 0, none⟩) hbg _⟩)

theorem bld_new (w : World) : Bld w.heap.size w.heap.size [] (w.alloc (.cells #[.pointer none, .slice none 0 0] 67)) :=
  Or.inl ⟨Nat.le_refl _, .slice none 0 0, heap_alloc_new w _, World.ownsRow_nil _ _ _ _, by simp [Value.ownBlock]⟩

/-
  One number of a unit address, as package prop reads it.
-/


/-
  The library's AppendUint at base 16: the digits of a number of 32 bits behind a row of the call's own.
-/
/-- the digits laid so far stand at the row's end -/
def Lain (c : Array Value) (p : Nat) (D : List Int) : Prop := c.size = 65 ∧ p + D.length = 65 ∧ ∀ j, j < D.length → c[p + j]? = some (.int .u8 (D.getD j 0))
theorem lain0 (c : Array Value) (h : c.size = 65) : Lain c 65 [] := ⟨h, rfl, fun j hj => by simp at hj⟩
theorem lain_step (c : Array Value) (p : Nat) (D : List Int) (h : Lain c (p + 1) D) (x : Int) : Lain (c.setIfInBounds p (.int .u8 x)) p (x :: D) := by
  obtain ⟨h1, h2, h3⟩ := h
  refine ⟨by simpa using h1, by simp; omega, fun j hj => ?_⟩
  rw [Array.getElem?_setIfInBounds]
  cases j with
  | zero => rw [if_pos (by rfl), if_pos (by omega)]; rfl
  | succ j =>
    have hj' : j < D.length := by simpa using hj
    rw [if_neg (by omega)]
    have := h3 j hj'
    rw [show p + (j + 1) = p + 1 + j by omega, this]
    simp
set_option maxRecDepth 100000 in
theorem run_cutB (B p : Nat) (hp : (p : Int) ≤ 64) (w : World) : (Instr.sliceAt 113 (.pointer (some ⟨B, 0, none⟩)) (some (.int .i64 (p : Int))) none none).run Tryd.prog w = .ok (.slice (some ⟨B, p, none⟩) (65 - p) (65 - p)) w := by
  have hu : Tryd.prog.underlying 113 = some (.array (Tryd.prog.arrayLen 113) (Tryd.prog.elem 113)) := by kernel_rfl
  have hl : Tryd.prog.arrayLen 113 = 65 := by kernel_rfl
  have he : Tryd.prog.elem 113 = 5 := by kernel_rfl
  rw [run_sliceAt_array_l w 113 ⟨B, 0, none⟩ hu .i64 (p : Int) (by omega) (by rw [hl]; omega), he, hl, Tryd.sizeOf5]
  have e : ((p : Int)).toNat = p := by omega
  simp only [Result.andThen, slicedAt, e]
  rw [if_neg (by omega)]
  congr 2
  unfold Addr.add
  split
  · rename_i h; simp at h; subst h; rfl
  · simp

set_option maxRecDepth 100000 in
/-- the digits' text, at a place below 16 -/
theorem run_dig (k : Int) (h0 : 0 ≤ k) (h1 : k < 16) (w : World) : (Instr.index 9 (.string ⟨#[48, 49, 50, 51, 52, 53, 54, 55, 56, 57, 97, 98, 99, 100, 101, 102, 103, 104, 105, 106, 107, 108, 109, 110, 111, 112, 113, 114, 115, 116, 117, 118, 119, 120, 121, 122]⟩) (.int .u64 k)).run Tryd.prog w = .ok (.int .u8 (dg k)) w := by
  rw [run_index_string (h := Tryd.underlying9)]
  have : k = 0 ∨ k = 1 ∨ k = 2 ∨ k = 3 ∨ k = 4 ∨ k = 5 ∨ k = 6 ∨ k = 7 ∨ k = 8 ∨ k = 9 ∨ k = 10 ∨ k = 11 ∨ k = 12 ∨ k = 13 ∨ k = 14 ∨ k = 15 := by omega
  rcases this with rfl | rfl | rfl | rfl | rfl | rfl | rfl | rfl | rfl | rfl | rfl | rfl | rfl | rfl | rfl | rfl <;> rfl

theorem w_tz64 (w : World) (hT : Tab w) : Calls Tryd.prog 77 #[.int .u64 16] w fun e w' => e = .returned (.int .i64 4) ∧ w' = w := by
  obtain ⟨-, h⟩ := hT
  have e1 : bits .and .u64 16 (IntKind.u64.wrap (-16)) = 16 := by decide +kernel
  have e2 : IntKind.u64.wrap (16 * 285870213051353865) = 4573923408821661840 := by decide +kernel
  go_enter Tryd.func77, Tryd.ntmps77
  go_wp2_with fail
  go_ret
  exact ⟨rfl, rfl⟩

theorem w_tz (w : World) (hT : Tab w) : Calls Tryd.prog 75 #[.int .u64 16] w fun e w' => e = .returned (.int .i64 4) ∧ w' = w := by
  go_enter Tryd.func75, Tryd.ntmps75
  go_wp2_with (go_at_call 77; refine (w_tz64 _ hT).mono ?_; rintro e w1 ⟨rfl, rfl⟩)
  go_ret
  exact ⟨rfl, rfl⟩

theorem w_pow2 (w : World) : Calls Tryd.prog 74 #[.int .i64 16] w fun e w' => e = .returned (.bool true) ∧ w' = w := by
  go_enter Tryd.func74, Tryd.ntmps74
  go_wp2_with fail
  go_ret
  exact ⟨rfl, rfl⟩

theorem and15 (m : Int) (h0 : 0 ≤ m) (h1 : m < 4294967296) : bits .and .u64 m 15 = m % 16 := by
  rw [u64_and m 15 h0 (by omega) (by decide) (by decide)]
  have := Nat.and_two_pow_sub_one_eq_mod m.toNat 4
  rw [show (15 : Int).toNat = 2 ^ 4 - 1 by decide, this]
  omega
theorem rd_lain (w : World) (c : Array Value) (p : Nat) (D : List Int) (h : Lain c p D) (h0 : 0 < D.length) (T : TypeId) : Rd .u8 (w.alloc (.cells c T)) (.slice (some ⟨w.heap.size, p, none⟩) (65 - p) (65 - p)) D := by
  obtain ⟨h1, h2, h3⟩ := h
  refine Or.inr ⟨w.heap.size, p, 65 - p, by rw [show D.length = 65 - p by omega], h0, by omega, by unfold maxLen; omega, fun i hi => ?_⟩
  rw [World.cell?_alloc_new]
  exact h3 i hi

set_option maxHeartbeats 4000000 in
set_option maxRecDepth 100000 in
theorem w_fbits (v : Value) (ys : List Int) (n : Int) (B : Nat) (w : World) (hT : Tab w) (hO : w.ownsRow B 5 1 v ys.length (ys.map (Value.int .u8))) (hB : B ≤ w.heap.size) (n0 : 0 ≤ n) (n1 : n < 4294967296) (hz : ys.length + 8 ≤ 140737488355328) :
    Calls Tryd.prog 68 #[v, .int .u64 n, .int .i64 16, .bool false, .bool true] w fun e w' => ∃ v', e = .returned (.tuple #[v', .string ⟨#[]⟩]) ∧ w'.ownsRow B 5 1 v' (ys ++ sh 16 n).length ((ys ++ sh 16 n).map (Value.int .u8)) ∧ Below B w w' := by
  obtain ⟨i0, hi, hz0, hz1, hz2⟩ := info_parts infoU8
  go_enter Tryd.func68, Tryd.ntmps68
  go_wp2_with (first
    | (go_at_call 74; refine (w_pow2 _).mono ?_; rintro e w1 ⟨rfl, rfl⟩)
    | (go_at_call 75; refine (w_tz _ (hT.below (box_below _ _))).mono ?_; rintro e w2 ⟨rfl, rfl⟩))
  go_loopw [1, 13] (fun U I wx => ∃ (q : Nat) (m : Int) (c : Array Value) (D : List Int), (q : Int) ≤ 7 ∧ U = .int .u64 m ∧ I = .int .i64 ((q : Int) + 58) ∧ 0 ≤ m ∧ m < 4294967296 ∧ Hid (m < 16 ^ (q + 1)) ∧ Hid (sh 16 n = shF 16 (q + 24 + 1) m ++ D) ∧ Hid (Lain c (q + 58) D) ∧ wx = w.alloc (.cells c 113)) (fun _ I _ => (intOf I).toNat)
  case atStart => exact ⟨7, n, _, [], by omega, rfl, rfl, n0, n1, by show _ < _; simpa using n1, by show _ = _; simp [sh], lain0 _ (by kernel_rfl), rfl⟩
  case round =>
    obtain ⟨q, m, c, D, hq, rfl, rfl, m0, m1, hm, hsh, hL, hwx⟩ := hrel
    subst hwx
    have hand := and15 m m0 m1
    by_cases hmb : m < 16
    · have hfin : Hid (sh 16 n = dg m :: D) := by show _ = _; rw [hsh.out, shF_lo 16 m (q + 24) hmb]; rfl
      have hdg := run_dig m m0 hmb
      have hcut := run_cutB w.heap.size (q + 57) (by omega)
      rw [show ((q + 57 : Nat) : Int) = (q : Int) + 58 - 1 by omega] at hcut
      obtain ⟨v0, hcp⟩ : ∃ v, c[q + 57]? = some v := ⟨_, Array.getElem?_eq_getElem (by rw [hL.out.1]; omega)⟩
      have hL2 := hid (lain_step c (q + 57) D hL.out (dg m))
      have hDl : Hid ((dg m :: D).length ≤ 8) := by show _ ≤ _; have := hL.out.2.1; simp; omega
      have hr := hid (rd_lain w _ _ _ hL2.out (by simp) 113)
      have hO2 := World.ownsRow.alloc hO (.cells (c.setIfInBounds (q + 57) (.int .u8 (dg m))) 113)
      clear hm hsh hL hand
      obtain ⟨R, hR⟩ : ∃ R, 65 - (q + 57) = R := ⟨_, rfl⟩
      rw [hR] at hr
      simp only [hR] at hcut
      clear hR
      obtain ⟨E, hE⟩ : ∃ E, dg m :: D = E := ⟨_, rfl⟩
      rw [hE] at hfin hDl hr
      have hel := hDl.out
      clear hE hDl hL2
      go_wp2_with (at_builtin; refine wpList_append_rd (k := .u8) rfl _ _ 31 rfl B 5 i0 1 Tryd.underlying31 hi hz0 hz1 hz2 v ys rfl hO2 _ E rfl hr.out (by unfold maxLen; omega) (by omega) (Nat.le_trans hB (box_below w _).size) ?_; intro v5 w5 ho5 hg5)
      go_ret2
      exact ⟨v5, rfl, by rw [← hfin.out] at ho5; simpa using ho5, ((Below.refl _ w).alloc hB _).grown hg5 (Nat.le_trans hB (box_below w _).size) (fun k hk => (hO2.lt k hk).1)⟩
    · have hpp : 0 < q := by
        rcases Nat.eq_zero_or_pos q with h | h
        · exfalso; have := hm.out; rw [h] at this; simp at this; omega
        · exact h
      obtain ⟨r, rfl⟩ : ∃ r, q = r + 1 := ⟨q - 1, by omega⟩
      have hdg := run_dig (m % 16) (by omega) (by omega)
      obtain ⟨v0, hcp⟩ : ∃ v, c[r + 58]? = some v := ⟨_, Array.getElem?_eq_getElem (by rw [hL.out.1]; omega)⟩
      have hm2 : Hid (m / 16 < 16 ^ (r + 1)) := by
        show _ < _
        have := hm.out
        rw [Int.pow_succ] at this
        omega
      have hs2 : Hid (sh 16 n = shF 16 (r + 24 + 1) (m / 16) ++ dg (m % 16) :: D) := by
        show _ = _
        rw [hsh.out, shF_hi 16 m (r + 1 + 24) hmb, show r + 1 + 24 = r + 24 + 1 by omega]
        simp
      have hL2 := hid (lain_step c (r + 58) D hL.out (dg (m % 16)))
      clear hm hsh hL
      go_wp2_with fail
      go_roundw
      case rel => exact ⟨r, m / 16, _, dg (m % 16) :: D, by omega, rfl, by go_num, by omega, by omega, hm2, hs2, hL2, rfl⟩
      case measure => simp [intOf]; omega

set_option maxHeartbeats 1000000 in
theorem w_iapp (v : Value) (ys : List Int) (n : Int) (B : Nat) (w : World) (hT : Tab w) (hO : w.ownsRow B 5 1 v ys.length (ys.map (Value.int .u8))) (hB : B ≤ w.heap.size) (n0 : 0 ≤ n) (n1 : n < 4294967296) (hz : ys.length + 8 ≤ 140737488355328) :
    Calls Tryd.prog 59 #[v, .int .u64 n, .int .i64 16] w fun e w' => ∃ v', e = .returned v' ∧ w'.ownsRow B 5 1 v' (ys ++ sh 16 n).length ((ys ++ sh 16 n).map (Value.int .u8)) ∧ Below B w w' := by
  go_enter Tryd.func59, Tryd.ntmps59
  go_wp2_with (go_at_call 68; refine (w_fbits v ys n B _ hT hO hB n0 n1 hz).mono ?_; rintro e w1 ⟨v1, rfl, h1, h2⟩)
  go_ret
  exact ⟨v1, rfl, h1, h2⟩

set_option maxHeartbeats 1000000 in
theorem w_sapp (v : Value) (ys : List Int) (n : Int) (B : Nat) (w : World) (hT : Tab w) (hO : w.ownsRow B 5 1 v ys.length (ys.map (Value.int .u8))) (hB : B ≤ w.heap.size) (n0 : 0 ≤ n) (n1 : n < 4294967296) (hz : ys.length + 8 ≤ 140737488355328) :
    Calls Tryd.prog 55 #[v, .int .u64 n, .int .i64 16] w fun e w' => ∃ v', e = .returned v' ∧ w'.ownsRow B 5 1 v' (ys ++ sh 16 n).length ((ys ++ sh 16 n).map (Value.int .u8)) ∧ Below B w w' := by
  go_enter Tryd.func55, Tryd.ntmps55
  go_wp2_with (go_at_call 59; refine (w_iapp v ys n B _ hT hO hB n0 n1 hz).mono ?_; rintro e w1 ⟨v1, rfl, h1, h2⟩)
  go_ret
  exact ⟨v1, rfl, h1, h2⟩

/-
  Unit addresses, parsed and shown, as package prop answers them.
-/
theorem spl_none (l : List Int) (h : ∀ x ∈ l, ¬ x = 44) : spl 44 [] l = [l] := by
  have := spl_skip 44 l [] h []
  rw [List.append_nil, List.nil_append] at this
  rw [this]
  rfl
theorem spl_some (a b : List Int) (h : ∀ x ∈ a, ¬ x = 44) : spl 44 [] (a ++ 44 :: b) = a :: spl 44 [] b := by
  rw [spl_skip 44 a _ h, List.nil_append, spl, if_pos rfl]
/-- what is read is known: the pieces ahead, and what is left -/
def PU (l : List Int) (P : List (List Int)) (M : Bool) (r : List Int) : Prop := spl 44 [] l = P ++ (if M = true then spl 44 [] r else [])
theorem pu_bad {l : List Int} {P Q : List (List Int)} {p : List Int} (h : spl 44 [] l = P ++ p :: Q) (hp : pcOk p = false) : punF l = ([], 15) := by
  unfold punF
  rw [if_pos]
  rw [h, List.all_append, List.all_cons, hp]
  simp
theorem pu_long {l : List Int} {P : List (List Int)} (h : spl 44 [] l = P) (hp : P.all pcOk = true) (hl : 4 < P.length) : punF l = ([], 3) := by
  unfold punF
  rw [h, hp, if_neg (by decide), if_pos hl]
theorem pu_ok {l : List Int} {P : List (List Int)} (h : spl 44 [] l = P) (hp : P.all pcOk = true) (hl : ¬ 4 < P.length) : punF l = (P.map (num 16), 0) := by
  unfold punF
  rw [h, hp, if_neg (by decide), if_neg hl]
/-- the same call with its three answers told apart -/
theorem cutC_split {l : List Int} {A B : ByteArray} {f : Bool} (h : CutC l A B f) : spl 44 [] l = L A :: (if f = true then spl 44 [] (L B) else []) ∧ A.size ≤ l.length ∧ (f = true → A.size + 1 + B.size = l.length) := by
  rcases h with ⟨rfl, h1, h2⟩ | ⟨rfl, h1, h2⟩
  · refine ⟨?_, ?_, fun h => by cases h⟩
    · rw [spl_none l h2, h1]; rfl
    · rw [← h1, L_len]; exact Nat.le_refl _
  · refine ⟨?_, ?_, fun _ => ?_⟩
    · rw [h1, spl_some _ _ h2]; rfl
    · rw [h1, List.length_append, L_len]; omega
    · rw [h1, List.length_append, List.length_cons, L_len, L_len]; omega
def strOf : Value → Nat | .string s => s.size | _ => 0
def boolOf : Value → Bool | .bool b => b | _ => false

set_option maxHeartbeats 4000000 in
set_option maxRecDepth 100000 in
theorem w_psunit (v : Value) (xs : List Int) (w : World) (hT : Tab w) (h : Rd .u32 w v xs) (hC : cells xs) (hz : xs.length * 16 ≤ 140737488355328) :
    Calls Tryd.prog 50 #[v] w fun e w' => e = .returned (.string (strOfNums (shoF xs))) ∧ Below w.heap.size w w' := by
  have hlen := rd_len h uU (P := Tryd.prog)
  obtain ⟨i0, hi, hz0, hz1, hz2⟩ := info_parts infoU8
  obtain ⟨F, hF⟩ : ∃ F, strOfNums (shoF xs) = F := ⟨_, rfl⟩
  have HF := hid hF
  rw [hF]
  clear hF
  go_enter Tryd.func50, Tryd.ntmps50
  go_wp2_with fail
  go_loopw [3, 8] (fun U I wx => ∃ (k : Nat) (ys : List Int), (k : Int) ≤ xs.length ∧ I = .int .i64 k ∧ Hid (ys = shoF (xs.take k)) ∧ (ys.length : Int) ≤ 9 * k ∧ Own8 w.heap.size wx U ys ∧ Below w.heap.size w wx) (fun _ I _ => (xs.length - intOf I).toNat)
  case atStart => exact ⟨0, [], by omega, rfl, hid rfl, by simp, World.ownsRow_nil _ _ _ _, Below.refl _ _⟩
  case round =>
    obtain ⟨k, ys, hk, rfl, hys, hyl, ho, hb⟩ := hrel
    by_cases hlt : (k : Int) < xs.length
    · have hkk : k < xs.length := by omega
      obtain ⟨ad, g1, cw⟩ := rd_idx h uU zU k (by omega) hlt
      have hx := hC xs[k] (List.getElem_mem hkk)
      have hgk : xs.getD (k : Int).toNat 0 = xs[k] := by rw [Int.toNat_natCast, List.getD_eq_getElem?_getD, List.getElem?_eq_getElem hkk]; rfl
      rw [hgk] at cw
      have htk : xs.take (k + 1) = xs.take k ++ [xs[k]] := List.take_succ_eq_append_getElem hkk
      obtain ⟨x, hxx⟩ : ∃ x, xs[k] = x := ⟨_, rfl⟩
      rw [hxx] at cw hx htk
      obtain ⟨x0, x1⟩ := hx
      have c1 := below_cell hb cw
      have hsl := (sh16_len x x0 x1).2
      rcases Nat.eq_zero_or_pos k with hk0 | hk0
      · have hyn : ys = [] := List.eq_nil_of_length_eq_zero (by omega)
        subst hyn
        have hys2 : Hid ([] ++ sh 16 x = shoF (xs.take (k + 1))) := by show _ = _; rw [htk, hk0]; simp [shoF_one]
        have hkn : ¬ (0 : Int) < k := by omega
        clear hxx hgk htk hys hk0
        go_wp2_with (go_at_call 55; refine (w_sapp _ [] x w.heap.size _ (hT.below hb) ho hb.size x0 x1 (by simp)).mono ?_; rintro e w5 ⟨v5, rfl, ho5, hb5⟩)
        go_roundw
        case rel => exact ⟨k + 1, [] ++ sh 16 x, by omega, by go_num, hys2, by simp; omega, ho5, hb.trans hb5⟩
        case measure => simp [intOf]; omega
      · have hne : xs.take k ≠ [] := by
          have hl : (xs.take k).length = k := by rw [List.length_take]; omega
          intro h
          rw [h] at hl
          simp at hl
          omega
        have hys2 : Hid ((ys ++ [44]) ++ sh 16 x = shoF (xs.take (k + 1))) := by
          show _ = _
          rw [htk, shoF_snoc _ _ hne, hys.out]
          simp
        have hkp : (0 : Int) < k := by omega
        have ho3 := World.ownsRow.alloc ho (.cells #[.int .u8 44] 5)
        have hb3 := hb.alloc hb.size (.cells #[.int .u8 44] 5)
        clear hxx hgk htk hys hne ho
        go_wp2_with (first
          | (at_builtin; refine wpList_append_rd (k := .u8) rfl _ _ 31 rfl w.heap.size 5 i0 1 Tryd.underlying31 hi hz0 hz1 hz2 _ ys rfl ho3 _ [44] rfl (rd_one _ 44 5) (by unfold maxLen; simp; omega) (by simp; omega) hb3.size ?_; intro v4 w4 ho4 hg4; have hb4 := below_grown hb3 hg4 (fun k hk => (ho3.lt k hk).1))
          | (go_at_call 55; refine (w_sapp _ (ys ++ [44]) x w.heap.size _ (hT.below hb4) ho4 hb4.size x0 x1 (by simp; omega)).mono ?_; rintro e w5 ⟨v5, rfl, ho5, hb5⟩))
        go_roundw
        case rel => exact ⟨k + 1, (ys ++ [44]) ++ sh 16 x, by omega, by go_num, hys2, by simp; omega, ho5, hb4.trans hb5⟩
        case measure => simp [intOf]; omega
    · have hr := (Rd_own ho).1
      have cs := rd_strT hr
      have e : strOfNums ys = F := by rw [← HF.out, hys.out, List.take_of_length_le (by omega)]
      rw [e] at cs
      clear e
      go_wp2_with fail
      go_ret
      exact ⟨rfl, hb⟩

/-
  formed, showStep and short of package path.
-/
set_option maxHeartbeats 4000000 in
set_option maxRecDepth 100000 in
theorem w_pformed (nm ar : ByteArray) (v : Value) (u : List Int) (w : World) (hr : Rd .u32 w v u) (hn : nm.size ≤ maxLen) (ha : ar.size ≤ maxLen) :
    Calls Tryd.prog 27 #[.agg #[.string nm, v, .string ar]] w fun e w' => e = .returned (.bool (okS (L nm, u, L ar))) ∧ Below w.heap.size w w' := by
  have hlen := rd_len hr uU (P := Tryd.prog)
  obtain ⟨ao, cap, rfl, -⟩ := rd_form hr
  have b0 := box_below w (.cells #[.string nm, .slice ao u.length cap, .string ar] 43)
  have sx := stands_new w #[.string nm, .slice ao u.length cap, .string ar] 43
  obtain ⟨w1, hw1⟩ : ∃ w1, w.alloc (.cells #[.string nm, .slice ao u.length cap, .string ar] 43) = w1 := ⟨_, rfl⟩
  rw [hw1] at b0 sx
  have x0 := sx.cell 0 _ rfl
  have cn := w_pnamed nm w1 hn
  have ca := fun w => w_cont47 ar w
  have hok : okS (L nm, u, L ar) = (nmF (L nm) && (decide (u.length ≤ 4) && (L ar).all (fun c => decide (¬ c = 47)))) := rfl
  rw [hok]
  clear hok
  cases hnm : nmF (L nm)
  · rw [hnm] at cn
    go_enter Tryd.func27, Tryd.ntmps27
    go_wp2_with (go_at_call 40; refine cn.mono ?_; rintro e w2 ⟨rfl, b2⟩)
    go_ret
    exact ⟨rfl, below_trans b0 b2⟩
  · rw [hnm] at cn
    by_cases h4 : (u.length : Int) ≤ 4
    · have e4 : decide (u.length ≤ 4) = true := decide_eq_true (by omega)
      rw [e4]
      go_enter Tryd.func27, Tryd.ntmps27
      go_wp2_with (first
        | (go_at_call 40; refine cn.mono ?_; rintro e w2 ⟨rfl, b2⟩; have s2 := sx.below b2; have y1 := s2.cell 1 _ rfl; have y2 := s2.cell 2 _ rfl)
        | (go_at_call 48; refine (ca _).mono ?_; rintro e w3 ⟨rfl, rfl⟩))
      go_ret
      refine ⟨?_, below_trans b0 b2⟩
      have e : (L ar).all (fun c => decide (¬ c = 47)) = (L ar).all (fun c => !decide (c = 47)) := by simp only [decide_not]
      rw [e]
      rfl
    · have e4 : decide (u.length ≤ 4) = false := decide_eq_false (by omega)
      rw [e4]
      go_enter Tryd.func27, Tryd.ntmps27
      go_wp2_with (go_at_call 40; refine cn.mono ?_; rintro e w2 ⟨rfl, b2⟩; have s2 := sx.below b2; have y1 := s2.cell 1 _ rfl; have y2 := s2.cell 2 _ rfl)
      go_ret
      exact ⟨rfl, below_trans b0 b2⟩

set_option maxHeartbeats 1000000 in
set_option maxRecDepth 100000 in
theorem w_pshort (s : ByteArray) (w : World) (hs : s.size ≤ maxLen) :
    Calls Tryd.prog 30 #[.string s] w fun e w' => e = .returned (if 256 < s.size then .tuple #[.string ⟨#[]⟩, .int .i64 3] else .tuple #[.string s, .int .i64 0]) ∧ w' = w := by
  unfold maxLen at hs
  by_cases h : (256 : Int) < s.size
  · rw [if_pos (by omega)]
    go_enter Tryd.func30, Tryd.ntmps30
    go_wp2_with fail
    go_ret2
    exact ⟨rfl, rfl⟩
  · rw [if_neg (by omega)]
    go_enter Tryd.func30, Tryd.ntmps30
    go_wp2_with fail
    go_ret2
    exact ⟨rfl, rfl⟩

set_option maxHeartbeats 4000000 in
set_option maxRecDepth 100000 in
theorem w_pshowstep (nm ar : ByteArray) (v : Value) (u : List Int) (w : World) (hT : Tab w) (hr : Rd .u32 w v u) (hC : cells u) (hz : u.length ≤ 4) (hn : nm.size ≤ 100000000000) (ha : ar.size ≤ 100000000000) :
    Calls Tryd.prog 29 #[.agg #[.string nm, v, .string ar]] w fun e w' => ∃ S, e = .returned (.string S) ∧ L S = bodT (L nm, u, L ar) ∧ Below w.heap.size w w' := by
  have hlen := rd_len hr uU (P := Tryd.prog)
  obtain ⟨ao, cap, rfl, -⟩ := rd_form hr
  have b0 := box_below w (.cells #[.string nm, .slice ao u.length cap, .string ar] 43)
  have sx := stands_new w #[.string nm, .slice ao u.length cap, .string ar] 43
  obtain ⟨w1, hw1⟩ : ∃ w1, w.alloc (.cells #[.string nm, .slice ao u.length cap, .string ar] 43) = w1 := ⟨_, rfl⟩
  rw [hw1] at b0 sx
  have x0 := sx.cell 0 _ rfl
  have x1 := sx.cell 1 _ rfl
  have x2 := sx.cell 2 _ rfl
  have cu := w_psunit _ u w1 (hT.below b0) (hr.below b0) hC (by omega)
  have hSL : L (strOfNums (shoF u)) = shoF u := LB_nums _ (shoF_bytes u hC)
  have hSs : (strOfNums (shoF u)).size ≤ 36 := by
    have := shoF_len u hC
    rw [← L_len, hSL]
    omega
  obtain ⟨S, hS⟩ : ∃ S, strOfNums (shoF u) = S := ⟨_, rfl⟩
  rw [hS] at cu hSs hSL
  have HS := hid hSL
  have hA : ∀ b, (!ar.toList.isEmpty) = b → (L ar = []) = (b = false) := by
    intro b hb
    have : L ar = [] ↔ ar.toList.isEmpty = true := by
      rw [ByteArray.toList_eq, List.isEmpty_iff]
      unfold L
      rw [List.map_eq_nil_iff]
    rw [this, ← hb]
    cases ar.toList.isEmpty <;> simp
  have HA := hid hA
  clear hS hSL hA
  go_enter Tryd.func29, Tryd.ntmps29
  go_wp2_with (go_at_call 50; refine cu.mono ?_; rintro e w2 ⟨rfl, b2⟩; have s2 := sx.below b2; have y1 := s2.cell 1 _ rfl; have y2 := s2.cell 2 _ rfl)
  · rename_i h1 h2
    go_ret
    refine ⟨_, rfl, ?_, below_trans b0 b2⟩
    have hu : ¬ u = [] := by intro e; rw [e] at h1; simp at h1
    have ha : ¬ L ar = [] := by rw [HA.out _ h2]; simp
    show L ((nm ++ (_ ++ S)) ++ (_ ++ ar)) = _
    rw [L_app, L_app, L_app, L_app, HS.out]
    show _ = L nm ++ ((if u = [] then [] else 64 :: shoF u) ++ (if L ar = [] then [] else 58 :: L ar))
    rw [if_neg hu, if_neg ha]
    simp [L]
  · rename_i h1 h2
    go_ret
    refine ⟨_, rfl, ?_, below_trans b0 b2⟩
    have hu : ¬ u = [] := by intro e; rw [e] at h1; simp at h1
    have ha : L ar = [] := by rw [HA.out _ h2]
    show L (nm ++ (_ ++ S)) = _
    rw [L_app, L_app, HS.out]
    show _ = L nm ++ ((if u = [] then [] else 64 :: shoF u) ++ (if L ar = [] then [] else 58 :: L ar))
    rw [if_neg hu, if_pos ha]
    simp [L]
  · rename_i h1 h2
    go_ret
    refine ⟨_, rfl, ?_, b0⟩
    have hu : u = [] := List.eq_nil_of_length_eq_zero (by omega)
    have ha : ¬ L ar = [] := by rw [HA.out _ h2]; simp
    show L (nm ++ (_ ++ ar)) = _
    rw [L_app, L_app]
    show _ = L nm ++ ((if u = [] then [] else 64 :: shoF u) ++ (if L ar = [] then [] else 58 :: L ar))
    rw [if_pos hu, if_neg ha]
    simp [L]
  · rename_i h1 h2
    go_ret
    refine ⟨_, rfl, ?_, b0⟩
    have hu : u = [] := List.eq_nil_of_length_eq_zero (by omega)
    have ha : L ar = [] := by rw [HA.out _ h2]
    show L nm = _
    show _ = L nm ++ ((if u = [] then [] else 64 :: shoF u) ++ (if L ar = [] then [] else 58 :: L ar))
    rw [if_pos hu, if_pos ha]
    simp

end Go.Proofs.YtkdaimagdmbnfabDoor
