/-
  Texts of one proof, laid one behind the other: Rdb Abv Rt8 Rta Rtb Rtc Dpr.
-/
import Derived.Test.YtfljcfpcokimcaaB14
import Derived.Deep.RegionHeld
namespace Go.Proofs.Ytfljcfpcokimcaa
open Go.ChangeShapes Go.WideShapes Go.ChangeAt Go.RowKit
set_option linter.unusedVariables false
set_option linter.unusedSimpArgs false

/-
  Machines of the call's own; copyOps of the document's answer.
-/
def OwO (base : Nat) (w : World) (v : Value) (l : List Opd) : Prop := OwnR 78 2 opR base w v l
def wrdO (base : Nat) (w : World) (cs : List Value) (x : Wd) : Prop := ∃ vc, cs = [.string (strOfNums x.1), .int .i64 x.2.1, .int .i64 x.2.2.1, .int .u32 x.2.2.2.1, vc] ∧ OwO base w vc x.2.2.2.2
def insO (base : Nat) (w : World) (cs : List Value) (x : Iz) : Prop := ∃ vc, cs = [.int .i64 x.1, .int .i64 x.2.1, .string (strOfNums x.2.2.1), vc] ∧ w.ownsRow base 28 1 vc x.2.2.2.length (x.2.2.2.map (Value.int .u32))
theorem opR_apt {T : TypeId} : Apt T opR := fun _ _ _ _ _ h => h
theorem OwO.read {base : Nat} {w : World} {v : Value} {l : List Opd} (h : OwO base w v l) : RdO w v l := OwnR.read (by decide) h (fun _ _ x => x)
theorem OwO.kept {base : Nat} {T : TypeId} {w w' : World} {v : Value} {l : List Opd} (h : OwO base w v l) (k : Kept T w w') (hne : ¬ 78 = T) : OwO base w' v l := OwnR.kept h k hne opR_apt
theorem OwO.below {base : Nat} {w w' : World} {v : Value} {l : List Opd} (h : OwO base w v l) (g : Below w.heap.size w w') : OwO base w' v l := OwnR.below h g (fun _ _ x => x)
theorem OwO.le {b b' : Nat} {w : World} {v : Value} {l : List Opd} (hb : b ≤ b') (h : OwO b' w v l) : OwO b w v l := OwnR.le hb h (fun _ _ x => x)
theorem wrdO_R {base : Nat} {w : World} (cs : List Value) (x : Wd) (h : wrdO base w cs x) : wrdR w cs x := by
  obtain ⟨v, h1, h2⟩ := h
  exact ⟨v, h1, h2.read⟩
theorem wrdO_apt {base : Nat} {T : TypeId} (h : ¬ 78 = T) : Apt T (wrdO base) := by
  rintro w w' cs x k ⟨v, h1, h2⟩
  exact ⟨v, h1, h2.kept k h⟩
theorem wrdO_below {base : Nat} {w w' : World} (g : Below w.heap.size w w') (cs : List Value) (x : Wd) (h : wrdO base w cs x) : wrdO base w' cs x := by
  obtain ⟨v, h1, h2⟩ := h
  exact ⟨v, h1, h2.below g⟩
theorem wrdO_le {b b' : Nat} {w : World} (hb : b ≤ b') (cs : List Value) (x : Wd) (h : wrdO b' w cs x) : wrdO b w cs x := by
  obtain ⟨v, h1, h2⟩ := h
  exact ⟨v, h1, h2.le hb⟩
theorem insO_R {base : Nat} {w : World} (cs : List Value) (x : Iz) (h : insO base w cs x) : insR w cs x := by
  obtain ⟨v, h1, h2⟩ := h
  exact ⟨v, h1, (Rd_own h2).1⟩
theorem insO_apt {base : Nat} {T : TypeId} (h : ¬ 28 = T) : Apt T (insO base) := by
  rintro w w' cs x k ⟨v, h1, h2⟩
  exact ⟨v, h1, own_kept k h h2⟩
theorem insO_below {base : Nat} {w w' : World} (g : Below w.heap.size w w') (cs : List Value) (x : Iz) (h : insO base w cs x) : insO base w' cs x := by
  obtain ⟨v, h1, h2⟩ := h
  exact ⟨v, h1, own_below h2 g⟩
theorem insO_le {b b' : Nat} {w : World} (hb : b ≤ b') (cs : List Value) (x : Iz) (h : insO b' w cs x) : insO b w cs x := by
  obtain ⟨v, h1, h2⟩ := h
  exact ⟨v, h1, own_le hb h2⟩
def OwW (base : Nat) (w : World) (v : Value) (l : List Wd) : Prop := OwnR 51 5 (wrdO base) base w v l
def OwI (base : Nat) (w : World) (v : Value) (l : List Iz) : Prop := OwnR 83 4 (insO base) base w v l
/-- a machine of the call's own -/
structure OwM (base : Nat) (w : World) (v : Mv) (m : Mc) (o : ByteArray) : Prop where
  stack : w.ownsRow base 28 1 v.vs m.stack.length (m.stack.map (Value.int .u32))
  mem : w.ownsRow base 5 1 v.vm m.mem.length (m.mem.map (Value.int .u8))
  words : OwW base w v.vw m.words
  codes : w.ownsRow base 3 1 v.vc m.codes.length (m.codes.map (Value.int .i64))
  tree : OwnT8 base w v.vt m.tree
  insts : OwI base w v.vi m.insts
  out : strOfNums m.out = o
theorem OwM.read {base : Nat} {w : World} {v : Mv} {m : Mc} {o : ByteArray} (h : OwM base w v m o) : RdM w v m o :=
  ⟨(Rd_own h.stack).1, (Rd_own h.mem).1, OwnR.read (by decide) h.words wrdO_R, (Rd_own h.codes).1, ownT8_read h.tree, OwnR.read (by decide) h.insts insO_R, h.out⟩
theorem OwM.below {base : Nat} {w w' : World} {v : Mv} {m : Mc} {o : ByteArray} (h : OwM base w v m o) (g : Below w.heap.size w w') : OwM base w' v m o :=
  ⟨own_below h.stack g, own_below h.mem g, OwnR.below h.words g (wrdO_below g), own_below h.codes g, h.tree.below g, OwnR.below h.insts g (insO_below g), h.out⟩
theorem OwM.le {b b' : Nat} {w : World} {v : Mv} {m : Mc} {o : ByteArray} (hb : b ≤ b') (h : OwM b' w v m o) : OwM b w v m o :=
  ⟨own_le hb h.stack, own_le hb h.mem, OwnR.le hb h.words (wrdO_le hb), own_le hb h.codes, OwnT8.le hb h.tree, OwnR.le hb h.insts (insO_le hb), h.out⟩

theorem infoOp : (Try.prog.info? 78).map (fun i => (i.zero, i.size, i.bytes)) = some (some (.agg #[.int .i64 0, .int .u32 0]), 2, 16) := by kernel_rfl
theorem infoWd : (Try.prog.info? 51).map (fun i => (i.zero, i.size, i.bytes)) = some (some (.agg #[.string ⟨#[]⟩, .int .i64 0, .int .i64 0, .int .u32 0, .slice none 0 0]), 5, 64) := by kernel_rfl
theorem infoIz : (Try.prog.info? 83).map (fun i => (i.zero, i.size, i.bytes)) = some (some (.agg #[.int .i64 0, .int .i64 0, .string ⟨#[]⟩, .slice none 0 0]), 4, 56) := by kernel_rfl

set_option maxHeartbeats 1000000 in
theorem w_r9ops (v : Value) (l : List Opd) (w : World) (h : RdO w v l) (hz : l.length * 16 ≤ 140737488355328) :
    Calls Try.prog 63 #[v] w fun e w' => ∃ v1, e = .returned v1 ∧ OwO w.heap.size w' v1 l ∧ Below w.heap.size w w' := by
  have hm := slr_max h
  obtain ⟨rows, g1, g2, g3⟩ := h
  obtain ⟨i0, hi0, hz0, hz1, hz2⟩ := info_parts infoOp
  have h1 : ∀ r ∈ rows, r.length = 2 := by
    intro r hr
    obtain ⟨i, hi, rfl⟩ := List.getElem_of_mem hr
    have := g3 i (by omega)
    rw [List.getD_eq_getElem?_getD, List.getElem?_eq_getElem hi] at this
    have e : rows[i] = [.int .i64 (l[i]'(by omega)).1, .int .u32 (l[i]'(by omega)).2] := this
    rw [e]
    rfl
  have h2 : ∀ r ∈ rows, ∀ u ∈ r, u.oneCell' = true := by
    intro r hr
    obtain ⟨i, hi, rfl⟩ := List.getElem_of_mem hr
    have := g3 i (by omega)
    rw [List.getD_eq_getElem?_getD, List.getElem?_eq_getElem hi] at this
    have e : rows[i] = [.int .i64 (l[i]'(by omega)).1, .int .u32 (l[i]'(by omega)).2] := this
    rw [e]
    intro u hu
    simp at hu
    rcases hu with rfl | rfl <;> rfl
  have H2 := hid h2
  have H1 := hid h1
  have H3 := hid g3
  clear h2 h1 g3
  go_enter Try.func63, Try.ntmps63
  go_wp2_with (at_builtin; refine wpList_append_rows rfl _ _ 45 rfl w.heap.size 78 i0 _ 2 16 Try.underlying45 hi0 hz0 hz1 hz2 rfl (by decide) (.slice none 0 0) 0 [] rfl (World.ownsRow_nil _ _ _ _) v rows rfl g1 H2.out (by omega) (by omega) (Nat.le_refl _) ?_; intro v4 w4 ho4 hg4)
  go_ret
  refine ⟨v4, rfl, ⟨rows, by omega, H1.out, by simpa [g2] using ho4, fun i hi => H3.out i hi⟩, below_grown (Below.refl _ _) hg4 (fun k hk => by cases hk)⟩

/-
  What lies in blocks from a bound on stands, where only blocks below it are written.
-/
/-- blocks from base on stand -/
def Ab (base : Nat) (w w' : World) : Prop := ∀ k, base ≤ k → k < w.heap.size → w'.heap[k]? = w.heap[k]?
theorem ab_set {base : Nat} (w : World) (g j : Nat) (u : Value) (hg : g < base) : Ab base w (w.setCell ⟨g, j, none⟩ u) := by
  intro k hk hs
  exact Below.heap_setCell _ _ _ k (fun e => by have e2 : k = g := e; omega)
theorem own_ab {base : Nat} {w w' : World} {e : TypeId} {sz : Nat} {v : Value} {n : Nat} {cs : List Value} (k : Ab base w w') (o : w.ownsRow base e sz v n cs) : w'.ownsRow base e sz v n cs := by
  obtain ⟨hl, o⟩ := o
  refine ⟨hl, ?_⟩
  rcases o with h | ⟨b, cap, cur, rfl, h1, h2, h3⟩
  · exact Or.inl h
  · refine Or.inr ⟨b, cap, cur, rfl, h1, ?_, h3⟩
    rw [k b h1 (Array.getElem?_eq_some_iff.1 h2).1]
    exact h2
theorem OwnR.ab {α : Type} {e : TypeId} {sz : Nat} {O : World → List Value → α → Prop} {base : Nat} {w w' : World} {v : Value} {xs : List α} (h : OwnR e sz O base w v xs) (k : Ab base w w') (hO : ∀ cs x, O w cs x → O w' cs x) : OwnR e sz O base w' v xs := by
  obtain ⟨rows, h1, h2, h3, h4⟩ := h
  exact ⟨rows, h1, h2, own_ab k h3, fun i hi => hO _ _ (h4 i hi)⟩
theorem propO_ab {base : Nat} {w w' : World} (k : Ab base w w') (cs : List Value) (x : Pp) (h : propO base w cs x) : propO base w' cs x := by
  obtain ⟨v, h1, h2⟩ := h
  exact ⟨v, h1, own_ab k h2⟩
theorem nodO_ab {base : Nat} {w w' : World} (k : Ab base w w') (cs : List Value) (x : Nd) (h : nodO base w cs x) : nodO base w' cs x := by
  obtain ⟨vu, vp, vc, h1, h2, h3, h4⟩ := h
  exact ⟨vu, vp, vc, h1, own_ab k h2, h3.ab k (propO_ab k), own_ab k h4⟩
theorem wrdO_ab {base : Nat} {w w' : World} (k : Ab base w w') (cs : List Value) (x : Wd) (h : wrdO base w cs x) : wrdO base w' cs x := by
  obtain ⟨v, h1, h2⟩ := h
  exact ⟨v, h1, OwnR.ab h2 k (fun _ _ q => q)⟩
theorem insO_ab {base : Nat} {w w' : World} (k : Ab base w w') (cs : List Value) (x : Iz) (h : insO base w cs x) : insO base w' cs x := by
  obtain ⟨v, h1, h2⟩ := h
  exact ⟨v, h1, own_ab k h2⟩
theorem OwM.ab {base : Nat} {w w' : World} {v : Mv} {m : Mc} {o : ByteArray} (h : OwM base w v m o) (k : Ab base w w') : OwM base w' v m o :=
  ⟨own_ab k h.stack, own_ab k h.mem, OwnR.ab h.words k (wrdO_ab k), own_ab k h.codes, OwnR.ab h.tree k (nodO_ab k), OwnR.ab h.insts k (insO_ab k), h.out⟩
theorem OwO.ab {base : Nat} {w w' : World} {v : Value} {l : List Opd} (h : OwO base w v l) (k : Ab base w w') : OwO base w' v l := OwnR.ab h k (fun _ _ q => q)
/-- all of a machine of the call's own but its words stands where a row of words has grown -/
theorem OwM.grewW {base : Nat} {w w' : World} {v : Mv} {m : Mc} {o : ByteArray} (h : OwM base w v m o) (k : Kept 51 w w') {vw : Value} {l : List Wd} (hw : OwW base w' vw l) : OwM base w' { v with vw := vw } { m with words := l } o :=
  ⟨own_kept k (by decide) h.stack, own_kept k (by decide) h.mem, hw, own_kept k (by decide) h.codes, OwnR.kept h.tree k (by decide) (nodO_apt (by decide) (by decide) (by decide)), OwnR.kept h.insts k (by decide) (insO_apt (by decide)), h.out⟩
/-- the same of its codes -/
theorem OwM.grewC {base : Nat} {w w' : World} {v : Mv} {m : Mc} {o : ByteArray} (h : OwM base w v m o) (k : Kept 3 w w') {vc : Value} {l : List Int} (hc : w'.ownsRow base 3 1 vc l.length (l.map (Value.int .i64))) : OwM base w' { v with vc := vc } { m with codes := l } o :=
  ⟨own_kept k (by decide) h.stack, own_kept k (by decide) h.mem, OwnR.kept h.words k (by decide) (wrdO_apt (by decide)), hc, OwnR.kept h.tree k (by decide) (nodO_apt (by decide) (by decide) (by decide)), OwnR.kept h.insts k (by decide) (insO_apt (by decide)), h.out⟩
/-- a machine's box is written: the machine of the call's own stands -/
theorem OwM.kept {base : Nat} {T : TypeId} {w w' : World} {v : Mv} {m : Mc} {o : ByteArray} (h : OwM base w v m o) (k : Kept T w w') (h8 : ¬ 5 = T) (h32 : ¬ 28 = T) (hp : ¬ 101 = T) (hn : ¬ 91 = T) (hi : ¬ 3 = T) (hw : ¬ 51 = T) (ho : ¬ 78 = T) (hx : ¬ 83 = T) : OwM base w' v m o :=
  ⟨own_kept k h32 h.stack, own_kept k h8 h.mem, OwnR.kept h.words k hw (wrdO_apt ho), own_kept k hi h.codes, OwnR.kept h.tree k hn (nodO_apt h8 h32 hp), OwnR.kept h.insts k hx (insO_apt h32), h.out⟩

/-
  New and Add of the document's answer for trees.
-/
/-- a formed tree is small -/
theorem frm_siz {t : List Nd} (hf : frmT t = true) : t.length ≤ 32 ∧ ∀ x ∈ t, sizN x := by
  obtain ⟨g0, g1, g2, g3⟩ := (frm_iff t).1 hf
  refine ⟨g1, fun x hx => ?_⟩
  obtain ⟨i, hi, rfl⟩ := List.getElem_of_mem hx
  have h := g3 i hi
  unfold okN at h
  simp only [Bool.and_eq_true, Bool.or_eq_true, decide_eq_true_eq] at h
  obtain ⟨h1, h2, h3, h4⟩ := h
  have hu : t[i].2.1.length ≤ 4 := by
    rcases h1 with h1 | h1
    · subst h1
      unfold rootF at g2
      simp only [Bool.and_eq_true, decide_eq_true_eq] at g2
      rw [g2.2.1]
      simp
    · unfold okA at h1
      simp only [Bool.and_eq_true, decide_eq_true_eq] at h1
      omega
  refine ⟨by omega, by omega, by omega, fun p hp => ?_⟩
  have := (((okR_iff _).1 h4).1 p hp).2
  omega

set_option maxHeartbeats 1000000 in
theorem w_r8new (w : World) : Calls Try.prog 35 #[] w fun e w' => ∃ v, e = .returned v ∧ OwnT8 w.heap.size w' v [([], [], -1, [], [])] ∧ Below w.heap.size w w' := by
  go_enter Try.func35, Try.ntmps35
  go_wp2_with fail
  go_ret
  refine ⟨_, rfl, ?_, box_below _ _⟩
  refine ⟨[[.string ⟨#[]⟩, .slice none 0 0, .int .i64 (-1), .slice none 0 0, .slice none 0 0]], rfl, by simp, ⟨rfl, Or.inr ⟨w.heap.size, 1, #[.string ⟨#[]⟩, .slice none 0 0, .int .i64 (-1), .slice none 0 0, .slice none 0 0], rfl, Nat.le_refl _, heap_alloc_new w _, Nat.le_refl _, by decide, rfl, rfl⟩⟩, fun i hi => ?_⟩
  have : i = 0 := by simp at hi; omega
  subst this
  exact ⟨_, _, _, rfl, World.ownsRow_nil _ _ _ _, OwnR.nil _ _ _ _ _, World.ownsRow_nil _ _ _ _⟩

/-
  A device's properties put anew in a tree of the call's own.
-/
theorem grown_below {w w' : World} {r : Option Nat} (g : w.grownBy w' r) {e : TypeId} {sz base : Nat} {v : Value} {n : Nat} {cs : List Value} (o : w.ownsRow base e sz v n cs) (hne : ∀ k, v.ownBlock = some k → r ≠ some k) : w'.ownsRow base e sz v n cs := by
  obtain ⟨hl, o⟩ := o
  refine ⟨hl, ?_⟩
  rcases o with h | ⟨b, cap, cur, rfl, h1, h2, h3⟩
  · exact Or.inl h
  · refine Or.inr ⟨b, cap, cur, rfl, h1, ?_, h3⟩
    rw [g.block b (Array.getElem?_eq_some_iff.1 h2).1 (fun e => hne b rfl e.symm)]
    exact h2
/-- a device stands, where a block of properties that is not its own has grown -/
theorem nodO_grown {base : Nat} {w w' : World} {r : Option Nat} (g : w.grownBy w' r) (k : Kept 101 w w') {cs : List Value} {x : Nd} (h : nodO base w cs x) (hne : ∀ b, (cs.getD 3 (.slice none 0 0)).ownBlock = some b → r ≠ some b) : nodO base w' cs x := by
  obtain ⟨vu, vp, vc, rfl, o1, ⟨rows, p1, p2, p3, p4⟩, o3⟩ := h
  refine ⟨vu, vp, vc, rfl, own_kept k (by decide) o1, ⟨rows, p1, p2, grown_below g p3 (by simpa using hne), fun i hi => ?_⟩, own_kept k (by decide) o3⟩
  exact propO_apt (by decide) _ _ _ _ k (p4 i hi)

theorem ts_put {base : Nat} {w w1 : World} {g m cap n : Nat} {t : List Nd} {rows : List (List Value)} (h1 : rows.length = t.length) (h2 : ∀ r ∈ rows, r.length = 5) (h3 : w.ownsRow base 91 5 (.slice (some ⟨g, 0, none⟩) m cap) t.length rows.flatten) (h4 : ∀ i (h : i < t.length), nodO base w (rows.getD i []) t[i]) (h5 : SepR rows)
    (hn : n < t.length) {nm vu vp vc : Value} {p : Value} (hrow : rows.getD n [] = [nm, vu, p, vp, vc]) (gr : w.grownBy w1 vp.ownBlock) (kp : Kept 101 w w1) {l : List Pp} {vp' : Value} (hp : OwnR 101 2 (propO base) base w1 vp' l)
    (hs : vp'.ownBlock = vp.ownBlock ∨ ∀ k, vp'.ownBlock = some k → w.heap.size ≤ k) :
    OwnTS base (w1.setCell ⟨g, n * 5 + 3, none⟩ vp') (.slice (some ⟨g, 0, none⟩) m cap) (t.set n (t[n].1, t[n].2.1, t[n].2.2.1, l, t[n].2.2.2.2)) := by
  have hsep : ∀ j, j < rows.length → j ≠ n → ∀ b, ((rows.getD j []).getD 3 (.slice none 0 0)).ownBlock = some b → vp.ownBlock ≠ some b := by
    intro j hj hjn b hb hv
    have hvp : ((rows.getD n []).getD 3 (.slice none 0 0)).ownBlock = some b := by rw [hrow]; exact hv
    rcases Nat.lt_or_gt_of_ne hjn with hlt | hgt
    · exact h5 j n b hlt (by omega) hb hvp
    · exact h5 n j b hgt hj hvp hb
  have k4 : ∀ i (h : i < t.length), i ≠ n → nodO base w1 (rows.getD i []) t[i] := fun i hi hin => nodO_grown gr kp (h4 i hi) (fun b hb => hsep i (by omega) hin b hb)
  have h3' : w1.ownsRow base 91 5 (.slice (some ⟨g, 0, none⟩) m cap) t.length rows.flatten := own_kept kp (by decide) h3
  have hmt : m = t.length := by
    obtain ⟨_, h3⟩ := h3
    rcases h3 with ⟨h, _⟩ | ⟨g', cap', cur, h, _⟩
    · simp at h
    · simp at h; exact h.2.1
  subst hmt
  obtain ⟨s1, s2⟩ := h3'.stored (n * 5 + 3) vp'
  have kn : Kept 91 w1 (w1.setCell ⟨g, n * 5 + 3, none⟩ vp') := Kept.own (v := .slice (some ⟨g, 0, none⟩) t.length cap) h3' (by simpa [Value.ownBlock] using s2)
  rw [flat_set rows 5 n 3 vp' h2 (by omega) (by decide)] at s1
  have ha : Apt 91 (nodO base) := nodO_apt (by decide) (by decide) (by decide)
  obtain ⟨vu0, vp0, vc0, hcs, o1, o2, o3⟩ := h4 n hn
  rw [hrow] at hcs
  simp at hcs
  obtain ⟨rfl, rfl, rfl, rfl, rfl⟩ := hcs
  have hrow2 : (rows.getD n []).set 3 vp' = [.string (strOfNums t[n].1), vu, .int .i64 t[n].2.2.1, vp', vc] := by rw [hrow]; rfl
  refine ⟨rows.set n ((rows.getD n []).set 3 vp'), by simp [h1], fun r hr => ?_, by simpa using s1, fun i hi => ?_, ?_⟩
  · rcases List.mem_or_eq_of_mem_set hr with hr | rfl
    · exact h2 r hr
    · rw [hrow2]; rfl
  · rw [List.length_set] at hi
    rw [List.getElem_set]
    by_cases hin : n = i
    · subst hin
      rw [if_pos rfl, List.getD_eq_getElem?_getD, List.getElem?_set_self (by omega)]
      show nodO base _ ((rows.getD n []).set 3 vp') _
      rw [hrow2]
      exact ha _ _ _ _ kn ⟨vu, vp', vc, rfl, own_kept kp (by decide) o1, hp, own_kept kp (by decide) o3⟩
    · rw [if_neg hin, List.getD_eq_getElem?_getD, List.getElem?_set_ne hin, ← List.getD_eq_getElem?_getD]
      exact ha _ _ _ _ kn (k4 i hi (fun e => hin e.symm))
  · have hget : ∀ j, ((rows.set n ((rows.getD n []).set 3 vp')).getD j []) = if j = n then (rows.getD n []).set 3 vp' else rows.getD j [] := by
      intro j
      by_cases hj : j = n
      · subst hj
        rw [if_pos rfl, List.getD_eq_getElem?_getD, List.getElem?_set_self (by omega)]
        rfl
      · rw [if_neg hj, List.getD_eq_getElem?_getD, List.getElem?_set_ne (fun e => hj e.symm), ← List.getD_eq_getElem?_getD]
    have hnew : ∀ j b, j < rows.length → j ≠ n → ((rows.getD j []).getD 3 (.slice none 0 0)).ownBlock = some b → vp'.ownBlock ≠ some b := by
      intro j b hj hjn hb hv
      rcases hs with hs | hs
      · exact hsep j hj hjn b hb (by rw [← hs]; exact hv)
      · have := hs b hv
        obtain ⟨vu9, vp9, vc9, hv9, -, op9, -⟩ := h4 j (by omega)
        obtain ⟨cs9, o9⟩ := op9.row
        rw [hv9] at hb
        have a1 := (o9.lt b (by simpa using hb)).2
        omega
    intro i j b hij hj hib hjb
    rw [List.length_set] at hj
    rw [hget] at hib hjb
    by_cases hi : i = n
    · rw [if_pos hi, hrow2] at hib
      rw [if_neg (by omega)] at hjb
      exact hnew j b hj (by omega) hjb hib
    · rw [if_neg hi] at hib
      by_cases hjn : j = n
      · rw [if_pos hjn, hrow2] at hjb
        exact hnew i b (by omega) hi hib hjb
      · rw [if_neg hjn] at hjb
        exact h5 i j b hij hj hib hjb

/-
  Set of the document's answer for trees: what is refused.
-/
/-- a device of a row of the call's own: where it lies -/
theorem idx_node (g m cap n : Nat) (h : n < m) : ∀ w', (Instr.indexAt 29 (.slice (some ⟨g, 0, none⟩) m cap) (.int .i64 (n : Int))).run Try.prog w' = .ok (.pointer (some ⟨g, n * 5, none⟩)) w' := by
  intro w'
  rw [run_indexAt_slice (h := uN), if_pos ⟨by omega, by omega⟩, zN]
  simp only [Result.andThen, Int.toNat_natCast]
  congr 3
  unfold Addr.add
  split
  · rename_i hz; rw [hz]
  · simp
theorem idx_prop (g m cap n : Nat) (h : n < m) : ∀ w', (Instr.indexAt 89 (.slice (some ⟨g, 0, none⟩) m cap) (.int .i64 (n : Int))).run Try.prog w' = .ok (.pointer (some ⟨g, n * 2, none⟩)) w' := by
  intro w'
  rw [run_indexAt_slice (h := uR), if_pos ⟨by omega, by omega⟩, zR]
  simp only [Result.andThen, Int.toNat_natCast]
  congr 3
  unfold Addr.add
  split
  · rename_i hz; rw [hz]
  · simp

/-
  Set of the document's answer for trees: a property that is there.
-/
theorem own_some {w : World} {base : Nat} {e : TypeId} {sz : Nat} {v : Value} {n : Nat} {cs : List Value} (o : w.ownsRow base e sz v n cs) (h : 0 < n) : ∃ g cap, v = .slice (some ⟨g, 0, none⟩) n cap := by
  rcases o.2 with ⟨_, h0⟩ | ⟨g, cap, cur, hv, _⟩
  · omega
  · exact ⟨g, cap, hv⟩
theorem own_cell {w : World} {base : Nat} {e : TypeId} {sz g n cap : Nat} {cs : List Value} (o : w.ownsRow base e sz (.slice (some ⟨g, 0, none⟩) n cap) n cs) (j : Nat) (u : Value) (h : cs[j]? = some u) : w.cell? ⟨g, j, none⟩ = some u := by
  have h1 := o.cells (g := g) rfl j u h
  have e1 : (⟨g, 0, none⟩ : Addr).add j = ⟨g, j, none⟩ := by
    unfold Addr.add
    split
    · rename_i hz; rw [hz]
    · simp
  rwa [e1] at h1
/-- the properties of a device changed in their place -/
theorem ts_in {base : Nat} {w w1 : World} {v : Value} {n : Nat} {t : List Nd} {rows : List (List Value)} (h1 : rows.length = t.length) (h2 : ∀ r ∈ rows, r.length = 5) (h3 : w.ownsRow base 91 5 v t.length rows.flatten) (h4 : ∀ i (h : i < t.length), nodO base w (rows.getD i []) t[i]) (h5 : SepR rows)
    (hn : n < t.length) {nm vu vp vc : Value} {p : Value} (hrow : rows.getD n [] = [nm, vu, p, vp, vc]) (gr : w.grownBy w1 vp.ownBlock) (kp : Kept 101 w w1) {l : List Pp} (hp : OwnR 101 2 (propO base) base w1 vp l) :
    OwnTS base w1 v (t.set n (t[n].1, t[n].2.1, t[n].2.2.1, l, t[n].2.2.2.2)) := by
  have hsep : ∀ j, j < rows.length → j ≠ n → ∀ b, ((rows.getD j []).getD 3 (.slice none 0 0)).ownBlock = some b → vp.ownBlock ≠ some b := by
    intro j hj hjn b hb hv
    have hvp : ((rows.getD n []).getD 3 (.slice none 0 0)).ownBlock = some b := by rw [hrow]; exact hv
    rcases Nat.lt_or_gt_of_ne hjn with hlt | hgt
    · exact h5 j n b hlt (by omega) hb hvp
    · exact h5 n j b hgt hj hvp hb
  have k4 : ∀ i (h : i < t.length), i ≠ n → nodO base w1 (rows.getD i []) t[i] := fun i hi hin => nodO_grown gr kp (h4 i hi) (fun b hb => hsep i (by omega) hin b hb)
  obtain ⟨vu0, vp0, vc0, hcs, o1, o2, o3⟩ := h4 n hn
  rw [hrow] at hcs
  simp at hcs
  obtain ⟨rfl, rfl, rfl, rfl, rfl⟩ := hcs
  refine ⟨rows, by simp [h1], h2, by simpa using own_kept kp (by decide) h3, fun i hi => ?_, h5⟩
  rw [List.length_set] at hi
  rw [List.getElem_set]
  by_cases hin : n = i
  · subst hin
    rw [if_pos rfl, hrow]
    exact ⟨vu, vp, vc, rfl, own_kept kp (by decide) o1, hp, own_kept kp (by decide) o3⟩
  · rw [if_neg hin]
    exact k4 i hi (fun e => hin e.symm)

/-
  Rows of the call's own of which each in turn is given a slice of its own: what stands behind so many rounds. Clone of instructions.
-/
theorem own_belowN {w w' : World} {base : Nat} {e : TypeId} {sz : Nat} {v : Value} {n : Nat} {cs : List Value} (o : w.ownsRow base e sz v n cs) (g : Below w.heap.size w w') : w'.ownsRow base e sz v n cs := by
  obtain ⟨hl, h3⟩ := o
  refine ⟨hl, ?_⟩
  rcases h3 with h | ⟨b, cap, cur, rfl, hb, hg, hc⟩
  · exact Or.inl h
  · refine Or.inr ⟨b, cap, cur, rfl, hb, ?_, hc⟩
    rw [g.block b (Array.getElem?_eq_some_iff.1 hg).1]
    exact hg
/-- behind i rounds: the first i rows are as O says, the others as they were laid -/
def RwI {α : Type} (e : TypeId) (sz : Nat) (O : World → List Value → α → Prop) (base : Nat) (v : Value) (l : List α) (rows : List (List Value)) (i : Nat) (wx : World) : Prop :=
  ∃ rs : List (List Value), rs.length = l.length ∧ (∀ r ∈ rs, r.length = sz) ∧ wx.ownsRow base e sz v l.length rs.flatten ∧ (∀ j (h : j < l.length), j < i → O wx (rs.getD j []) l[j]) ∧ ∀ j, i ≤ j → rs.getD j [] = rows.getD j []
theorem RwI.start {α : Type} {e : TypeId} {sz : Nat} {O : World → List Value → α → Prop} {base : Nat} {v : Value} {l : List α} {rows : List (List Value)} {wx : World} (h1 : rows.length = l.length) (h2 : ∀ r ∈ rows, r.length = sz) (h3 : wx.ownsRow base e sz v l.length rows.flatten) : RwI e sz O base v l rows 0 wx :=
  ⟨rows, h1, h2, h3, fun j h hj => by omega, fun j _ => rfl⟩
theorem RwI.done {α : Type} {e : TypeId} {sz : Nat} {O : World → List Value → α → Prop} {base : Nat} {v : Value} {l : List α} {rows : List (List Value)} {wx : World} {i : Nat} (h : RwI e sz O base v l rows i wx) (hi : l.length ≤ i) : OwnR e sz O base wx v l := by
  obtain ⟨rs, h1, h2, h3, h4, h5⟩ := h
  exact ⟨rs, h1, h2, h3, fun j hj => h4 j hj (by omega)⟩
theorem RwI.row {α : Type} {e : TypeId} {sz : Nat} {O : World → List Value → α → Prop} {base : Nat} {v : Value} {l : List α} {rows : List (List Value)} {wx : World} {i : Nat} (h : RwI e sz O base v l rows i wx) : ∃ cs, wx.ownsRow base e sz v l.length cs := by
  obtain ⟨rs, h1, h2, h3, h4, h5⟩ := h
  exact ⟨_, h3⟩
theorem RwI.kept {α : Type} {T e : TypeId} {sz : Nat} {O : World → List Value → α → Prop} {base : Nat} {v : Value} {l : List α} {rows : List (List Value)} {w w' : World} {i : Nat} (h : RwI e sz O base v l rows i w) (k : Kept T w w') (hne : ¬ e = T) (ha : Apt T O) : RwI e sz O base v l rows i w' := by
  obtain ⟨rs, h1, h2, h3, h4, h5⟩ := h
  exact ⟨rs, h1, h2, own_kept k hne h3, fun j hj hji => ha _ _ _ _ k (h4 j hj hji), h5⟩
theorem RwI.below {α : Type} {e : TypeId} {sz : Nat} {O : World → List Value → α → Prop} {base : Nat} {v : Value} {l : List α} {rows : List (List Value)} {w w' : World} {i : Nat} (h : RwI e sz O base v l rows i w) (g : Below w.heap.size w w') (hO : ∀ cs x, O w cs x → O w' cs x) : RwI e sz O base v l rows i w' := by
  obtain ⟨rs, h1, h2, h3, h4, h5⟩ := h
  exact ⟨rs, h1, h2, own_belowN h3 g, fun j hj hji => hO _ _ (h4 j hj hji), h5⟩
theorem RwI.cell {α : Type} {e : TypeId} {sz : Nat} {O : World → List Value → α → Prop} {base g cap : Nat} {l : List α} {rows : List (List Value)} {w : World} {i : Nat} (h : RwI e sz O base (.slice (some ⟨g, 0, none⟩) l.length cap) l rows i w) (hi : i < l.length) (j : Nat) (hj : j < sz) (u : Value) (hu : (rows.getD i [])[j]? = some u) : w.cell? ⟨g, i * sz + j, none⟩ = some u := by
  obtain ⟨rs, h1, h2, h3, h4, h5⟩ := h
  exact own_cell h3 (i * sz + j) u (by rw [flat_get rs sz i j h2 (by omega) hj, h5 i (Nat.le_refl _)]; exact hu)
theorem RwI.free {α : Type} {e : TypeId} {sz : Nat} {O : World → List Value → α → Prop} {base g cap : Nat} {l : List α} {rows : List (List Value)} {w : World} {i : Nat} (h : RwI e sz O base (.slice (some ⟨g, 0, none⟩) l.length cap) l rows i w) (j : Nat) : w.frozen? ⟨g, j, none⟩ = false := by
  obtain ⟨rs, h1, h2, h3, h4, h5⟩ := h
  exact h3.frozenAt j
theorem RwI.step {α : Type} {e : TypeId} {sz : Nat} {O : World → List Value → α → Prop} {base g cap : Nat} {l : List α} {rows : List (List Value)} {w : World} {i : Nat} (h : RwI e sz O base (.slice (some ⟨g, 0, none⟩) l.length cap) l rows i w) (hi : i < l.length) (j : Nat) (hj : j < sz) (u : Value) (ha : Apt e O) (hx : O w ((rows.getD i []).set j u) (l[i]'hi)) :
    RwI e sz O base (.slice (some ⟨g, 0, none⟩) l.length cap) l rows (i + 1) (w.setCell ⟨g, i * sz + j, none⟩ u) ∧ Kept e w (w.setCell ⟨g, i * sz + j, none⟩ u) := by
  obtain ⟨rs, h1, h2, h3, h4, h5⟩ := h
  obtain ⟨s1, s2⟩ := h3.stored (i * sz + j) u
  have k : Kept e w (w.setCell ⟨g, i * sz + j, none⟩ u) := Kept.own (v := .slice (some ⟨g, 0, none⟩) l.length cap) h3 s2
  rw [flat_set rs sz i j u h2 (by omega) hj] at s1
  have hri := h5 i (Nat.le_refl _)
  refine ⟨⟨rs.set i ((rs.getD i []).set j u), by simpa using h1, fun r hr => ?_, s1, fun m hm hmi => ?_, fun m hm => ?_⟩, k⟩
  · rcases List.mem_or_eq_of_mem_set hr with hr | rfl
    · exact h2 r hr
    · rw [List.length_set, List.getD_eq_getElem?_getD, List.getElem?_eq_getElem (by omega)]
      exact h2 _ (List.getElem_mem _)
  · by_cases he : m = i
    · subst he
      rw [List.getD_eq_getElem?_getD (l := rs.set m _), List.getElem?_set_self (by omega), Option.getD_some, hri]
      exact ha _ _ _ _ k hx
    · rw [List.getD_eq_getElem?_getD, List.getElem?_set_ne (fun q => he q.symm), ← List.getD_eq_getElem?_getD]
      exact ha _ _ _ _ k (h4 m hm (by omega))
  · rw [List.getD_eq_getElem?_getD, List.getElem?_set_ne (by omega), ← List.getD_eq_getElem?_getD]
    exact h5 m (by omega)
theorem op_rows {w : World} {l : List Opd} {rows : List (List Value)} (g2 : rows.length = l.length) (g3 : ∀ i (h : i < l.length), opR w (rows.getD i []) l[i]) : (∀ r ∈ rows, r.length = 2) ∧ ∀ r ∈ rows, ∀ u ∈ r, u.oneCell' = true := by
  have hr : ∀ r ∈ rows, ∃ a b, r = [.int .i64 a, .int .u32 b] := by
    intro r hr
    obtain ⟨i, hi, rfl⟩ := List.getElem_of_mem hr
    have := g3 i (by omega)
    rw [List.getD_eq_getElem?_getD, List.getElem?_eq_getElem hi] at this
    exact ⟨_, _, this⟩
  constructor
  · intro r h
    obtain ⟨a, b, rfl⟩ := hr r h
    rfl
  · intro r h u hu
    obtain ⟨a, b, rfl⟩ := hr r h
    simp at hu
    rcases hu with rfl | rfl <;> rfl

theorem w_pcloneOps (v : Value) (l : List Opd) (w : World) (h : RdO w v l) (hz : l.length * 16 ≤ 140737488355328) :
    Calls Try.prog 54 #[v] w fun e w' => ∃ v1, e = .returned v1 ∧ OwO w.heap.size w' v1 l ∧ Below w.heap.size w w' := by
  obtain ⟨rows, g1, g2, g3⟩ := h
  obtain ⟨h1, h2⟩ := op_rows g2 g3
  refine (w_pcloneO v rows w g1 h2 (by omega)).mono ?_
  rintro e w' ⟨v1, rfl, o, b⟩
  exact ⟨v1, rfl, ⟨rows, g2, h1, by rw [← g2]; exact o, fun i hi => g3 i hi⟩, b⟩

/-- the rows of words, instances: their lengths, their cells -/
theorem wrd_rows {w : World} {l : List Wd} {rows : List (List Value)} (g2 : rows.length = l.length) (g3 : ∀ i (h : i < l.length), wrdR w (rows.getD i []) l[i]) : (∀ r ∈ rows, r.length = 5) ∧ ∀ r ∈ rows, ∀ u ∈ r, u.oneCell' = true := by
  have hr : ∀ r ∈ rows, ∃ a b c d e n f, r = [.string a, .int .i64 b, .int .i64 c, .int .u32 d, .slice e n f] := by
    intro r hr
    obtain ⟨i, hi, rfl⟩ := List.getElem_of_mem hr
    obtain ⟨vc, e, q⟩ := g3 i (by omega)
    obtain ⟨ca, cq, rfl⟩ := slr_slice q
    rw [List.getD_eq_getElem?_getD, List.getElem?_eq_getElem hi] at e
    exact ⟨_, _, _, _, _, _, _, e⟩
  constructor
  · intro r h
    obtain ⟨a, b, c, d, e, n, f, rfl⟩ := hr r h
    rfl
  · intro r h u hu
    obtain ⟨a, b, c, d, e, n, f, rfl⟩ := hr r h
    simp at hu
    rcases hu with rfl | rfl | rfl | rfl | rfl <;> rfl
theorem ins_rows {w : World} {l : List Iz} {rows : List (List Value)} (g2 : rows.length = l.length) (g3 : ∀ i (h : i < l.length), insR w (rows.getD i []) l[i]) : (∀ r ∈ rows, r.length = 4) ∧ ∀ r ∈ rows, ∀ u ∈ r, u.oneCell' = true := by
  have hr : ∀ r ∈ rows, ∃ a b c e n f, r = [.int .i64 a, .int .i64 b, .string c, .slice e n f] := by
    intro r hr
    obtain ⟨i, hi, rfl⟩ := List.getElem_of_mem hr
    obtain ⟨vc, e, q⟩ := g3 i (by omega)
    obtain ⟨ca, cq, rfl⟩ := rd_slice q
    rw [List.getD_eq_getElem?_getD, List.getElem?_eq_getElem hi] at e
    exact ⟨_, _, _, _, _, _, e⟩
  constructor
  · intro r h
    obtain ⟨a, b, c, e, n, f, rfl⟩ := hr r h
    rfl
  · intro r h u hu
    obtain ⟨a, b, c, e, n, f, rfl⟩ := hr r h
    simp at hu
    rcases hu with rfl | rfl | rfl | rfl <;> rfl
/-- all that a copy has made so far but its instances -/
structure Cpy (base : Nat) (w : World) (vs vm vw vc vt : Value) (m : Mc) : Prop where
  stack : w.ownsRow base 28 1 vs m.stack.length (m.stack.map (Value.int .u32))
  mem : w.ownsRow base 5 1 vm m.mem.length (m.mem.map (Value.int .u8))
  words : OwW base w vw m.words
  codes : w.ownsRow base 3 1 vc m.codes.length (m.codes.map (Value.int .i64))
  tree : OwnT8 base w vt m.tree
theorem Cpy.below {base : Nat} {w w' : World} {vs vm vw vc vt : Value} {m : Mc} (h : Cpy base w vs vm vw vc vt m) (g : Below w.heap.size w w') : Cpy base w' vs vm vw vc vt m :=
  ⟨own_below h.stack g, own_below h.mem g, OwnR.below h.words g (wrdO_below g), own_below h.codes g, h.tree.below g⟩
theorem Cpy.kept {base : Nat} {T : TypeId} {w w' : World} {vs vm vw vc vt : Value} {m : Mc} (h : Cpy base w vs vm vw vc vt m) (k : Kept T w w') (h8 : ¬ 5 = T) (h32 : ¬ 28 = T) (hp : ¬ 101 = T) (hn : ¬ 91 = T) (hi : ¬ 3 = T) (hw : ¬ 51 = T) (ho : ¬ 78 = T) : Cpy base w' vs vm vw vc vt m :=
  ⟨own_kept k h32 h.stack, own_kept k h8 h.mem, OwnR.kept h.words k hw (wrdO_apt ho), own_kept k hi h.codes, OwnR.kept h.tree k hn (nodO_apt h8 h32 hp)⟩

end Go.Proofs.Ytfljcfpcokimcaa
