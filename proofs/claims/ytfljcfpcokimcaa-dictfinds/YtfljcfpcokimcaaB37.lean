/-
  Texts of one proof, laid one behind the other: Dre Dal Dwm Dgd.
-/
import Derived.Test.YtfljcfpcokimcaaB36
namespace Go.Proofs.Ytfljcfpcokimcaa
open Go.ChangeShapes Go.WideShapes Go.ChangeAt Go.RowKit
set_option linter.unusedVariables false
set_option linter.unusedSimpArgs false

/-
  Package dict's calls, as the laws take them.
-/
theorem w_p9prims (w : World) (hT : Tab w) : Calls Try.prog 13 #[] w fun e w' => ∃ v, e = .returned v ∧ SlR 2 prmR w' v prmL ∧ Below w.heap.size w w' := by
  refine (w_p9primsO w).mono ?_
  rintro e w' ⟨v, rfl, o, b⟩
  exact ⟨v, rfl, o.read (R := prmR) (by decide) (fun _ _ q => q), b⟩

theorem w_p9new (w : World) (hT : Tab w) : Calls Try.prog 11 #[] w fun e w' => ∃ v, e = .returned (.agg (Mv.cs v newM ⟨#[]⟩)) ∧ RdM w' v newM ⟨#[]⟩ ∧ Below w.heap.size w w' := by
  refine (w_p9newO w).mono ?_
  rintro e w' ⟨v, rfl, o, b⟩
  exact ⟨v, rfl, o.read, b⟩

theorem w_p9copy (m : Mc) (v : Mv) (o : ByteArray) (w : World) (hT : Tab w) (h : RdM w v m o) (g : gM m) :
    Calls Try.prog 20 #[.agg (v.cs m o)] w fun e w' => ∃ v1, e = .returned (.agg (v1.cs m o)) ∧ RdM w' v1 m o ∧ Below w.heap.size w w' := by
  refine (w_p9copyO m v o w h g).mono ?_
  rintro e w' ⟨v1, rfl, q, b⟩
  exact ⟨v1, rfl, q.read, b⟩

theorem w_p9formed (m : Mc) (v : Mv) (o : ByteArray) (w : World) (hT : Tab w) (h : RdM w v m o) (g : gM m) :
    Calls Try.prog 18 #[.agg (v.cs m o)] w fun e w' => e = .returned (.bool (frmM m)) ∧ Below w.heap.size w w' := w_p9formed' m v o w h g

theorem w_p9sound (v : Value) (l : List Opd) (words : Int) (w : World) (hT : Tab w) (h : RdO w v l) (hu : ∀ x ∈ l, gO x) (hz : l.length * 16 ≤ 140737488351232) (hw : (Lit.int .i64 words).wf = true) :
    Calls Try.prog 21 #[v, .int .i64 words] w fun e w' => e = .returned (.bool (sndF l words)) ∧ Below w.heap.size w w' := w_p9sound' v l words w h (fun x hx => (hu x hx).2)

theorem w_p9named (s : ByteArray) (w : World) (hT : Tab w) (hs : s.size ≤ maxLen) :
    Calls Try.prog 17 #[.string s] w fun e w' => e = .returned (.bool (namF (L s))) ∧ Below w.heap.size w w' := by
  refine (w_p9named' s w hs).mono ?_
  rintro e w' ⟨rfl, hw⟩
  exact ⟨rfl, by rw [hw]; exact Below.refl _ _⟩

theorem w_p9find (v : Mv) (m : Mc) (o s : ByteArray) (w : World) (hT : Tab w) (h : RdM w v m o) (g : gM m) (hs : s.size ≤ maxLen) :
    Calls Try.prog 15 #[.agg (v.cs m o), .string s] w fun e w' => e = .returned (.tuple #[.int .i64 (fnI (fndF m.words (L s))), .bool (fndF m.words (L s)).isSome]) ∧ Below w.heap.size w w' := w_p9find' v m o s w h.words (fun x hx => (g.words x hx).byt)

theorem w_p9method (v : Mv) (m : Mc) (o s : ByteArray) (n : Int) (w : World) (hT : Tab w) (h : RdM w v m o) (g : gM m) (hs : s.size ≤ maxLen) (hn : (Lit.int .i64 n).wf = true) :
    Calls Try.prog 25 #[.agg (v.cs m o), .int .i64 n, .string s] w fun e w' => e = .returned (.tuple #[.int .i64 (fnI (mthF m.words n (L s))), .bool (mthF m.words n (L s)).isSome]) ∧ Below w.heap.size w w' := w_p9method' v m o s n w h.words (fun x hx => (g.words x hx).byt)

theorem w_p9define (m : Mc) (v : Mv) (o : ByteArray) (x : Wd) (nm : ByteArray) (vc : Value) (w : World) (hT : Tab w) (h : RdM w v m o) (g : gM m) (en : strOfNums x.1 = nm) (hc : RdO w vc x.2.2.2.2) (gx : gW x) :
    Calls Try.prog 29 #[.agg (v.cs m o), .agg #[.string nm, .int .i64 x.2.1, .int .i64 x.2.2.1, .int .u32 x.2.2.2.1, vc]] w fun e w' => ∃ v1 o1, e = .returned (.tuple #[.agg (Mv.cs v1 (dfnF m x).1 o1), .int .i64 (dfnF m x).2.1, .int .i64 (dfnF m x).2.2]) ∧ RdM w' v1 (dfnF m x).1 o1 ∧ Below w.heap.size w w' := by
  refine (w_p9defineO m v o x nm vc w h g en hc gx).mono ?_
  rintro e w' ⟨v1, o1, rfl, q, b⟩
  exact ⟨v1, o1, rfl, q.read, b⟩

theorem w_p9bind (m : Mc) (v : Mv) (o : ByteArray) (code xt : Int) (w : World) (hT : Tab w) (h : RdM w v m o) (g : gM m) (hc : (Lit.int .i64 code).wf = true) (hx : (Lit.int .i64 xt).wf = true) :
    Calls Try.prog 31 #[.agg (v.cs m o), .int .i64 code, .int .i64 xt] w fun e w' => ∃ v1 o1, e = .returned (.tuple #[.agg (Mv.cs v1 (bndF m code xt).1 o1), .int .i64 (bndF m code xt).2]) ∧ RdM w' v1 (bndF m code xt).1 o1 ∧ Below w.heap.size w w' := by
  refine (w_p9bindO m v o code xt w h g hc).mono ?_
  rintro e w' ⟨v1, o1, rfl, q, b⟩
  exact ⟨v1, o1, rfl, q.read, b⟩

theorem w_p9code (v : Mv) (m : Mc) (o : ByteArray) (n : Int) (w : World) (hT : Tab w) (h : RdM w v m o) (g : gM m) (hn : (Lit.int .i64 n).wf = true) :
    Calls Try.prog 16 #[.agg (v.cs m o), .int .i64 n] w fun e w' => e = .returned (.tuple #[.int .i64 (cdI (codF m.codes n)), .bool (codF m.codes n).isSome]) ∧ Below w.heap.size w w' := w_p9code' v m o n w h.codes hn

/-
  The fixed fact of layer 9's statements: alive returns true, out of the calls' plain functions.
-/
theorem al_dup : fndF newM.words (L ⟨#[100, 117, 112]⟩) = some 41 := by decide +kernel
theorem al_cod : codF newM.codes 71 = some 41 := by decide +kernel
theorem al_frm : frmM newM = true := by decide +kernel

set_option maxHeartbeats 1000000 in
set_option maxRecDepth 100000 in
theorem w_alive9 (w : World) (hT : Tab w) : Calls Try.prog 9 #[] w fun e w' => e = .returned (.bool true) ∧ Below w.heap.size w w' := by
  have cn := fun W hT => w_p9new W hT
  have cf := fun v W hT h => w_p9find v newM ⟨#[]⟩ ⟨#[100, 117, 112]⟩ W hT h new_gM (by decide)
  have cc := fun v W hT h => w_p9code v newM ⟨#[]⟩ 71 W hT h new_gM (by decide)
  have cg := fun v W hT h => w_p9formed newM v ⟨#[]⟩ W hT h new_gM
  simp only [al_dup, al_cod, al_frm, fnI, cdI, Option.isSome_some] at cf cc cg
  go_enter Try.func9, Try.ntmps9
  go_upto_region 2 with (first
    | (go_at_call 11; refine (cn _ hT).mono ?_; rintro e w1 ⟨v1, rfl, r1, b1⟩)
    | (go_at_call 15; refine (cf v1 _ (hT.below b1) r1).mono ?_; rintro e w2 ⟨rfl, b2⟩; have g2 := below_trans b1 b2))
  go_upto_region 3 with (first
    | (go_at_call 11; refine (cn _ (hT.below g2)).mono ?_; rintro e w3 ⟨v3, rfl, r3, b3⟩; have g3 := below_trans g2 b3)
    | (go_at_call 16; refine (cc v3 _ (hT.below g3) r3).mono ?_; rintro e w4 ⟨rfl, b4⟩; have g4 := below_trans g3 b4))
  go_wp2_with (first
    | (go_at_call 11; refine (cn _ (hT.below g4)).mono ?_; rintro e w5 ⟨v5, rfl, r5, b5⟩; have g5 := below_trans g4 b5)
    | (go_at_call 18; refine (cg v5 _ (hT.below g5) r5).mono ?_; rintro e w6 ⟨rfl, b6⟩; have g6 := below_trans g5 b6))
  go_ret
  exact ⟨rfl, g6⟩

/-
  What the walks of layer 9's statements want besides, without the document's answer.
-/
/-- a machine's six rows are slices -/
theorem rdm_forms {w : World} {v : Mv} {m : Mc} {o : ByteArray} (h : RdM w v m o) :
    ∃ a0 k0 a1 k1 a2 k2 a3 k3 a5 k5 a7 k7, v = ⟨.slice a0 m.stack.length k0, .slice a1 m.mem.length k1, .slice a2 m.words.length k2, .slice a3 m.codes.length k3, .slice a5 m.tree.length k5, .slice a7 m.insts.length k7⟩ := by
  obtain ⟨a0, k0, h0⟩ := rd_slice h.stack
  obtain ⟨a1, k1, h1⟩ := rd_slice h.mem
  obtain ⟨a2, k2, h2⟩ := slr_slice h.words
  obtain ⟨a3, k3, h3⟩ := rd_slice h.codes
  obtain ⟨a5, k5, h5⟩ := slr_slice h.tree
  obtain ⟨a7, k7, h7⟩ := slr_slice h.insts
  cases v
  simp only at h0 h1 h2 h3 h5 h7
  subst h0 h1 h2 h3 h5 h7
  exact ⟨_, _, _, _, _, _, _, _, _, _, _, _, rfl⟩
theorem str_back {s : ByteArray} {l : List Int} (e : strOfNums l = s) (h : bytesL l) : L s = l := by
  rw [← e]
  exact LB_nums l h
theorem str_le {s : ByteArray} {l : List Int} (e : strOfNums l = s) (h : bytesL l) (hl : l.length ≤ maxLen) : s.size ≤ maxLen := by
  rw [← LB_len, ← e, LB_nums l h]
  exact hl
theorem nil_toList : (⟨#[]⟩ : ByteArray).toList = [] := by first | simp | kernel_rfl
theorem dfn_found {m A : Mc} {M : Int} {w : Wd} {P Q R : Prop} (hn : ¬ w.1 = []) (h : P ∧ Q ∧ R ∧ (A, M, (0 : Int)) = ({ m with words := m.words ++ [w] }, (m.words.length : Int), 0)) : fndF A.words w.1 = some m.words.length ∧ M = m.words.length := by
  obtain ⟨-, -, -, h⟩ := h
  simp only [Prod.mk.injEq, and_true] at h
  obtain ⟨rfl, rfl⟩ := h
  exact ⟨fnd_new hn, rfl⟩
/-- a machine's cells in a box (as Rd4's, for seats without it) -/
theorem mch_cells2 {q : World} {b : Nat} {v : Mv} {m : Mc} {o : ByteArray} {T : TypeId} (h : Stands q b (v.cs m o) T) :
    q.cell? ⟨b, 0, none⟩ = some v.vs ∧ q.cell? ⟨b, 1, none⟩ = some v.vm ∧ q.cell? ⟨b, 2, none⟩ = some v.vw ∧ q.cell? ⟨b, 3, none⟩ = some v.vc ∧ q.cell? ⟨b, 4, none⟩ = some (.int .u32 m.base) ∧ q.cell? ⟨b, 5, none⟩ = some v.vt ∧ q.cell? ⟨b, 6, none⟩ = some (.int .i64 m.node) ∧ q.cell? ⟨b, 7, none⟩ = some v.vi ∧ q.cell? ⟨b, 8, none⟩ = some (.int .i64 m.self) ∧ q.cell? ⟨b, 9, none⟩ = some (.string o) :=
  ⟨h.cell 0 _ rfl, h.cell 1 _ rfl, h.cell 2 _ rfl, h.cell 3 _ rfl, h.cell 4 _ rfl, h.cell 5 _ rfl, h.cell 6 _ rfl, h.cell 7 _ rfl, h.cell 8 _ rfl, h.cell 9 _ rfl⟩
theorem str_eq9 (A B : ByteArray) (a b : List Int) (ha : bytesL a) (hb : bytesL b) (h1 : strOfNums a = A) (h2 : strOfNums b = B) : (A.toList == B.toList) = decide (a = b) := by
  rw [str_beq, ← h1, ← h2]
  simp only [nums_eq a b ha hb]
/-- what a defined word leaves of where other names lead -/
theorem dfn_others {m A : Mc} {M : Int} {w : Wd} {nm : List Int} {n : Int} {P Q R : Prop} (hn : ¬ nm = w.1) (h : P ∧ Q ∧ R ∧ (A, M, (0 : Int)) = ({ m with words := m.words ++ [w] }, (m.words.length : Int), 0)) : fndF A.words nm = fndF m.words nm ∧ mthF A.words n nm = mthF m.words n nm := by
  obtain ⟨-, -, -, h⟩ := h
  simp only [Prod.mk.injEq, and_true] at h
  obtain ⟨rfl, rfl⟩ := h
  exact ⟨fnd_other hn, mth_other hn⟩

/-
  What is known of machines that came in, and of what is made of them.
-/
theorem gM.by' {m : Mc} (h : gM m) : byM m := ⟨h.mem, fun x hx => (h.tree x hx).1, fun x hx => (h.words x hx).byt, fun x hx => (h.insts x hx).byt, h.out⟩
theorem gM.gd {m : Mc} (h : gM m) : gdM m := ⟨h.by', fun x hx => (h.tree x hx).2.1, fun x hx => (h.words x hx).len, fun x hx y hy => ((h.words x hx).ops y hy).2, fun x hx => (h.words x hx).num, fun x hx => (h.insts x hx).len⟩
theorem gM.sz {m : Mc} (h : gM m) : szM m where
  stack := by have := h.stackZ; omega
  mem := by have := h.memZ; omega
  words := by have := h.wordsZ; omega
  ops := fun x hx => by have := (h.words x hx).siz; omega
  codes := by have := h.codesZ; omega
  tree := by have := h.treeZ; omega
  nods := fun x hx => (h.tree x hx).2.2.1
  insts := by have := h.instsZ; omega
  cels := fun x hx => by have := (h.insts x hx).siz; omega

end Go.Proofs.Ytfljcfpcokimcaa
