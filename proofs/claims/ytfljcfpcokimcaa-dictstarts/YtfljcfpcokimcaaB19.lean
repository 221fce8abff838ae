/-
  Texts of one proof, laid one behind the other: Rdc.
-/
import Derived.Test.YtfljcfpcokimcaaB18
import Derived.Laws.Rows
namespace Go.Proofs.Ytfljcfpcokimcaa
open Go.ChangeShapes Go.WideShapes Go.ChangeAt Go.RowKit
set_option linter.unusedVariables false
set_option linter.unusedSimpArgs false

/-
  Copy of the document's answer for machines: what it begins with.
-/
/-- ten cells set, one after another: what does not lie in blocks of their kind stays -/
theorem set10 {w : World} {b : Nat} {z0 z1 z2 z3 z4 z5 z6 z7 z8 z9 : Value} {T : TypeId} (h : Stands w b #[z0, z1, z2, z3, z4, z5, z6, z7, z8, z9] T) (a0 a1 a2 a3 a4 a5 a6 a7 a8 a9 : Value) :
    Stands ((((((((((w.setCell ⟨b, 0, none⟩ a0).setCell ⟨b, 1, none⟩ a1).setCell ⟨b, 2, none⟩ a2).setCell ⟨b, 3, none⟩ a3).setCell ⟨b, 4, none⟩ a4).setCell ⟨b, 5, none⟩ a5).setCell ⟨b, 6, none⟩ a6).setCell ⟨b, 7, none⟩ a7).setCell ⟨b, 8, none⟩ a8).setCell ⟨b, 9, none⟩ a9) b #[a0, a1, a2, a3, a4, a5, a6, a7, a8, a9] T ∧ ∀ Q : World → Prop, (∀ u u', Kept T u u' → Q u → Q u') → Q w → Q ((((((((((w.setCell ⟨b, 0, none⟩ a0).setCell ⟨b, 1, none⟩ a1).setCell ⟨b, 2, none⟩ a2).setCell ⟨b, 3, none⟩ a3).setCell ⟨b, 4, none⟩ a4).setCell ⟨b, 5, none⟩ a5).setCell ⟨b, 6, none⟩ a6).setCell ⟨b, 7, none⟩ a7).setCell ⟨b, 8, none⟩ a8).setCell ⟨b, 9, none⟩ a9) := by
  have h0 := h.set 0 a0
  have h1 := h0.set 1 a1
  have h2 := h1.set 2 a2
  have h3 := h2.set 3 a3
  have h4 := h3.set 4 a4
  have h5 := h4.set 5 a5
  have h6 := h5.set 6 a6
  have h7 := h6.set 7 a7
  have h8 := h7.set 8 a8
  have h9 := h8.set 9 a9
  exact ⟨by simpa only [List.setIfInBounds_toArray, List.set_cons_zero, List.set_cons_succ] using h9, fun Q hQ q => hQ _ _ (set_kept h8 9 a9) (hQ _ _ (set_kept h7 8 a8) (hQ _ _ (set_kept h6 7 a7) (hQ _ _ (set_kept h5 6 a6) (hQ _ _ (set_kept h4 5 a5) (hQ _ _ (set_kept h3 4 a4) (hQ _ _ (set_kept h2 3 a3) (hQ _ _ (set_kept h1 2 a2) (hQ _ _ (set_kept h0 1 a1) (hQ _ _ (set_kept h 0 a0) (q))))))))))⟩
theorem OwnT8.kept {base : Nat} {T : TypeId} {w w' : World} {v : Value} {t : List Nd} (h : OwnT8 base w v t) (k : Kept T w w') (h8 : ¬ 5 = T) (h32 : ¬ 28 = T) (hp : ¬ 101 = T) (hn : ¬ 91 = T) : OwnT8 base w' v t := OwnR.kept h k hn (nodO_apt h8 h32 hp)
theorem infoJ : (Try.prog.info? 3).map (fun i => (i.zero, i.size, i.bytes)) = some (some (.int .i64 0), 1, 8) := by kernel_rfl
/-- how much a machine may hold -/
structure szM (m : Mc) : Prop where
  stack : m.stack.length * 4 ≤ 140737488355328
  mem : m.mem.length ≤ 140737488355328
  words : m.words.length * 64 ≤ 140737488355328
  ops : ∀ x ∈ m.words, x.2.2.2.2.length * 16 ≤ 140737488355328
  codes : m.codes.length * 8 ≤ 140737488355328
  tree : m.tree.length * 96 ≤ 140737488355328
  nods : ∀ x ∈ m.tree, sizN x
  insts : m.insts.length * 56 ≤ 140737488355328
  cels : ∀ x ∈ m.insts, x.2.2.2.length * 4 ≤ 140737488355328

set_option maxHeartbeats 4000000 in
set_option maxRecDepth 100000 in
theorem w_r9copy (m : Mc) (v : Mv) (o : ByteArray) (w : World) (h : RdM w v m o) (z : szM m) :
    Calls Try.prog 28 #[.agg (v.cs m o)] w fun e w' => ∃ v1, e = .returned (.agg (v1.cs m o)) ∧ OwM w.heap.size w' v1 m o ∧ Below w.heap.size w w' := by
  have cs := fun W (g : Below w.heap.size w W) => w_r3copy _ _ W (h.stack.below g) (by have := z.stack; unfold maxLen; omega) z.stack
  have cm := fun W (g : Below w.heap.size w W) => w_rcopy _ _ W (h.mem.below g) z.mem
  have ct := fun W (g : Below w.heap.size w W) => w_r8copy _ _ W (h.tree.below g) z.tree z.nods
  obtain ⟨sa, sq, hvs⟩ := rd_slice h.stack
  go_enter Try.func28, Try.ntmps28
  obtain ⟨s1, s2, bw⟩ := two_boxes w (v.cs m o) #[.slice none 0 0, .slice none 0 0, .slice none 0 0, .slice none 0 0, .int .u32 0, .slice none 0 0, .int .i64 0, .slice none 0 0, .int .i64 0, .string ⟨#[]⟩] 32
  go_upto_region 1 with fail
  generalize ((w.alloc (.cells (v.cs m o) 32)).alloc (.cells #[.slice none 0 0, .slice none 0 0, .slice none 0 0, .slice none 0 0, .int .u32 0, .slice none 0 0, .int .i64 0, .slice none 0 0, .int .i64 0, .string ⟨#[]⟩] 32)) = wr at s1 s2 bw ⊢
  obtain ⟨f0, f1, f2, f3, f4, f5, f6, f7, f8, f9⟩ := mch_cells s1
  go_cut [3] (fun S wx => ∃ (B : Nat) (vs vm vt : Value), S = .pointer (some ⟨B, 0, none⟩) ∧ wr.heap.size ≤ B ∧ Stands wx B #[vs, vm, .slice none 0 0, .slice none 0 0, .int .u32 m.base, vt, .int .i64 m.node, .slice none 0 0, .int .i64 m.self, .string o] 32 ∧ wx.ownsRow wr.heap.size 28 1 vs m.stack.length (m.stack.map (Value.int .u32)) ∧ wx.ownsRow wr.heap.size 5 1 vm m.mem.length (m.mem.map (Value.int .u8)) ∧ OwnT8 wr.heap.size wx vt m.tree ∧ Below wr.heap.size wr wx)
  case first =>
    have HX : Hid (∀ W, Below wr.heap.size wr W → (W.cell? ⟨w.heap.size, 0, none⟩ = some v.vs ∧ W.cell? ⟨w.heap.size, 1, none⟩ = some v.vm ∧ W.cell? ⟨w.heap.size, 4, none⟩ = some (.int .u32 m.base) ∧ W.cell? ⟨w.heap.size, 5, none⟩ = some v.vt ∧ W.cell? ⟨w.heap.size, 6, none⟩ = some (.int .i64 m.node) ∧ W.cell? ⟨w.heap.size, 8, none⟩ = some (.int .i64 m.self) ∧ W.cell? ⟨w.heap.size, 9, none⟩ = some (.string o))) := fun W x => ⟨below_cell x f0, below_cell x f1, below_cell x f4, below_cell x f5, below_cell x f6, below_cell x f8, below_cell x f9⟩
    have HB := hid bw
    have CS := hid cs
    have CM := hid cm
    have CT := hid ct
    have hbd : Hid (Below w.heap.size w wr.drew) := below_drewN bw 1
    have hbdA : Hid (Below w.heap.size w (wr.drew.alloc (.cells #[.slice none 0 0, .slice none 0 0, .slice none 0 0, .slice none 0 0, .int .u32 0, .slice none 0 0, .int .i64 0, .slice none 0 0, .int .i64 0, .string ⟨#[]⟩] 32))) := hbd.out.alloc hbd.out.size _
    have hbdD : Hid (Below w.heap.size w (wr.alloc (.cells #[.slice none 0 0, .slice none 0 0, .slice none 0 0, .slice none 0 0, .int .u32 0, .slice none 0 0, .int .i64 0, .slice none 0 0, .int .i64 0, .string ⟨#[]⟩] 32)).drew) := below_drewN (bw.alloc bw.size _) 1
    have hrd : Hid (Below wr.heap.size wr wr.drew) := below_drewN (Below.refl _ _) 1
    have hrdA : Hid (Below wr.heap.size wr (wr.drew.alloc (.cells #[.slice none 0 0, .slice none 0 0, .slice none 0 0, .slice none 0 0, .int .u32 0, .slice none 0 0, .int .i64 0, .slice none 0 0, .int .i64 0, .string ⟨#[]⟩] 32))) := hrd.out.alloc hrd.out.size _
    have hrdD : Hid (Below wr.heap.size wr (wr.alloc (.cells #[.slice none 0 0, .slice none 0 0, .slice none 0 0, .slice none 0 0, .int .u32 0, .slice none 0 0, .int .i64 0, .slice none 0 0, .int .i64 0, .string ⟨#[]⟩] 32)).drew) := below_drewN ((Below.refl _ wr).alloc (Nat.le_refl _) _) 1
    have stD : Hid (Stands (wr.alloc (.cells #[.slice none 0 0, .slice none 0 0, .slice none 0 0, .slice none 0 0, .int .u32 0, .slice none 0 0, .int .i64 0, .slice none 0 0, .int .i64 0, .string ⟨#[]⟩] 32)).drew wr.heap.size #[.slice none 0 0, .slice none 0 0, .slice none 0 0, .slice none 0 0, .int .u32 0, .slice none 0 0, .int .i64 0, .slice none 0 0, .int .i64 0, .string ⟨#[]⟩] 32) := stands_new wr #[.slice none 0 0, .slice none 0 0, .slice none 0 0, .slice none 0 0, .int .u32 0, .slice none 0 0, .int .i64 0, .slice none 0 0, .int .i64 0, .string ⟨#[]⟩] 32
    have stA : Hid (Stands (wr.drew.alloc (.cells #[.slice none 0 0, .slice none 0 0, .slice none 0 0, .slice none 0 0, .int .u32 0, .slice none 0 0, .int .i64 0, .slice none 0 0, .int .i64 0, .string ⟨#[]⟩] 32)) wr.heap.size #[.slice none 0 0, .slice none 0 0, .slice none 0 0, .slice none 0 0, .int .u32 0, .slice none 0 0, .int .i64 0, .slice none 0 0, .int .i64 0, .string ⟨#[]⟩] 32) := stands_new wr.drew #[.slice none 0 0, .slice none 0 0, .slice none 0 0, .slice none 0 0, .int .u32 0, .slice none 0 0, .int .i64 0, .slice none 0 0, .int .i64 0, .string ⟨#[]⟩] 32
    clear cs cm ct f0 f1 f2 f3 f4 f5 f6 f7 f8 f9 h z s1 s2 bw hvs
    go_region_held (fun W => W.cell? ⟨w.heap.size, 0, none⟩ = some v.vs ∧ W.cell? ⟨w.heap.size, 1, none⟩ = some v.vm ∧ W.cell? ⟨w.heap.size, 4, none⟩ = some (.int .u32 m.base) ∧ W.cell? ⟨w.heap.size, 5, none⟩ = some v.vt ∧ W.cell? ⟨w.heap.size, 6, none⟩ = some (.int .i64 m.node) ∧ W.cell? ⟨w.heap.size, 8, none⟩ = some (.int .i64 m.self) ∧ W.cell? ⟨w.heap.size, 9, none⟩ = some (.string o)) (exact HX.out _ (by first | with_reducible exact hrd.out | with_reducible exact hrdA.out | with_reducible exact hrdD.out | with_reducible exact RS.out | with_reducible exact RS.out.alloc RS.out.size _ | with_reducible exact RM.out | with_reducible exact RM.out.alloc RM.out.size _ | with_reducible exact RT.out | with_reducible exact RT.out.alloc RT.out.size _ | with_reducible exact below_set (below_set (below_set (below_set (below_set (below_set (below_set (below_set (below_set (below_set (RT.out) _ _ _ (by first | with_reducible exact Nat.le_refl _ | with_reducible exact RS.out.size | with_reducible exact RM.out.size | with_reducible exact RT.out.size)) _ _ _ (by first | with_reducible exact Nat.le_refl _ | with_reducible exact RS.out.size | with_reducible exact RM.out.size | with_reducible exact RT.out.size)) _ _ _ (by first | with_reducible exact Nat.le_refl _ | with_reducible exact RS.out.size | with_reducible exact RM.out.size | with_reducible exact RT.out.size)) _ _ _ (by first | with_reducible exact Nat.le_refl _ | with_reducible exact RS.out.size | with_reducible exact RM.out.size | with_reducible exact RT.out.size)) _ _ _ (by first | with_reducible exact Nat.le_refl _ | with_reducible exact RS.out.size | with_reducible exact RM.out.size | with_reducible exact RT.out.size)) _ _ _ (by first | with_reducible exact Nat.le_refl _ | with_reducible exact RS.out.size | with_reducible exact RM.out.size | with_reducible exact RT.out.size)) _ _ _ (by first | with_reducible exact Nat.le_refl _ | with_reducible exact RS.out.size | with_reducible exact RM.out.size | with_reducible exact RT.out.size)) _ _ _ (by first | with_reducible exact Nat.le_refl _ | with_reducible exact RS.out.size | with_reducible exact RM.out.size | with_reducible exact RT.out.size)) _ _ _ (by first | with_reducible exact Nat.le_refl _ | with_reducible exact RS.out.size | with_reducible exact RM.out.size | with_reducible exact RT.out.size)) _ _ _ (by first | with_reducible exact Nat.le_refl _ | with_reducible exact RS.out.size | with_reducible exact RM.out.size | with_reducible exact RT.out.size)))
      (first
        | (go_at_call 60; refine (CS.out _ (by first | with_reducible exact hbd.out | with_reducible exact hbdA.out | with_reducible exact hbdD.out)).mono ?_; rintro e qS ⟨vS, rfl, oS, bS⟩; have RS : Hid (Below wr.heap.size wr qS) := below_trans (by first | with_reducible exact hrd.out | with_reducible exact hrdA.out | with_reducible exact hrdD.out) bS; have BS : Hid (Below w.heap.size w qS) := below_trans HB.out RS.out; (try (have stS : Stands qS _ #[.slice none 0 0, .slice none 0 0, .slice none 0 0, .slice none 0 0, .int .u32 0, .slice none 0 0, .int .i64 0, .slice none 0 0, .int .i64 0, .string ⟨#[]⟩] 32 := (by first | with_reducible exact (stD.out).below bS | with_reducible exact (stA.out).below bS); have z0 := stS.cell 0 _ rfl; have z1 := stS.cell 1 _ rfl; have z2 := stS.cell 2 _ rfl; have z3 := stS.cell 3 _ rfl; have z4 := stS.cell 4 _ rfl; have z5 := stS.cell 5 _ rfl; have z6 := stS.cell 6 _ rfl; have z7 := stS.cell 7 _ rfl; have z8 := stS.cell 8 _ rfl; have z9 := stS.cell 9 _ rfl; have zf := stS.free)); have OS := hid (own_le (b := wr.heap.size) (by first | with_reducible exact (hrd.out).size | with_reducible exact (hrdA.out).size | with_reducible exact (hrdD.out).size) oS); obtain ⟨aS, cS, rfl⟩ := own_form oS; have HS := hid bS; clear oS bS)
        | (go_at_call 61; refine (CM.out _ (by first | with_reducible exact BS.out | with_reducible exact BS.out.alloc BS.out.size _)).mono ?_; rintro e qM ⟨vM, rfl, oM, bM⟩; have RM : Hid (Below wr.heap.size wr qM) := below_trans (by first | with_reducible exact RS.out | with_reducible exact RS.out.alloc RS.out.size _) bM; have BM : Hid (Below w.heap.size w qM) := below_trans HB.out RM.out; (try (have stM : Stands qM _ #[.slice none 0 0, .slice none 0 0, .slice none 0 0, .slice none 0 0, .int .u32 0, .slice none 0 0, .int .i64 0, .slice none 0 0, .int .i64 0, .string ⟨#[]⟩] 32 := (by first | with_reducible exact (stS).below bM | with_reducible exact (stands_new _ _ _).below bM); have z0 := stM.cell 0 _ rfl; have z1 := stM.cell 1 _ rfl; have z2 := stM.cell 2 _ rfl; have z3 := stM.cell 3 _ rfl; have z4 := stM.cell 4 _ rfl; have z5 := stM.cell 5 _ rfl; have z6 := stM.cell 6 _ rfl; have z7 := stM.cell 7 _ rfl; have z8 := stM.cell 8 _ rfl; have z9 := stM.cell 9 _ rfl; have zf := stM.free)); have OM := hid (own_le (b := wr.heap.size) (by first | with_reducible exact (RS.out).size | with_reducible exact (RS.out.alloc RS.out.size _).size) oM); obtain ⟨aM, cM, rfl⟩ := own_form oM; have HM := hid bM; clear oM bM)
        | (go_at_call 62; refine (CT.out _ (by first | with_reducible exact BM.out | with_reducible exact BM.out.alloc BM.out.size _)).mono ?_; rintro e qT ⟨vT, rfl, oT, bT⟩; have RT : Hid (Below wr.heap.size wr qT) := below_trans (by first | with_reducible exact RM.out | with_reducible exact RM.out.alloc RM.out.size _) bT; have BT : Hid (Below w.heap.size w qT) := below_trans HB.out RT.out; (try (have stT : Stands qT _ #[.slice none 0 0, .slice none 0 0, .slice none 0 0, .slice none 0 0, .int .u32 0, .slice none 0 0, .int .i64 0, .slice none 0 0, .int .i64 0, .string ⟨#[]⟩] 32 := (by first | with_reducible exact (stM).below bT | with_reducible exact (stands_new _ _ _).below bT); have z0 := stT.cell 0 _ rfl; have z1 := stT.cell 1 _ rfl; have z2 := stT.cell 2 _ rfl; have z3 := stT.cell 3 _ rfl; have z4 := stT.cell 4 _ rfl; have z5 := stT.cell 5 _ rfl; have z6 := stT.cell 6 _ rfl; have z7 := stT.cell 7 _ rfl; have z8 := stT.cell 8 _ rfl; have z9 := stT.cell 9 _ rfl; have zf := stT.free)); have OT := hid (OwnT8.le (b := wr.heap.size) (by first | with_reducible exact (RM.out).size | with_reducible exact (RM.out.alloc RM.out.size _).size) oT.own); obtain ⟨rowT, hrowT⟩ := OwnR.row oT.own; obtain ⟨aT, cT, rfl⟩ := own_form hrowT; have HT := hid bT; clear oT bT hrowT))
    all_goals go_wp2_with fail
    · go_meet
      case rel => exact ⟨qT.heap.size, _, _, _, rfl, RT.out.size, stands_new qT _ _, World.ownsRow.alloc (own_below (own_below OS.out HM.out) HT.out) _, World.ownsRow.alloc (own_below OM.out HT.out) _, OwnT8.below OT.out (box_below _ _), RT.out.alloc RT.out.size _⟩
    · obtain ⟨k1, k2⟩ := set10 stT (.slice aS m.stack.length cS) (.slice aM m.mem.length cM) (.slice none 0 0) (.slice none 0 0) (.int .u32 m.base) (.slice aT m.tree.length cT) (.int .i64 m.node) (.slice none 0 0) (.int .i64 m.self) (.string o)
      have K1 := hid k1
      have K2 := hid (k2 (fun u => u.ownsRow wr.heap.size 28 1 (.slice aS m.stack.length cS) m.stack.length (m.stack.map (Value.int .u32))) (fun u u' k x => own_kept k (by decide) x) (own_below (World.ownsRow.alloc (own_below OS.out HM.out) _) HT.out))
      have K3 := hid (k2 (fun u => u.ownsRow wr.heap.size 5 1 (.slice aM m.mem.length cM) m.mem.length (m.mem.map (Value.int .u8))) (fun u u' k x => own_kept k (by decide) x) (own_below (World.ownsRow.alloc OM.out _) HT.out))
      have K4 := hid (k2 (fun u => OwnT8 wr.heap.size u (.slice aT m.tree.length cT) m.tree) (fun u u' k x => OwnT8.kept x k (by decide) (by decide) (by decide) (by decide)) OT.out)
      have K5 : Hid (Below wr.heap.size wr _) := below_set (below_set (below_set (below_set (below_set (below_set (below_set (below_set (below_set (below_set (RT.out) qM.heap.size 0 (.slice aS m.stack.length cS) RM.out.size) qM.heap.size 1 (.slice aM m.mem.length cM) RM.out.size) qM.heap.size 2 (.slice none 0 0) RM.out.size) qM.heap.size 3 (.slice none 0 0) RM.out.size) qM.heap.size 4 (.int .u32 m.base) RM.out.size) qM.heap.size 5 (.slice aT m.tree.length cT) RM.out.size) qM.heap.size 6 (.int .i64 m.node) RM.out.size) qM.heap.size 7 (.slice none 0 0) RM.out.size) qM.heap.size 8 (.int .i64 m.self) RM.out.size) qM.heap.size 9 (.string o) RM.out.size
      clear k1 k2
      go_meet
      case rel => exact ⟨qM.heap.size, _, _, _, rfl, RM.out.size, K1.out, K2.out, K3.out, K4.out, K5.out⟩
    · obtain ⟨k1, k2⟩ := set10 stT (.slice aS m.stack.length cS) (.slice aM m.mem.length cM) (.slice none 0 0) (.slice none 0 0) (.int .u32 m.base) (.slice aT m.tree.length cT) (.int .i64 m.node) (.slice none 0 0) (.int .i64 m.self) (.string o)
      have K1 := hid k1
      have K2 := hid (k2 (fun u => u.ownsRow wr.heap.size 28 1 (.slice aS m.stack.length cS) m.stack.length (m.stack.map (Value.int .u32))) (fun u u' k x => own_kept k (by decide) x) (own_below (own_below (World.ownsRow.alloc OS.out _) HM.out) HT.out))
      have K3 := hid (k2 (fun u => u.ownsRow wr.heap.size 5 1 (.slice aM m.mem.length cM) m.mem.length (m.mem.map (Value.int .u8))) (fun u u' k x => own_kept k (by decide) x) (own_below OM.out HT.out))
      have K4 := hid (k2 (fun u => OwnT8 wr.heap.size u (.slice aT m.tree.length cT) m.tree) (fun u u' k x => OwnT8.kept x k (by decide) (by decide) (by decide) (by decide)) OT.out)
      have K5 : Hid (Below wr.heap.size wr _) := below_set (below_set (below_set (below_set (below_set (below_set (below_set (below_set (below_set (below_set (RT.out) qS.heap.size 0 (.slice aS m.stack.length cS) RS.out.size) qS.heap.size 1 (.slice aM m.mem.length cM) RS.out.size) qS.heap.size 2 (.slice none 0 0) RS.out.size) qS.heap.size 3 (.slice none 0 0) RS.out.size) qS.heap.size 4 (.int .u32 m.base) RS.out.size) qS.heap.size 5 (.slice aT m.tree.length cT) RS.out.size) qS.heap.size 6 (.int .i64 m.node) RS.out.size) qS.heap.size 7 (.slice none 0 0) RS.out.size) qS.heap.size 8 (.int .i64 m.self) RS.out.size) qS.heap.size 9 (.string o) RS.out.size
      clear k1 k2
      go_meet
      case rel => exact ⟨qS.heap.size, _, _, _, rfl, RS.out.size, K1.out, K2.out, K3.out, K4.out, K5.out⟩
    · obtain ⟨k1, k2⟩ := set10 stT (.slice aS m.stack.length cS) (.slice aM m.mem.length cM) (.slice none 0 0) (.slice none 0 0) (.int .u32 m.base) (.slice aT m.tree.length cT) (.int .i64 m.node) (.slice none 0 0) (.int .i64 m.self) (.string o)
      have K1 := hid k1
      have K2 := hid (k2 (fun u => u.ownsRow wr.heap.size 28 1 (.slice aS m.stack.length cS) m.stack.length (m.stack.map (Value.int .u32))) (fun u u' k x => own_kept k (by decide) x) (own_below (own_below OS.out HM.out) HT.out))
      have K3 := hid (k2 (fun u => u.ownsRow wr.heap.size 5 1 (.slice aM m.mem.length cM) m.mem.length (m.mem.map (Value.int .u8))) (fun u u' k x => own_kept k (by decide) x) (own_below OM.out HT.out))
      have K4 := hid (k2 (fun u => OwnT8 wr.heap.size u (.slice aT m.tree.length cT) m.tree) (fun u u' k x => OwnT8.kept x k (by decide) (by decide) (by decide) (by decide)) OT.out)
      have K5 : Hid (Below wr.heap.size wr _) := below_set (below_set (below_set (below_set (below_set (below_set (below_set (below_set (below_set (below_set (RT.out) wr.heap.size 0 (.slice aS m.stack.length cS) (Nat.le_refl _)) wr.heap.size 1 (.slice aM m.mem.length cM) (Nat.le_refl _)) wr.heap.size 2 (.slice none 0 0) (Nat.le_refl _)) wr.heap.size 3 (.slice none 0 0) (Nat.le_refl _)) wr.heap.size 4 (.int .u32 m.base) (Nat.le_refl _)) wr.heap.size 5 (.slice aT m.tree.length cT) (Nat.le_refl _)) wr.heap.size 6 (.int .i64 m.node) (Nat.le_refl _)) wr.heap.size 7 (.slice none 0 0) (Nat.le_refl _)) wr.heap.size 8 (.int .i64 m.self) (Nat.le_refl _)) wr.heap.size 9 (.string o) (Nat.le_refl _)
      clear k1 k2
      go_meet
      case rel => exact ⟨wr.heap.size, _, _, _, rfl, (Nat.le_refl _), K1.out, K2.out, K3.out, K4.out, K5.out⟩
  case rest =>
    obtain ⟨W0, rfl⟩ : ∃ W0, W0 = wr := ⟨_, rfl⟩
    obtain ⟨B, vs, vm, vt, rfl, hBw, st, oS, oM, oT, bw2⟩ := hcut
    have lw := slr_len h.words uW (P := Try.prog)
    have li := slr_len h.insts uI (P := Try.prog)
    have mw := slr_max h.words
    have mi := slr_max h.insts
    unfold maxLen at mw mi
    have KB := fun q (g : Below W0.heap.size W0 q) => mch_cells (s1.below g)
    obtain ⟨i0, hi0, hz0, hz1, hz2⟩ := info_parts infoWd
    clear cs cm ct f0 f1 f2 f3 f4 f5 f6 f7 f8 f9 hvs
    go_wp2_with fail
    go_loopw [4] (fun I wx => ∃ (k : Nat) (vw : Value), (k : Int) ≤ m.words.length ∧ I = .int .i64 k ∧ Stands wx B #[vs, vm, vw, .slice none 0 0, .int .u32 m.base, vt, .int .i64 m.node, .slice none 0 0, .int .i64 m.self, .string o] 32 ∧ wx.ownsRow W0.heap.size 28 1 vs m.stack.length (m.stack.map (Value.int .u32)) ∧ wx.ownsRow W0.heap.size 5 1 vm m.mem.length (m.mem.map (Value.int .u8)) ∧ OwnT8 W0.heap.size wx vt m.tree ∧ OwW W0.heap.size wx vw (m.words.take k) ∧ Below W0.heap.size W0 wx) (fun I _ => (m.words.length - intOf I).toNat)
    case atStart => exact ⟨0, .slice none 0 0, by omega, rfl, st, oS, oM, oT, OwnR.nil _ _ _ _ _, bw2⟩
    case round =>
      obtain ⟨k, vw, hk, rfl, st3, oS3, oM3, oT3, oW3, hb⟩ := hrel
      obtain ⟨x0, x1, x2, x3, x4, x5, x6, x7, x8, x9⟩ := KB _ hb
      by_cases hlt : (k : Int) < m.words.length
      · have hkl : k < m.words.length := by omega
        have bww := below_trans bw hb
        obtain ⟨b5, o5, nm, vc, r5, w0, w1, w2, w3, w4, en, hc⟩ := wrd_at (RdW.below h.words bww) k hkl
        obtain ⟨ca9, cq9, rfl⟩ := slr_slice hc
        have hzo := z.ops _ (List.getElem_mem hkl)
        obtain ⟨A1, hA1⟩ : ∃ X, m.words[k].2.1 = X := ⟨_, rfl⟩
        obtain ⟨A2, hA2⟩ : ∃ X, m.words[k].2.2.1 = X := ⟨_, rfl⟩
        obtain ⟨A3, hA3⟩ : ∃ X, m.words[k].2.2.2.1 = X := ⟨_, rfl⟩
        rw [hA1] at w1
        rw [hA2] at w2
        rw [hA3] at w3
        have sx := stands_new wr #[.string nm, .int .i64 A1, .int .i64 A2, .int .u32 A3, .slice ca9 m.words[k].2.2.2.2.length cq9] 51
        have bx := box_below wr (.cells #[.string nm, .int .i64 A1, .int .i64 A2, .int .u32 A3, .slice ca9 m.words[k].2.2.2.2.length cq9] 51)
        have y4 := sx.cell 4 _ rfl
        have co := fun W (g : Below wr.heap.size wr W) => w_r9ops _ _ W (RdO.below hc g) hzo
        obtain ⟨rows, rw1, rw2, rw3, rw4⟩ := oW3
        have hrl : rows.length = k := by rw [rw1, List.length_take]; omega
        have hbs : Below W0.heap.size W0 wr := hb
        have hzw := z.words
        have hone : ∀ ua uc, ∀ r ∈ [[Value.string nm, .int .i64 A1, .int .i64 A2, .int .u32 A3, .slice ua m.words[k].2.2.2.2.length uc]], ∀ u ∈ r, u.oneCell' = true := by
          intro ua uc r hr u hu
          simp at hr
          subst hr
          simp at hu
          rcases hu with rfl | rfl | rfl | rfl | rfl <;> rfl
        have htl : (m.words.take k).length = k := by rw [List.length_take]; omega
        go_wp2_with (first
          | (go_at_call 63; refine (co _ bx).mono ?_; rintro e q1 ⟨v1, rfl, o1, b1⟩; obtain ⟨rr, hrr⟩ := OwnR.row o1; obtain ⟨ua, uc, rfl⟩ := own_form hrr; have sq := sx.below b1; have p4 := sq.cell 4 _ rfl; have pf := sq.free 4; have s2q := sq.set 4 (.slice ua m.words[k].2.2.2.2.length uc); simp only [List.setIfInBounds_toArray, List.set_cons_zero, List.set_cons_succ] at s2q; have BX := below_set (below_trans bx b1) wr.heap.size 4 (.slice ua m.words[k].2.2.2.2.length uc) (Nat.le_refl _); have stB := st3.below BX; have c2 := stB.cell 2 _ rfl; have d0 := s2q.cell 0 _ rfl; have d1 := s2q.cell 1 _ rfl; have d2 := s2q.cell 2 _ rfl; have d3 := s2q.cell 3 _ rfl; have d4 := s2q.cell 4 _ rfl; have BY := box_below (q1.setCell ⟨wr.heap.size, 4, none⟩ (.slice ua m.words[k].2.2.2.2.length uc)) (.cells #[.string nm, .int .i64 A1, .int .i64 A2, .int .u32 A3, .slice ua m.words[k].2.2.2.2.length uc] 51); have OW := World.ownsRow.alloc (own_kept (T := 5) (Kept.below BX) (by decide) rw3) (.cells #[.string nm, .int .i64 A1, .int .i64 A2, .int .u32 A3, .slice ua m.words[k].2.2.2.2.length uc] 51); have hsl := slc_one (q1.setCell ⟨wr.heap.size, 4, none⟩ (.slice ua m.words[k].2.2.2.2.length uc)) [Value.string nm, .int .i64 A1, .int .i64 A2, .int .u32 A3, .slice ua m.words[k].2.2.2.2.length uc] 51 5 rfl; rw [show (q1.setCell ⟨wr.heap.size, 4, none⟩ (.slice ua m.words[k].2.2.2.2.length uc)).heap.size = q1.heap.size from by simp] at hsl)
          | (at_builtin; refine wpList_append_rows rfl _ _ 26 rfl W0.heap.size 51 i0 _ 5 64 Try.underlying26 hi0 hz0 hz1 hz2 rfl (by decide) vw (m.words.take k).length _ rfl OW _ [[Value.string nm, .int .i64 A1, .int .i64 A2, .int .u32 A3, .slice ua m.words[k].2.2.2.2.length uc]] rfl hsl (hone ua uc) (by unfold maxLen; simp only [List.length_cons, List.length_nil]; omega) (by simp only [List.length_cons, List.length_nil]; omega) (below_trans (below_trans hb BX) BY).size ?_; intro v9 w9 ho9 hg9; have ho8 : w9.ownsRow W0.heap.size 51 5 v9 (k + 1) (rows.flatten ++ [Value.string nm, .int .i64 A1, .int .i64 A2, .int .u32 A3, .slice ua m.words[k].2.2.2.2.length uc]) := (by simpa [htl] using ho9); obtain ⟨na, nc, rfl⟩ := own_form ho8; have K9 := Kept.own OW hg9; have stB9 := stands_kept K9 (by decide) (stB.below BY); have c29 := stB9.cell 2 _ rfl; have f29 := stB9.free 2))
        have stC := stB9.set 2 (.slice na (k + 1) nc)
        simp only [List.setIfInBounds_toArray, List.set_cons_zero, List.set_cons_succ] at stC
        have KM := set_kept stB9 2 (.slice na (k + 1) nc)
        have hx9 : wrdO W0.heap.size ((q1.setCell ⟨wr.heap.size, 4, none⟩ (.slice ua m.words[k].2.2.2.2.length uc)).alloc (.cells #[.string nm, .int .i64 A1, .int .i64 A2, .int .u32 A3, .slice ua m.words[k].2.2.2.2.length uc] 51)) [Value.string nm, .int .i64 A1, .int .i64 A2, .int .u32 A3, .slice ua m.words[k].2.2.2.2.length uc] m.words[k] := ⟨_, by rw [en, hA1, hA2, hA3], OwO.below (OwO.kept (OwO.le (below_trans hb bx).size o1) (set_kept sq 4 _) (by decide)) BY⟩
        have hsn := OwnR.snoc (wrdO_apt (by decide)) rw1 rw2 OW (fun i hi => wrdO_below BY _ _ (wrdO_below BX _ _ (rw4 i hi))) rfl hx9 (by rw [htl]; exact ho8) hg9
        rw [← List.take_succ_eq_append_getElem hkl] at hsn
        go_roundw
        case rel => exact ⟨k + 1, .slice na (k + 1) nc, by omega, by go_num, stC, own_kept KM (by decide) (own_kept K9 (by decide) (World.ownsRow.alloc (own_below oS3 BX) _)), own_kept KM (by decide) (own_kept K9 (by decide) (World.ownsRow.alloc (own_below oM3 BX) _)), OwnT8.kept (OwnT8.kept (OwnT8.below (OwnT8.below oT3 BX) BY) K9 (by decide) (by decide) (by decide) (by decide)) KM (by decide) (by decide) (by decide) (by decide), OwnR.kept hsn KM (by decide) (wrdO_apt (by decide)), below_set (below_grown (below_trans (below_trans hb BX) BY) hg9 (fun g hg => (OW.lt g hg).1)) B 2 (.slice na (k + 1) nc) hBw⟩
        case measure => simp [intOf]; omega
      · have hW : OwW W0.heap.size wr vw m.words := by
          rw [List.take_of_length_le (by omega)] at oW3
          exact oW3
        have hzc := z.codes
        have zc3 := st3.cell 3 _ rfl
        obtain ⟨i1, hi1, hy0, hy1, hy2⟩ := info_parts infoJ
        obtain ⟨i2, hi2, hx0, hx1, hx2⟩ := info_parts infoIz
        have hrc := h.codes.below (below_trans bw hb)
        clear oW3
        go_wp2_with (at_builtin; refine wpList_append_rd (k := .i64) rfl _ _ 27 rfl W0.heap.size 3 i1 8 Try.underlying27 hi1 hy0 hy1 hy2 (.slice none 0 0) [] rfl (World.ownsRow_nil _ _ _ _) v.vc m.codes rfl hrc (by unfold maxLen; simp only [List.length_nil]; omega) (by simp only [List.length_nil]; omega) hb.size ?_; intro v8 w8 ho8 hg8; have ho7 : w8.ownsRow W0.heap.size 3 1 v8 m.codes.length (m.codes.map (Value.int .i64)) := (by simpa using ho8); obtain ⟨na, nc, rfl⟩ := own_form ho7; have B8 : Below wr.heap.size wr w8 := below_grown (Below.refl _ _) hg8 (fun g hg => by cases hg); have st8 := st3.below B8; have c38 := st8.cell 3 _ rfl; have f38 := st8.free 3)
        have st7 := st8.set 3 (.slice na m.codes.length nc)
        simp only [List.setIfInBounds_toArray, List.set_cons_zero, List.set_cons_succ] at st7
        have KM := set_kept st8 3 (.slice na m.codes.length nc)
        have oS7 := own_kept KM (by decide) (own_below oS3 B8)
        have oM7 := own_kept KM (by decide) (own_below oM3 B8)
        have oT7 := OwnT8.kept (OwnT8.below oT3 B8) KM (by decide) (by decide) (by decide) (by decide)
        have oW7 : OwW W0.heap.size _ vw m.words := OwnR.kept (OwnR.below hW B8 (wrdO_below B8)) KM (by decide) (wrdO_apt (by decide))
        have oC7 := own_kept KM (by decide) ho7
        have b7 := below_set (below_trans hb B8) B 3 (.slice na m.codes.length nc) hBw
        clear st8 KM hW oS3 oM3 oT3 st3 x0 x1 x2 x3 x4 x5 x6 x7 x8 x9 zc3 c38 f38 ho8 ho7 hrc
        obtain ⟨VC, hVC⟩ : ∃ X, Value.slice na m.codes.length nc = X := ⟨_, rfl⟩
        rw [hVC] at st7 oS7 oM7 oT7 oW7 oC7 b7 ⊢
        generalize w8.setCell ⟨B, 3, none⟩ VC = W7 at st7 oS7 oM7 oT7 oW7 oC7 b7 ⊢
        go_wp2_with fail
        go_loopw [6] (fun I wx => ∃ (k : Nat) (vi : Value), (k : Int) ≤ m.insts.length ∧ I = .int .i64 k ∧ Stands wx B #[vs, vm, vw, VC, .int .u32 m.base, vt, .int .i64 m.node, vi, .int .i64 m.self, .string o] 32 ∧ wx.ownsRow W0.heap.size 28 1 vs m.stack.length (m.stack.map (Value.int .u32)) ∧ wx.ownsRow W0.heap.size 5 1 vm m.mem.length (m.mem.map (Value.int .u8)) ∧ OwnT8 W0.heap.size wx vt m.tree ∧ OwW W0.heap.size wx vw m.words ∧ wx.ownsRow W0.heap.size 3 1 VC m.codes.length (m.codes.map (Value.int .i64)) ∧ OwI W0.heap.size wx vi (m.insts.take k) ∧ Below W0.heap.size W0 wx) (fun I _ => (m.insts.length - intOf I).toNat)
        case atStart => exact ⟨0, .slice none 0 0, by omega, rfl, st7, oS7, oM7, oT7, oW7, oC7, OwnR.nil _ _ _ _ _, b7⟩
        case round =>
          obtain ⟨k, vi, hk, rfl, st3, oS3, oM3, oT3, oW3, oC3, oI3, hb⟩ := hrel
          obtain ⟨x0, x1, x2, x3, x4, x5, x6, x7, x8, x9⟩ := KB _ hb
          by_cases hlt : (k : Int) < m.insts.length
          · have hkl : k < m.insts.length := by omega
            have bww := below_trans bw hb
            obtain ⟨b5, o5, nm, vc, r5, w0, w1, w2, w3, en, hc⟩ := ins_at (RdI.below h.insts bww) k hkl
            obtain ⟨ca9, cq9, rfl⟩ := rd_slice hc
            have hzo := z.cels _ (List.getElem_mem hkl)
            obtain ⟨A1, hA1⟩ : ∃ X, m.insts[k].1 = X := ⟨_, rfl⟩
            obtain ⟨A2, hA2⟩ : ∃ X, m.insts[k].2.1 = X := ⟨_, rfl⟩
            rw [hA1] at w0
            rw [hA2] at w1
            have sx := stands_new wr #[.int .i64 A1, .int .i64 A2, .string nm, .slice ca9 m.insts[k].2.2.2.length cq9] 83
            have bx := box_below wr (.cells #[.int .i64 A1, .int .i64 A2, .string nm, .slice ca9 m.insts[k].2.2.2.length cq9] 83)
            have y4 := sx.cell 3 _ rfl
            have co := fun W (g : Below wr.heap.size wr W) => w_r3copy _ _ W (hc.below g) (by unfold maxLen; omega) hzo
            obtain ⟨rows, rw1, rw2, rw3, rw4⟩ := oI3
            have hzw := z.insts
            have hone : ∀ ua uc, ∀ r ∈ [[Value.int .i64 A1, .int .i64 A2, .string nm, .slice ua m.insts[k].2.2.2.length uc]], ∀ u ∈ r, u.oneCell' = true := by
              intro ua uc r hr u hu
              simp at hr
              subst hr
              simp at hu
              rcases hu with rfl | rfl | rfl | rfl <;> rfl
            have htl : (m.insts.take k).length = k := by rw [List.length_take]; omega
            go_wp2_with (first
              | (go_at_call 60; refine (co _ bx).mono ?_; rintro e q1 ⟨v1, rfl, o1, b1⟩; obtain ⟨ua, uc, rfl⟩ := own_form o1; have sq := sx.below b1; have p4 := sq.cell 3 _ rfl; have pf := sq.free 3; have s2q := sq.set 3 (.slice ua m.insts[k].2.2.2.length uc); simp only [List.setIfInBounds_toArray, List.set_cons_zero, List.set_cons_succ] at s2q; have BX := below_set (below_trans bx b1) wr.heap.size 3 (.slice ua m.insts[k].2.2.2.length uc) (Nat.le_refl _); have stB := st3.below BX; have c2 := stB.cell 7 _ rfl; have d0 := s2q.cell 0 _ rfl; have d1 := s2q.cell 1 _ rfl; have d2 := s2q.cell 2 _ rfl; have d3 := s2q.cell 3 _ rfl; have BY := box_below (q1.setCell ⟨wr.heap.size, 3, none⟩ (.slice ua m.insts[k].2.2.2.length uc)) (.cells #[.int .i64 A1, .int .i64 A2, .string nm, .slice ua m.insts[k].2.2.2.length uc] 83); have OW := World.ownsRow.alloc (own_kept (T := 5) (Kept.below BX) (by decide) rw3) (.cells #[.int .i64 A1, .int .i64 A2, .string nm, .slice ua m.insts[k].2.2.2.length uc] 83); have hsl := slc_one (q1.setCell ⟨wr.heap.size, 3, none⟩ (.slice ua m.insts[k].2.2.2.length uc)) [Value.int .i64 A1, .int .i64 A2, .string nm, .slice ua m.insts[k].2.2.2.length uc] 83 4 rfl; rw [show (q1.setCell ⟨wr.heap.size, 3, none⟩ (.slice ua m.insts[k].2.2.2.length uc)).heap.size = q1.heap.size from by simp] at hsl)
              | (at_builtin; refine wpList_append_rows rfl _ _ 30 rfl W0.heap.size 83 i2 _ 4 56 Try.underlying30 hi2 hx0 hx1 hx2 rfl (by decide) vi (m.insts.take k).length _ rfl OW _ [[Value.int .i64 A1, .int .i64 A2, .string nm, .slice ua m.insts[k].2.2.2.length uc]] rfl hsl (hone ua uc) (by unfold maxLen; simp only [List.length_cons, List.length_nil]; omega) (by simp only [List.length_cons, List.length_nil]; omega) (below_trans (below_trans hb BX) BY).size ?_; intro v9 w9 ho9 hg9; have ho8 : w9.ownsRow W0.heap.size 83 4 v9 (k + 1) (rows.flatten ++ [Value.int .i64 A1, .int .i64 A2, .string nm, .slice ua m.insts[k].2.2.2.length uc]) := (by simpa [htl] using ho9); obtain ⟨na, nc, rfl⟩ := own_form ho8; have K9 := Kept.own OW hg9; have stB9 := stands_kept K9 (by decide) (stB.below BY); have c29 := stB9.cell 7 _ rfl; have f29 := stB9.free 7))
            have stC := stB9.set 7 (.slice na (k + 1) nc)
            simp only [List.setIfInBounds_toArray, List.set_cons_zero, List.set_cons_succ] at stC
            have KM := set_kept stB9 7 (.slice na (k + 1) nc)
            have hx9 : insO W0.heap.size ((q1.setCell ⟨wr.heap.size, 3, none⟩ (.slice ua m.insts[k].2.2.2.length uc)).alloc (.cells #[.int .i64 A1, .int .i64 A2, .string nm, .slice ua m.insts[k].2.2.2.length uc] 83)) [Value.int .i64 A1, .int .i64 A2, .string nm, .slice ua m.insts[k].2.2.2.length uc] m.insts[k] := ⟨_, by rw [en, hA1, hA2], own_below (own_kept (set_kept sq 3 _) (by decide) (own_le (below_trans hb bx).size o1)) BY⟩
            have hsn := OwnR.snoc (insO_apt (by decide)) rw1 rw2 OW (fun i hi => insO_below BY _ _ (insO_below BX _ _ (rw4 i hi))) rfl hx9 (by rw [htl]; exact ho8) hg9
            rw [← List.take_succ_eq_append_getElem hkl] at hsn
            go_roundw
            case rel => exact ⟨k + 1, .slice na (k + 1) nc, by omega, by go_num, stC, own_kept KM (by decide) (own_kept K9 (by decide) (World.ownsRow.alloc (own_below oS3 BX) _)), own_kept KM (by decide) (own_kept K9 (by decide) (World.ownsRow.alloc (own_below oM3 BX) _)), OwnT8.kept (OwnT8.kept (OwnT8.below (OwnT8.below oT3 BX) BY) K9 (by decide) (by decide) (by decide) (by decide)) KM (by decide) (by decide) (by decide) (by decide), OwnR.kept (OwnR.kept (OwnR.below (OwnR.below oW3 BX (wrdO_below BX)) BY (wrdO_below BY)) K9 (by decide) (wrdO_apt (by decide))) KM (by decide) (wrdO_apt (by decide)), own_kept KM (by decide) (own_kept K9 (by decide) (World.ownsRow.alloc (own_below oC3 BX) _)), OwnR.kept hsn KM (by decide) (insO_apt (by decide)), below_set (below_grown (below_trans (below_trans hb BX) BY) hg9 (fun g hg => (OW.lt g hg).1)) B 7 (.slice na (k + 1) nc) hBw⟩
            case measure => simp [intOf]; omega
          · have hI : OwI W0.heap.size wr vi m.insts := by
              rw [List.take_of_length_le (by omega)] at oI3
              exact oI3
            clear oI3
            have t2 := s2.below hb
            obtain ⟨a1, c1, rfl⟩ := own_form oS3
            obtain ⟨a2, c2, rfl⟩ := own_form oM3
            obtain ⟨rW, hrW⟩ := OwnR.row oW3
            obtain ⟨a3, c3, rfl⟩ := own_form hrW
            obtain ⟨a4, c4, hV4⟩ := own_form oC3
            obtain ⟨rT, hrT⟩ := OwnR.row oT3
            obtain ⟨a5, c5, rfl⟩ := own_form hrT
            obtain ⟨rI, hrI⟩ := OwnR.row hI
            obtain ⟨a6, c6, rfl⟩ := own_form hrI
            rw [hV4] at st3 oC3
            have u0 := st3.cell 0 _ rfl
            have u1 := st3.cell 1 _ rfl
            have u2 := st3.cell 2 _ rfl
            have u3 := st3.cell 3 _ rfl
            have u4 := st3.cell 4 _ rfl
            have u5 := st3.cell 5 _ rfl
            have u6 := st3.cell 6 _ rfl
            have u7 := st3.cell 7 _ rfl
            have u8 := st3.cell 8 _ rfl
            have u9 := st3.cell 9 _ rfl
            have y0 := t2.cell 0 _ rfl
            have y1 := t2.cell 1 _ rfl
            have y2 := t2.cell 2 _ rfl
            have y3 := t2.cell 3 _ rfl
            have y4 := t2.cell 4 _ rfl
            have y5 := t2.cell 5 _ rfl
            have y6 := t2.cell 6 _ rfl
            have y7 := t2.cell 7 _ rfl
            have y8 := t2.cell 8 _ rfl
            have y9 := t2.cell 9 _ rfl
            have yf := t2.free
            obtain ⟨k1, k2⟩ := set10 t2 (.slice a1 m.stack.length c1) (.slice a2 m.mem.length c2) (.slice a3 m.words.length c3) (.slice a4 m.codes.length c4) (.int .u32 m.base) (.slice a5 m.tree.length c5) (.int .i64 m.node) (.slice a6 m.insts.length c6) (.int .i64 m.self) (.string o)
            have K1 := hid k1
            have J1 := hid (k2 (fun u => u.ownsRow W0.heap.size 28 1 (.slice a1 m.stack.length c1) m.stack.length (m.stack.map (Value.int .u32))) (fun u u' kk x => own_kept kk (by decide) x) oS3)
            have J2 := hid (k2 (fun u => u.ownsRow W0.heap.size 5 1 (.slice a2 m.mem.length c2) m.mem.length (m.mem.map (Value.int .u8))) (fun u u' kk x => own_kept kk (by decide) x) oM3)
            have J3 := hid (k2 (fun u => OwW W0.heap.size u (.slice a3 m.words.length c3) m.words) (fun u u' kk x => OwnR.kept x kk (by decide) (wrdO_apt (by decide))) oW3)
            have J4 := hid (k2 (fun u => u.ownsRow W0.heap.size 3 1 (.slice a4 m.codes.length c4) m.codes.length (m.codes.map (Value.int .i64))) (fun u u' kk x => own_kept kk (by decide) x) oC3)
            have J5 := hid (k2 (fun u => OwnT8 W0.heap.size u (.slice a5 m.tree.length c5) m.tree) (fun u u' kk x => OwnT8.kept x kk (by decide) (by decide) (by decide) (by decide)) oT3)
            have J6 := hid (k2 (fun u => OwI W0.heap.size u (.slice a6 m.insts.length c6) m.insts) (fun u u' kk x => OwnR.kept x kk (by decide) (insO_apt (by decide))) hI)
            have J7 : Hid (Below w.heap.size w _) := below_set (below_set (below_set (below_set (below_set (below_set (below_set (below_set (below_set (below_set (below_trans bw hb) (w.heap.size + 1) 0 (.slice a1 m.stack.length c1) (by omega)) (w.heap.size + 1) 1 (.slice a2 m.mem.length c2) (by omega)) (w.heap.size + 1) 2 (.slice a3 m.words.length c3) (by omega)) (w.heap.size + 1) 3 (.slice a4 m.codes.length c4) (by omega)) (w.heap.size + 1) 4 (.int .u32 m.base) (by omega)) (w.heap.size + 1) 5 (.slice a5 m.tree.length c5) (by omega)) (w.heap.size + 1) 6 (.int .i64 m.node) (by omega)) (w.heap.size + 1) 7 (.slice a6 m.insts.length c6) (by omega)) (w.heap.size + 1) 8 (.int .i64 m.self) (by omega)) (w.heap.size + 1) 9 (.string o) (by omega)
            have HO := hid h.out
            have HZ := hid bw.size
            clear k1 k2 oS3 oM3 oW3 oC3 oT3 hI hrW hrT hrI hb bw bw2 h z KB s1 s2 b7 st7 oS7 oM7 oT7 oW7 oC7 st oS oM oT
            go_wp2_with fail
            (try simp only [Exit.inBlock, Exit.then])
            refine bodyPost_ret (results_cell_row rfl _ _ (w.heap.size + 1) 32 _ (0, 0) _ rfl K1.out Try.underlying32 rfl (show _ = some 10 by kernel_rfl)) rfl ?_
            exact ⟨⟨.slice a1 m.stack.length c1, .slice a2 m.mem.length c2, .slice a3 m.words.length c3, .slice a4 m.codes.length c4, .slice a5 m.tree.length c5, .slice a6 m.insts.length c6⟩, rfl, OwM.le HZ.out ⟨J1.out, J2.out, J3.out, J4.out, J5.out, J6.out, HO.out⟩, J7.out⟩

end Go.Proofs.Ytfljcfpcokimcaa
