/-
  A number is bound as the document's answer says, and every other number leads where it led.
-/
import Derived.Test.YtfljcfpcokimcaaRows
import Derived.WalkKit
import Derived.ProofKit
import Derived.OpenShut
import Derived.ShutString
import Derived.ChangeOld
import Derived.Below
import Derived.Carry
import Derived.SizedLaws
import Derived.Test.YtfljcfpcokimcaaB40
namespace Go.Proofs.Ytfljcfpcokimcaa.dictBinds
open Go.ChangeShapes Go.WideShapes Go.ChangeAt Go.RowKit
open Go.ChangeMaps (open_string shut_string)
set_option linter.unusedVariables false

theorem own : ownKnob Try.prog.godebug = none := by kernel_rfl
theorem laidOut : laidOutB Try.prog = true := by kernel_rfl
theorem cells3 : Try.prog.cellsOf 3 = 1 := by kernel_rfl
theorem cells56 : Try.prog.cellsOf 56 = 2 := by kernel_rfl

set_option maxHeartbeats 4000000 in
set_option maxRecDepth 100000 in
theorem walk (mv0 : Mv) (m0 : Mc) (mo0 : ByteArray) (a1_0 a1_1 : Int) (a2 : Int) (w : World) (r0 : RdM w mv0 m0 mo0) (g0 : gM m0) (ws0 : mo0.size ≤ maxLen) (w1_0 : (Lit.int .i64 a1_0).wf = true) (w1_1 : (Lit.int .i64 a1_1).wf = true) (w2 : (Lit.int .i64 a2).wf = true) :
    Calls Try.prog 8 #[.agg (mv0.cs m0 mo0), .agg #[.int .i64 a1_0, .int .i64 a1_1], .int .i64 a2] w fun e w' => e = .returned (.bool true) ∧ Below w.heap.size w w' := by
  have hT : Tab w := trivial
  have st_0 := (stands_new w (mv0.cs m0 mo0) 32).below (box_below _ (.cells #[.int .i64 a1_0, .int .i64 a1_1] 56))
  have pr_0 := stands_new (w.alloc (.cells (mv0.cs m0 mo0) 32)) #[.int .i64 a1_0, .int .i64 a1_1] 56
  rw [size_al] at pr_0
  have bb := below_trans (box_below w (.cells (mv0.cs m0 mo0) 32)) (box_below _ (.cells #[.int .i64 a1_0, .int .i64 a1_1] 56))
  have t_0 := r0.below bb
  have hT_0 := hT.below bb
  have c1 := fun w h => w_r9copy m0 mv0 mo0 w h g0.sz
  have c2 := fun v w hT h => w_p9bind m0 v mo0 a1_0 a1_1 w hT h g0 w1_0 w1_1
  have c3 := fun w h => w_r9bind m0 mv0 mo0 a1_0 a1_1 w h g0.gd g0.sz w1_0
  have hfo := bnd_formed (m := m0) (code := a1_0) (xt := a1_1)
  have hcb := cod_bnd (m := m0) (code := a1_0) (xt := a1_1)
  have hco := cod_other (m := m0) (code := a1_0) (xt := a1_1) (o := a2)
  have hga := bnd_gM (m := m0) (code := a1_0) (xt := a1_1) g0 w1_1
  obtain ⟨A, E, hA⟩ : ∃ A E, bndF m0 a1_0 a1_1 = (A, E) := ⟨_, _, rfl⟩
  simp only [hA] at c2 c3 hfo hga hcb hco
  clear hA
  have c4 := fun va vb oa ob w h h2 => w_r9eq A va vb oa ob w h h2 hga
  have c5 := fun v w h h2 => w_r9eq m0 v mv0 mo0 mo0 w h h2 g0
  have c6 := fun v o w hT h => w_p9code v A o a1_0 w hT h hga w1_0
  have c7 := fun v o w hT h => w_p9code v A o a2 w hT h hga w2
  have c8 := fun w hT h => w_p9code mv0 m0 mo0 a2 w hT h g0 w2
  have c9 := fun v o w hT h => w_p9formed A v o w hT h hga
  have qE1 : (E != E) = false := by simp
  by_cases hE : E = 0
  · subst hE
    have hf := hfo rfl
    have hc := hcb rfl
    have ho := hco rfl
    simp only [hf] at c9
    simp only [hc, cdI, Option.isSome_some] at c6
    have q1 : (a1_1 == a1_1) = true := beq_self_eq_true _
    by_cases hs : a2 = a1_0
    · obtain rfl := hs.symm
      simp only [hc, cdI, Option.isSome_some] at c7
      have q2 : (a1_0 == a1_0) = true := beq_self_eq_true _
      obtain ⟨I, hI⟩ : ∃ I, cdI (codF m0.codes a1_0) = I := ⟨_, rfl⟩
      obtain ⟨B, hB⟩ : ∃ B, (codF m0.codes a1_0).isSome = B := ⟨_, rfl⟩
      clear hfo hcb hco hf hc ho
      go_enter Try.func8, Try.ntmps8
      go_upto_region 1 with fail
      generalize (w.alloc (.cells (mv0.cs m0 mo0) 32)).alloc (.cells #[.int .i64 a1_0, .int .i64 a1_1] 56) = W0 at st_0 pr_0 t_0 hT_0 bb  ⊢
      obtain ⟨st0_0, st1_0, st2_0, st3_0, st4_0, st5_0, st6_0, st7_0, st8_0, st9_0⟩ := mch_cells st_0
      have pr0_0 := pr_0.cell 0 _ rfl
      have pr1_0 := pr_0.cell 1 _ rfl
      go_upto_region 4 with (first | (go_at_call 9; refine (w_alive9 _ hT_0).mono ?_; rintro e q1 ⟨rfl, b_1⟩; have hT_1 := hT_0.below b_1; have t_1 := t_0.below b_1; have st_1 := st_0.below b_1; obtain ⟨st0_1, st1_1, st2_1, st3_1, st4_1, st5_1, st6_1, st7_1, st8_1, st9_1⟩ := mch_cells st_1; have pr_1 := pr_0.below b_1; have pr0_1 := pr_1.cell 0 _ rfl; have pr1_1 := pr_1.cell 1 _ rfl) | (go_at_call 28; refine (c1 _ t_1).mono ?_; rintro e q2 ⟨v2, rfl, ow2, b_2⟩; have hT_2 := hT_1.below b_2; have t_2 := t_1.below b_2; have st_2 := st_1.below b_2; obtain ⟨st0_2, st1_2, st2_2, st3_2, st4_2, st5_2, st6_2, st7_2, st8_2, st9_2⟩ := mch_cells st_2; have pr_2 := pr_1.below b_2; have pr0_2 := pr_2.cell 0 _ rfl; have pr1_2 := pr_2.cell 1 _ rfl; have own_2 := ow2.read; obtain ⟨a0w, k0w, a1w, k1w, a2w, k2w, a3w, k3w, a5w, k5w, a7w, k7w, rfl⟩ := rdm_forms own_2; simp only [Mv.cs]))
      have so_3 := stands_new q2 #[.slice a0w m0.stack.length k0w, .slice a1w m0.mem.length k1w, .slice a2w m0.words.length k2w, .slice a3w m0.codes.length k3w, .int .u32 m0.base, .slice a5w m0.tree.length k5w, .int .i64 m0.node, .slice a7w m0.insts.length k7w, .int .i64 m0.self, .string mo0] 32
      have b_3 := box_below q2 (.cells #[.slice a0w m0.stack.length k0w, .slice a1w m0.mem.length k1w, .slice a2w m0.words.length k2w, .slice a3w m0.codes.length k3w, .int .u32 m0.base, .slice a5w m0.tree.length k5w, .int .i64 m0.node, .slice a7w m0.insts.length k7w, .int .i64 m0.self, .string mo0] 32)
      obtain ⟨Bso, hBso⟩ : ∃ B, q2.heap.size = B := ⟨_, rfl⟩
      rw [hBso] at so_3
      (try simp only [hBso])
      have hT_3 := hT_2.below b_3
      have t_3 := t_2.below b_3
      have own_3 := own_2.below b_3
      have st_3 := st_2.below b_3
      have pr_3 := pr_2.below b_3
      generalize q2.alloc (.cells #[.slice a0w m0.stack.length k0w, .slice a1w m0.mem.length k1w, .slice a2w m0.words.length k2w, .slice a3w m0.codes.length k3w, .int .u32 m0.base, .slice a5w m0.tree.length k5w, .int .i64 m0.node, .slice a7w m0.insts.length k7w, .int .i64 m0.self, .string mo0] 32) = q3 at hT_3 b_3 so_3 t_3 own_3 st_3 pr_3 ⊢
      obtain ⟨st0_3, st1_3, st2_3, st3_3, st4_3, st5_3, st6_3, st7_3, st8_3, st9_3⟩ := mch_cells st_3
      have pr0_3 := pr_3.cell 0 _ rfl
      have pr1_3 := pr_3.cell 1 _ rfl
      obtain ⟨so0_3, so1_3, so2_3, so3_3, so4_3, so5_3, so6_3, so7_3, so8_3, so9_3⟩ := mch_cells (v := ⟨.slice a0w m0.stack.length k0w, .slice a1w m0.mem.length k1w, .slice a2w m0.words.length k2w, .slice a3w m0.codes.length k3w, .slice a5w m0.tree.length k5w, .slice a7w m0.insts.length k7w⟩) (m := m0) (o := mo0) so_3
      go_upto_region 5 with ((go_at_call 31; refine (c2 _ _ hT_3 own_3).mono ?_; rintro e q4 ⟨v4, o3, rfl, p_4, b_4⟩; have hT_4 := hT_3.below b_4; have t_4 := t_3.below b_4; have own_4 := own_3.below b_4; have st_4 := st_3.below b_4; obtain ⟨st0_4, st1_4, st2_4, st3_4, st4_4, st5_4, st6_4, st7_4, st8_4, st9_4⟩ := mch_cells st_4; have pr_4 := pr_3.below b_4; have pr0_4 := pr_4.cell 0 _ rfl; have pr1_4 := pr_4.cell 1 _ rfl; have so_4 := so_3.below b_4; obtain ⟨so0_4, so1_4, so2_4, so3_4, so4_4, so5_4, so6_4, so7_4, so8_4, so9_4⟩ := mch_cells (v := ⟨.slice a0w m0.stack.length k0w, .slice a1w m0.mem.length k1w, .slice a2w m0.words.length k2w, .slice a3w m0.codes.length k3w, .slice a5w m0.tree.length k5w, .slice a7w m0.insts.length k7w⟩) (m := m0) (o := mo0) so_4; obtain ⟨a0x, k0x, a1x, k1x, a2x, k2x, a3x, k3x, a5x, k5x, a7x, k7x, rfl⟩ := rdm_forms p_4; simp only [Mv.cs]))
      have sa_5 := stands_new q4 #[.slice a0x A.stack.length k0x, .slice a1x A.mem.length k1x, .slice a2x A.words.length k2x, .slice a3x A.codes.length k3x, .int .u32 A.base, .slice a5x A.tree.length k5x, .int .i64 A.node, .slice a7x A.insts.length k7x, .int .i64 A.self, .string o3] 32
      have b_5 := box_below q4 (.cells #[.slice a0x A.stack.length k0x, .slice a1x A.mem.length k1x, .slice a2x A.words.length k2x, .slice a3x A.codes.length k3x, .int .u32 A.base, .slice a5x A.tree.length k5x, .int .i64 A.node, .slice a7x A.insts.length k7x, .int .i64 A.self, .string o3] 32)
      obtain ⟨Bsa, hBsa⟩ : ∃ B, q4.heap.size = B := ⟨_, rfl⟩
      rw [hBsa] at sa_5
      (try simp only [hBsa])
      have hT_5 := hT_4.below b_5
      have t_5 := t_4.below b_5
      have own_5 := own_4.below b_5
      have p_5 := p_4.below b_5
      have st_5 := st_4.below b_5
      have pr_5 := pr_4.below b_5
      have so_5 := so_4.below b_5
      generalize q4.alloc (.cells #[.slice a0x A.stack.length k0x, .slice a1x A.mem.length k1x, .slice a2x A.words.length k2x, .slice a3x A.codes.length k3x, .int .u32 A.base, .slice a5x A.tree.length k5x, .int .i64 A.node, .slice a7x A.insts.length k7x, .int .i64 A.self, .string o3] 32) = q5 at hT_5 b_5 sa_5 t_5 own_5 p_5 st_5 pr_5 so_5 ⊢
      obtain ⟨st0_5, st1_5, st2_5, st3_5, st4_5, st5_5, st6_5, st7_5, st8_5, st9_5⟩ := mch_cells st_5
      have pr0_5 := pr_5.cell 0 _ rfl
      have pr1_5 := pr_5.cell 1 _ rfl
      obtain ⟨so0_5, so1_5, so2_5, so3_5, so4_5, so5_5, so6_5, so7_5, so8_5, so9_5⟩ := mch_cells (v := ⟨.slice a0w m0.stack.length k0w, .slice a1w m0.mem.length k1w, .slice a2w m0.words.length k2w, .slice a3w m0.codes.length k3w, .slice a5w m0.tree.length k5w, .slice a7w m0.insts.length k7w⟩) (m := m0) (o := mo0) so_5
      obtain ⟨sa0_5, sa1_5, sa2_5, sa3_5, sa4_5, sa5_5, sa6_5, sa7_5, sa8_5, sa9_5⟩ := mch_cells (v := ⟨.slice a0x A.stack.length k0x, .slice a1x A.mem.length k1x, .slice a2x A.words.length k2x, .slice a3x A.codes.length k3x, .slice a5x A.tree.length k5x, .slice a7x A.insts.length k7x⟩) (m := A) (o := o3) sa_5
      go_upto_region 6 with ((go_at_call 32; refine (c3 _ t_5).mono ?_; rintro e q6 ⟨v6, o4, rfl, ow6, b_6⟩; have hT_6 := hT_5.below b_6; have t_6 := t_5.below b_6; have own_6 := own_5.below b_6; have p_6 := p_5.below b_6; have st_6 := st_5.below b_6; obtain ⟨st0_6, st1_6, st2_6, st3_6, st4_6, st5_6, st6_6, st7_6, st8_6, st9_6⟩ := mch_cells st_6; have pr_6 := pr_5.below b_6; have pr0_6 := pr_6.cell 0 _ rfl; have pr1_6 := pr_6.cell 1 _ rfl; have so_6 := so_5.below b_6; obtain ⟨so0_6, so1_6, so2_6, so3_6, so4_6, so5_6, so6_6, so7_6, so8_6, so9_6⟩ := mch_cells (v := ⟨.slice a0w m0.stack.length k0w, .slice a1w m0.mem.length k1w, .slice a2w m0.words.length k2w, .slice a3w m0.codes.length k3w, .slice a5w m0.tree.length k5w, .slice a7w m0.insts.length k7w⟩) (m := m0) (o := mo0) so_6; have sa_6 := sa_5.below b_6; obtain ⟨sa0_6, sa1_6, sa2_6, sa3_6, sa4_6, sa5_6, sa6_6, sa7_6, sa8_6, sa9_6⟩ := mch_cells (v := ⟨.slice a0x A.stack.length k0x, .slice a1x A.mem.length k1x, .slice a2x A.words.length k2x, .slice a3x A.codes.length k3x, .slice a5x A.tree.length k5x, .slice a7x A.insts.length k7x⟩) (m := A) (o := o3) sa_6; have x_6 := ow6.read; obtain ⟨a0z, k0z, a1z, k1z, a2z, k2z, a3z, k3z, a5z, k5z, a7z, k7z, rfl⟩ := rdm_forms x_6; simp only [Mv.cs]))
      have sb_7 := stands_new q6 #[.slice a0z A.stack.length k0z, .slice a1z A.mem.length k1z, .slice a2z A.words.length k2z, .slice a3z A.codes.length k3z, .int .u32 A.base, .slice a5z A.tree.length k5z, .int .i64 A.node, .slice a7z A.insts.length k7z, .int .i64 A.self, .string o4] 32
      have b_7 := box_below q6 (.cells #[.slice a0z A.stack.length k0z, .slice a1z A.mem.length k1z, .slice a2z A.words.length k2z, .slice a3z A.codes.length k3z, .int .u32 A.base, .slice a5z A.tree.length k5z, .int .i64 A.node, .slice a7z A.insts.length k7z, .int .i64 A.self, .string o4] 32)
      obtain ⟨Bsb, hBsb⟩ : ∃ B, q6.heap.size = B := ⟨_, rfl⟩
      rw [hBsb] at sb_7
      (try simp only [hBsb])
      have hT_7 := hT_6.below b_7
      have t_7 := t_6.below b_7
      have own_7 := own_6.below b_7
      have p_7 := p_6.below b_7
      have x_7 := x_6.below b_7
      have st_7 := st_6.below b_7
      have pr_7 := pr_6.below b_7
      have so_7 := so_6.below b_7
      have sa_7 := sa_6.below b_7
      generalize q6.alloc (.cells #[.slice a0z A.stack.length k0z, .slice a1z A.mem.length k1z, .slice a2z A.words.length k2z, .slice a3z A.codes.length k3z, .int .u32 A.base, .slice a5z A.tree.length k5z, .int .i64 A.node, .slice a7z A.insts.length k7z, .int .i64 A.self, .string o4] 32) = q7 at hT_7 b_7 sb_7 t_7 own_7 p_7 x_7 st_7 pr_7 so_7 sa_7 ⊢
      obtain ⟨st0_7, st1_7, st2_7, st3_7, st4_7, st5_7, st6_7, st7_7, st8_7, st9_7⟩ := mch_cells st_7
      have pr0_7 := pr_7.cell 0 _ rfl
      have pr1_7 := pr_7.cell 1 _ rfl
      obtain ⟨so0_7, so1_7, so2_7, so3_7, so4_7, so5_7, so6_7, so7_7, so8_7, so9_7⟩ := mch_cells (v := ⟨.slice a0w m0.stack.length k0w, .slice a1w m0.mem.length k1w, .slice a2w m0.words.length k2w, .slice a3w m0.codes.length k3w, .slice a5w m0.tree.length k5w, .slice a7w m0.insts.length k7w⟩) (m := m0) (o := mo0) so_7
      obtain ⟨sa0_7, sa1_7, sa2_7, sa3_7, sa4_7, sa5_7, sa6_7, sa7_7, sa8_7, sa9_7⟩ := mch_cells (v := ⟨.slice a0x A.stack.length k0x, .slice a1x A.mem.length k1x, .slice a2x A.words.length k2x, .slice a3x A.codes.length k3x, .slice a5x A.tree.length k5x, .slice a7x A.insts.length k7x⟩) (m := A) (o := o3) sa_7
      obtain ⟨sb0_7, sb1_7, sb2_7, sb3_7, sb4_7, sb5_7, sb6_7, sb7_7, sb8_7, sb9_7⟩ := mch_cells (v := ⟨.slice a0z A.stack.length k0z, .slice a1z A.mem.length k1z, .slice a2z A.words.length k2z, .slice a3z A.codes.length k3z, .slice a5z A.tree.length k5z, .slice a7z A.insts.length k7z⟩) (m := A) (o := o4) sb_7
      go_wp2_with (go_at_call_of 10 (Value.agg #[.slice a0x A.stack.length k0x, .slice a1x A.mem.length k1x, .slice a2x A.words.length k2x, .slice a3x A.codes.length k3x, .int .u32 A.base, .slice a5x A.tree.length k5x, .int .i64 A.node, .slice a7x A.insts.length k7x, .int .i64 A.self, .string o3]); refine (c4 _ _ _ _ _ p_7 x_7).mono ?_; rintro e q8 ⟨rfl, b_8⟩; have hT_8 := hT_7.below b_8; have t_8 := t_7.below b_8; have own_8 := own_7.below b_8; have p_8 := p_7.below b_8; have x_8 := x_7.below b_8; have st_8 := st_7.below b_8; obtain ⟨st0_8, st1_8, st2_8, st3_8, st4_8, st5_8, st6_8, st7_8, st8_8, st9_8⟩ := mch_cells st_8; have pr_8 := pr_7.below b_8; have pr0_8 := pr_8.cell 0 _ rfl; have pr1_8 := pr_8.cell 1 _ rfl; have so_8 := so_7.below b_8; obtain ⟨so0_8, so1_8, so2_8, so3_8, so4_8, so5_8, so6_8, so7_8, so8_8, so9_8⟩ := mch_cells (v := ⟨.slice a0w m0.stack.length k0w, .slice a1w m0.mem.length k1w, .slice a2w m0.words.length k2w, .slice a3w m0.codes.length k3w, .slice a5w m0.tree.length k5w, .slice a7w m0.insts.length k7w⟩) (m := m0) (o := mo0) so_8; have sa_8 := sa_7.below b_8; obtain ⟨sa0_8, sa1_8, sa2_8, sa3_8, sa4_8, sa5_8, sa6_8, sa7_8, sa8_8, sa9_8⟩ := mch_cells (v := ⟨.slice a0x A.stack.length k0x, .slice a1x A.mem.length k1x, .slice a2x A.words.length k2x, .slice a3x A.codes.length k3x, .slice a5x A.tree.length k5x, .slice a7x A.insts.length k7x⟩) (m := A) (o := o3) sa_8; have sb_8 := sb_7.below b_8; obtain ⟨sb0_8, sb1_8, sb2_8, sb3_8, sb4_8, sb5_8, sb6_8, sb7_8, sb8_8, sb9_8⟩ := mch_cells (v := ⟨.slice a0z A.stack.length k0z, .slice a1z A.mem.length k1z, .slice a2z A.words.length k2z, .slice a3z A.codes.length k3z, .slice a5z A.tree.length k5z, .slice a7z A.insts.length k7z⟩) (m := A) (o := o4) sb_8)
      go_wp2_with (go_at_call_of 10 (Value.agg #[.slice a0w m0.stack.length k0w, .slice a1w m0.mem.length k1w, .slice a2w m0.words.length k2w, .slice a3w m0.codes.length k3w, .int .u32 m0.base, .slice a5w m0.tree.length k5w, .int .i64 m0.node, .slice a7w m0.insts.length k7w, .int .i64 m0.self, .string mo0]); refine (c5 _ _ own_8 t_8).mono ?_; rintro e q9 ⟨rfl, b_9⟩; have hT_9 := hT_8.below b_9; have t_9 := t_8.below b_9; have own_9 := own_8.below b_9; have p_9 := p_8.below b_9; have x_9 := x_8.below b_9; have st_9 := st_8.below b_9; obtain ⟨st0_9, st1_9, st2_9, st3_9, st4_9, st5_9, st6_9, st7_9, st8_9, st9_9⟩ := mch_cells st_9; have pr_9 := pr_8.below b_9; have pr0_9 := pr_9.cell 0 _ rfl; have pr1_9 := pr_9.cell 1 _ rfl; have so_9 := so_8.below b_9; obtain ⟨so0_9, so1_9, so2_9, so3_9, so4_9, so5_9, so6_9, so7_9, so8_9, so9_9⟩ := mch_cells (v := ⟨.slice a0w m0.stack.length k0w, .slice a1w m0.mem.length k1w, .slice a2w m0.words.length k2w, .slice a3w m0.codes.length k3w, .slice a5w m0.tree.length k5w, .slice a7w m0.insts.length k7w⟩) (m := m0) (o := mo0) so_9; have sa_9 := sa_8.below b_9; obtain ⟨sa0_9, sa1_9, sa2_9, sa3_9, sa4_9, sa5_9, sa6_9, sa7_9, sa8_9, sa9_9⟩ := mch_cells (v := ⟨.slice a0x A.stack.length k0x, .slice a1x A.mem.length k1x, .slice a2x A.words.length k2x, .slice a3x A.codes.length k3x, .slice a5x A.tree.length k5x, .slice a7x A.insts.length k7x⟩) (m := A) (o := o3) sa_9; have sb_9 := sb_8.below b_9; obtain ⟨sb0_9, sb1_9, sb2_9, sb3_9, sb4_9, sb5_9, sb6_9, sb7_9, sb8_9, sb9_9⟩ := mch_cells (v := ⟨.slice a0z A.stack.length k0z, .slice a1z A.mem.length k1z, .slice a2z A.words.length k2z, .slice a3z A.codes.length k3z, .slice a5z A.tree.length k5z, .slice a7z A.insts.length k7z⟩) (m := A) (o := o4) sb_9)
      go_upto_region 11 with ((go_at_call 16; refine (c6 _ _ _ hT_9 p_9).mono ?_; rintro e q10 ⟨rfl, b_10⟩; have hT_10 := hT_9.below b_10; have t_10 := t_9.below b_10; have own_10 := own_9.below b_10; have p_10 := p_9.below b_10; have x_10 := x_9.below b_10; have st_10 := st_9.below b_10; obtain ⟨st0_10, st1_10, st2_10, st3_10, st4_10, st5_10, st6_10, st7_10, st8_10, st9_10⟩ := mch_cells st_10; have pr_10 := pr_9.below b_10; have pr0_10 := pr_10.cell 0 _ rfl; have pr1_10 := pr_10.cell 1 _ rfl; have so_10 := so_9.below b_10; obtain ⟨so0_10, so1_10, so2_10, so3_10, so4_10, so5_10, so6_10, so7_10, so8_10, so9_10⟩ := mch_cells (v := ⟨.slice a0w m0.stack.length k0w, .slice a1w m0.mem.length k1w, .slice a2w m0.words.length k2w, .slice a3w m0.codes.length k3w, .slice a5w m0.tree.length k5w, .slice a7w m0.insts.length k7w⟩) (m := m0) (o := mo0) so_10; have sa_10 := sa_9.below b_10; obtain ⟨sa0_10, sa1_10, sa2_10, sa3_10, sa4_10, sa5_10, sa6_10, sa7_10, sa8_10, sa9_10⟩ := mch_cells (v := ⟨.slice a0x A.stack.length k0x, .slice a1x A.mem.length k1x, .slice a2x A.words.length k2x, .slice a3x A.codes.length k3x, .slice a5x A.tree.length k5x, .slice a7x A.insts.length k7x⟩) (m := A) (o := o3) sa_10; have sb_10 := sb_9.below b_10; obtain ⟨sb0_10, sb1_10, sb2_10, sb3_10, sb4_10, sb5_10, sb6_10, sb7_10, sb8_10, sb9_10⟩ := mch_cells (v := ⟨.slice a0z A.stack.length k0z, .slice a1z A.mem.length k1z, .slice a2z A.words.length k2z, .slice a3z A.codes.length k3z, .slice a5z A.tree.length k5z, .slice a7z A.insts.length k7z⟩) (m := A) (o := o4) sb_10))
      go_upto_region 12 with ((go_at_call 16; refine (c7 _ _ _ hT_10 p_10).mono ?_; rintro e q11 ⟨rfl, b_11⟩; have hT_11 := hT_10.below b_11; have t_11 := t_10.below b_11; have own_11 := own_10.below b_11; have p_11 := p_10.below b_11; have x_11 := x_10.below b_11; have st_11 := st_10.below b_11; obtain ⟨st0_11, st1_11, st2_11, st3_11, st4_11, st5_11, st6_11, st7_11, st8_11, st9_11⟩ := mch_cells st_11; have pr_11 := pr_10.below b_11; have pr0_11 := pr_11.cell 0 _ rfl; have pr1_11 := pr_11.cell 1 _ rfl; have so_11 := so_10.below b_11; obtain ⟨so0_11, so1_11, so2_11, so3_11, so4_11, so5_11, so6_11, so7_11, so8_11, so9_11⟩ := mch_cells (v := ⟨.slice a0w m0.stack.length k0w, .slice a1w m0.mem.length k1w, .slice a2w m0.words.length k2w, .slice a3w m0.codes.length k3w, .slice a5w m0.tree.length k5w, .slice a7w m0.insts.length k7w⟩) (m := m0) (o := mo0) so_11; have sa_11 := sa_10.below b_11; obtain ⟨sa0_11, sa1_11, sa2_11, sa3_11, sa4_11, sa5_11, sa6_11, sa7_11, sa8_11, sa9_11⟩ := mch_cells (v := ⟨.slice a0x A.stack.length k0x, .slice a1x A.mem.length k1x, .slice a2x A.words.length k2x, .slice a3x A.codes.length k3x, .slice a5x A.tree.length k5x, .slice a7x A.insts.length k7x⟩) (m := A) (o := o3) sa_11; have sb_11 := sb_10.below b_11; obtain ⟨sb0_11, sb1_11, sb2_11, sb3_11, sb4_11, sb5_11, sb6_11, sb7_11, sb8_11, sb9_11⟩ := mch_cells (v := ⟨.slice a0z A.stack.length k0z, .slice a1z A.mem.length k1z, .slice a2z A.words.length k2z, .slice a3z A.codes.length k3z, .slice a5z A.tree.length k5z, .slice a7z A.insts.length k7z⟩) (m := A) (o := o4) sb_11))
      go_upto_region 13 with ((go_at_call 16; refine (c8 _ hT_11 t_11).mono ?_; rintro e q12 ⟨rfl, b_12⟩; have hT_12 := hT_11.below b_12; have t_12 := t_11.below b_12; have own_12 := own_11.below b_12; have p_12 := p_11.below b_12; have x_12 := x_11.below b_12; have st_12 := st_11.below b_12; obtain ⟨st0_12, st1_12, st2_12, st3_12, st4_12, st5_12, st6_12, st7_12, st8_12, st9_12⟩ := mch_cells st_12; have pr_12 := pr_11.below b_12; have pr0_12 := pr_12.cell 0 _ rfl; have pr1_12 := pr_12.cell 1 _ rfl; have so_12 := so_11.below b_12; obtain ⟨so0_12, so1_12, so2_12, so3_12, so4_12, so5_12, so6_12, so7_12, so8_12, so9_12⟩ := mch_cells (v := ⟨.slice a0w m0.stack.length k0w, .slice a1w m0.mem.length k1w, .slice a2w m0.words.length k2w, .slice a3w m0.codes.length k3w, .slice a5w m0.tree.length k5w, .slice a7w m0.insts.length k7w⟩) (m := m0) (o := mo0) so_12; have sa_12 := sa_11.below b_12; obtain ⟨sa0_12, sa1_12, sa2_12, sa3_12, sa4_12, sa5_12, sa6_12, sa7_12, sa8_12, sa9_12⟩ := mch_cells (v := ⟨.slice a0x A.stack.length k0x, .slice a1x A.mem.length k1x, .slice a2x A.words.length k2x, .slice a3x A.codes.length k3x, .slice a5x A.tree.length k5x, .slice a7x A.insts.length k7x⟩) (m := A) (o := o3) sa_12; have sb_12 := sb_11.below b_12; obtain ⟨sb0_12, sb1_12, sb2_12, sb3_12, sb4_12, sb5_12, sb6_12, sb7_12, sb8_12, sb9_12⟩ := mch_cells (v := ⟨.slice a0z A.stack.length k0z, .slice a1z A.mem.length k1z, .slice a2z A.words.length k2z, .slice a3z A.codes.length k3z, .slice a5z A.tree.length k5z, .slice a7z A.insts.length k7z⟩) (m := A) (o := o4) sb_12))
      go_wp2_with (go_at_call 18; refine (c9 _ _ _ hT_12 p_12).mono ?_; rintro e q13 ⟨rfl, b_13⟩; have hT_13 := hT_12.below b_13; have t_13 := t_12.below b_13; have own_13 := own_12.below b_13; have p_13 := p_12.below b_13; have x_13 := x_12.below b_13; have st_13 := st_12.below b_13; obtain ⟨st0_13, st1_13, st2_13, st3_13, st4_13, st5_13, st6_13, st7_13, st8_13, st9_13⟩ := mch_cells st_13; have pr_13 := pr_12.below b_13; have pr0_13 := pr_13.cell 0 _ rfl; have pr1_13 := pr_13.cell 1 _ rfl; have so_13 := so_12.below b_13; obtain ⟨so0_13, so1_13, so2_13, so3_13, so4_13, so5_13, so6_13, so7_13, so8_13, so9_13⟩ := mch_cells (v := ⟨.slice a0w m0.stack.length k0w, .slice a1w m0.mem.length k1w, .slice a2w m0.words.length k2w, .slice a3w m0.codes.length k3w, .slice a5w m0.tree.length k5w, .slice a7w m0.insts.length k7w⟩) (m := m0) (o := mo0) so_13; have sa_13 := sa_12.below b_13; obtain ⟨sa0_13, sa1_13, sa2_13, sa3_13, sa4_13, sa5_13, sa6_13, sa7_13, sa8_13, sa9_13⟩ := mch_cells (v := ⟨.slice a0x A.stack.length k0x, .slice a1x A.mem.length k1x, .slice a2x A.words.length k2x, .slice a3x A.codes.length k3x, .slice a5x A.tree.length k5x, .slice a7x A.insts.length k7x⟩) (m := A) (o := o3) sa_13; have sb_13 := sb_12.below b_13; obtain ⟨sb0_13, sb1_13, sb2_13, sb3_13, sb4_13, sb5_13, sb6_13, sb7_13, sb8_13, sb9_13⟩ := mch_cells (v := ⟨.slice a0z A.stack.length k0z, .slice a1z A.mem.length k1z, .slice a2z A.words.length k2z, .slice a3z A.codes.length k3z, .slice a5z A.tree.length k5z, .slice a7z A.insts.length k7z⟩) (m := A) (o := o4) sb_13)
      go_ret
      exact ⟨by simp, below_trans (below_trans (below_trans (below_trans (below_trans (below_trans (below_trans (below_trans (below_trans (below_trans (below_trans (below_trans (below_trans (bb) b_1) b_2) b_3) b_4) b_5) b_6) b_7) b_8) b_9) b_10) b_11) b_12) b_13⟩
    · have hx := ho hs
      simp only [hx] at c7
      obtain ⟨I, hI⟩ : ∃ I, cdI (codF m0.codes a2) = I := ⟨_, rfl⟩
      obtain ⟨B, hB⟩ : ∃ B, (codF m0.codes a2).isSome = B := ⟨_, rfl⟩
      simp only [hI, hB] at c7 c8
      have q2 : (a2 == a1_0) = false := by simpa using hs
      have q3 : (I == I) = true := beq_self_eq_true _
      have q4 : (B == B) = true := beq_self_eq_true _
      clear hfo hcb hco hf hc ho hx hI hB
      go_enter Try.func8, Try.ntmps8
      go_upto_region 1 with fail
      generalize (w.alloc (.cells (mv0.cs m0 mo0) 32)).alloc (.cells #[.int .i64 a1_0, .int .i64 a1_1] 56) = W0 at st_0 pr_0 t_0 hT_0 bb  ⊢
      obtain ⟨st0_0, st1_0, st2_0, st3_0, st4_0, st5_0, st6_0, st7_0, st8_0, st9_0⟩ := mch_cells st_0
      have pr0_0 := pr_0.cell 0 _ rfl
      have pr1_0 := pr_0.cell 1 _ rfl
      go_upto_region 4 with (first | (go_at_call 9; refine (w_alive9 _ hT_0).mono ?_; rintro e q1 ⟨rfl, b_1⟩; have hT_1 := hT_0.below b_1; have t_1 := t_0.below b_1; have st_1 := st_0.below b_1; obtain ⟨st0_1, st1_1, st2_1, st3_1, st4_1, st5_1, st6_1, st7_1, st8_1, st9_1⟩ := mch_cells st_1; have pr_1 := pr_0.below b_1; have pr0_1 := pr_1.cell 0 _ rfl; have pr1_1 := pr_1.cell 1 _ rfl) | (go_at_call 28; refine (c1 _ t_1).mono ?_; rintro e q2 ⟨v2, rfl, ow2, b_2⟩; have hT_2 := hT_1.below b_2; have t_2 := t_1.below b_2; have st_2 := st_1.below b_2; obtain ⟨st0_2, st1_2, st2_2, st3_2, st4_2, st5_2, st6_2, st7_2, st8_2, st9_2⟩ := mch_cells st_2; have pr_2 := pr_1.below b_2; have pr0_2 := pr_2.cell 0 _ rfl; have pr1_2 := pr_2.cell 1 _ rfl; have own_2 := ow2.read; obtain ⟨a0w, k0w, a1w, k1w, a2w, k2w, a3w, k3w, a5w, k5w, a7w, k7w, rfl⟩ := rdm_forms own_2; simp only [Mv.cs]))
      have so_3 := stands_new q2 #[.slice a0w m0.stack.length k0w, .slice a1w m0.mem.length k1w, .slice a2w m0.words.length k2w, .slice a3w m0.codes.length k3w, .int .u32 m0.base, .slice a5w m0.tree.length k5w, .int .i64 m0.node, .slice a7w m0.insts.length k7w, .int .i64 m0.self, .string mo0] 32
      have b_3 := box_below q2 (.cells #[.slice a0w m0.stack.length k0w, .slice a1w m0.mem.length k1w, .slice a2w m0.words.length k2w, .slice a3w m0.codes.length k3w, .int .u32 m0.base, .slice a5w m0.tree.length k5w, .int .i64 m0.node, .slice a7w m0.insts.length k7w, .int .i64 m0.self, .string mo0] 32)
      obtain ⟨Bso, hBso⟩ : ∃ B, q2.heap.size = B := ⟨_, rfl⟩
      rw [hBso] at so_3
      (try simp only [hBso])
      have hT_3 := hT_2.below b_3
      have t_3 := t_2.below b_3
      have own_3 := own_2.below b_3
      have st_3 := st_2.below b_3
      have pr_3 := pr_2.below b_3
      generalize q2.alloc (.cells #[.slice a0w m0.stack.length k0w, .slice a1w m0.mem.length k1w, .slice a2w m0.words.length k2w, .slice a3w m0.codes.length k3w, .int .u32 m0.base, .slice a5w m0.tree.length k5w, .int .i64 m0.node, .slice a7w m0.insts.length k7w, .int .i64 m0.self, .string mo0] 32) = q3 at hT_3 b_3 so_3 t_3 own_3 st_3 pr_3 ⊢
      obtain ⟨st0_3, st1_3, st2_3, st3_3, st4_3, st5_3, st6_3, st7_3, st8_3, st9_3⟩ := mch_cells st_3
      have pr0_3 := pr_3.cell 0 _ rfl
      have pr1_3 := pr_3.cell 1 _ rfl
      obtain ⟨so0_3, so1_3, so2_3, so3_3, so4_3, so5_3, so6_3, so7_3, so8_3, so9_3⟩ := mch_cells (v := ⟨.slice a0w m0.stack.length k0w, .slice a1w m0.mem.length k1w, .slice a2w m0.words.length k2w, .slice a3w m0.codes.length k3w, .slice a5w m0.tree.length k5w, .slice a7w m0.insts.length k7w⟩) (m := m0) (o := mo0) so_3
      go_upto_region 5 with ((go_at_call 31; refine (c2 _ _ hT_3 own_3).mono ?_; rintro e q4 ⟨v4, o3, rfl, p_4, b_4⟩; have hT_4 := hT_3.below b_4; have t_4 := t_3.below b_4; have own_4 := own_3.below b_4; have st_4 := st_3.below b_4; obtain ⟨st0_4, st1_4, st2_4, st3_4, st4_4, st5_4, st6_4, st7_4, st8_4, st9_4⟩ := mch_cells st_4; have pr_4 := pr_3.below b_4; have pr0_4 := pr_4.cell 0 _ rfl; have pr1_4 := pr_4.cell 1 _ rfl; have so_4 := so_3.below b_4; obtain ⟨so0_4, so1_4, so2_4, so3_4, so4_4, so5_4, so6_4, so7_4, so8_4, so9_4⟩ := mch_cells (v := ⟨.slice a0w m0.stack.length k0w, .slice a1w m0.mem.length k1w, .slice a2w m0.words.length k2w, .slice a3w m0.codes.length k3w, .slice a5w m0.tree.length k5w, .slice a7w m0.insts.length k7w⟩) (m := m0) (o := mo0) so_4; obtain ⟨a0x, k0x, a1x, k1x, a2x, k2x, a3x, k3x, a5x, k5x, a7x, k7x, rfl⟩ := rdm_forms p_4; simp only [Mv.cs]))
      have sa_5 := stands_new q4 #[.slice a0x A.stack.length k0x, .slice a1x A.mem.length k1x, .slice a2x A.words.length k2x, .slice a3x A.codes.length k3x, .int .u32 A.base, .slice a5x A.tree.length k5x, .int .i64 A.node, .slice a7x A.insts.length k7x, .int .i64 A.self, .string o3] 32
      have b_5 := box_below q4 (.cells #[.slice a0x A.stack.length k0x, .slice a1x A.mem.length k1x, .slice a2x A.words.length k2x, .slice a3x A.codes.length k3x, .int .u32 A.base, .slice a5x A.tree.length k5x, .int .i64 A.node, .slice a7x A.insts.length k7x, .int .i64 A.self, .string o3] 32)
      obtain ⟨Bsa, hBsa⟩ : ∃ B, q4.heap.size = B := ⟨_, rfl⟩
      rw [hBsa] at sa_5
      (try simp only [hBsa])
      have hT_5 := hT_4.below b_5
      have t_5 := t_4.below b_5
      have own_5 := own_4.below b_5
      have p_5 := p_4.below b_5
      have st_5 := st_4.below b_5
      have pr_5 := pr_4.below b_5
      have so_5 := so_4.below b_5
      generalize q4.alloc (.cells #[.slice a0x A.stack.length k0x, .slice a1x A.mem.length k1x, .slice a2x A.words.length k2x, .slice a3x A.codes.length k3x, .int .u32 A.base, .slice a5x A.tree.length k5x, .int .i64 A.node, .slice a7x A.insts.length k7x, .int .i64 A.self, .string o3] 32) = q5 at hT_5 b_5 sa_5 t_5 own_5 p_5 st_5 pr_5 so_5 ⊢
      obtain ⟨st0_5, st1_5, st2_5, st3_5, st4_5, st5_5, st6_5, st7_5, st8_5, st9_5⟩ := mch_cells st_5
      have pr0_5 := pr_5.cell 0 _ rfl
      have pr1_5 := pr_5.cell 1 _ rfl
      obtain ⟨so0_5, so1_5, so2_5, so3_5, so4_5, so5_5, so6_5, so7_5, so8_5, so9_5⟩ := mch_cells (v := ⟨.slice a0w m0.stack.length k0w, .slice a1w m0.mem.length k1w, .slice a2w m0.words.length k2w, .slice a3w m0.codes.length k3w, .slice a5w m0.tree.length k5w, .slice a7w m0.insts.length k7w⟩) (m := m0) (o := mo0) so_5
      obtain ⟨sa0_5, sa1_5, sa2_5, sa3_5, sa4_5, sa5_5, sa6_5, sa7_5, sa8_5, sa9_5⟩ := mch_cells (v := ⟨.slice a0x A.stack.length k0x, .slice a1x A.mem.length k1x, .slice a2x A.words.length k2x, .slice a3x A.codes.length k3x, .slice a5x A.tree.length k5x, .slice a7x A.insts.length k7x⟩) (m := A) (o := o3) sa_5
      go_upto_region 6 with ((go_at_call 32; refine (c3 _ t_5).mono ?_; rintro e q6 ⟨v6, o4, rfl, ow6, b_6⟩; have hT_6 := hT_5.below b_6; have t_6 := t_5.below b_6; have own_6 := own_5.below b_6; have p_6 := p_5.below b_6; have st_6 := st_5.below b_6; obtain ⟨st0_6, st1_6, st2_6, st3_6, st4_6, st5_6, st6_6, st7_6, st8_6, st9_6⟩ := mch_cells st_6; have pr_6 := pr_5.below b_6; have pr0_6 := pr_6.cell 0 _ rfl; have pr1_6 := pr_6.cell 1 _ rfl; have so_6 := so_5.below b_6; obtain ⟨so0_6, so1_6, so2_6, so3_6, so4_6, so5_6, so6_6, so7_6, so8_6, so9_6⟩ := mch_cells (v := ⟨.slice a0w m0.stack.length k0w, .slice a1w m0.mem.length k1w, .slice a2w m0.words.length k2w, .slice a3w m0.codes.length k3w, .slice a5w m0.tree.length k5w, .slice a7w m0.insts.length k7w⟩) (m := m0) (o := mo0) so_6; have sa_6 := sa_5.below b_6; obtain ⟨sa0_6, sa1_6, sa2_6, sa3_6, sa4_6, sa5_6, sa6_6, sa7_6, sa8_6, sa9_6⟩ := mch_cells (v := ⟨.slice a0x A.stack.length k0x, .slice a1x A.mem.length k1x, .slice a2x A.words.length k2x, .slice a3x A.codes.length k3x, .slice a5x A.tree.length k5x, .slice a7x A.insts.length k7x⟩) (m := A) (o := o3) sa_6; have x_6 := ow6.read; obtain ⟨a0z, k0z, a1z, k1z, a2z, k2z, a3z, k3z, a5z, k5z, a7z, k7z, rfl⟩ := rdm_forms x_6; simp only [Mv.cs]))
      have sb_7 := stands_new q6 #[.slice a0z A.stack.length k0z, .slice a1z A.mem.length k1z, .slice a2z A.words.length k2z, .slice a3z A.codes.length k3z, .int .u32 A.base, .slice a5z A.tree.length k5z, .int .i64 A.node, .slice a7z A.insts.length k7z, .int .i64 A.self, .string o4] 32
      have b_7 := box_below q6 (.cells #[.slice a0z A.stack.length k0z, .slice a1z A.mem.length k1z, .slice a2z A.words.length k2z, .slice a3z A.codes.length k3z, .int .u32 A.base, .slice a5z A.tree.length k5z, .int .i64 A.node, .slice a7z A.insts.length k7z, .int .i64 A.self, .string o4] 32)
      obtain ⟨Bsb, hBsb⟩ : ∃ B, q6.heap.size = B := ⟨_, rfl⟩
      rw [hBsb] at sb_7
      (try simp only [hBsb])
      have hT_7 := hT_6.below b_7
      have t_7 := t_6.below b_7
      have own_7 := own_6.below b_7
      have p_7 := p_6.below b_7
      have x_7 := x_6.below b_7
      have st_7 := st_6.below b_7
      have pr_7 := pr_6.below b_7
      have so_7 := so_6.below b_7
      have sa_7 := sa_6.below b_7
      generalize q6.alloc (.cells #[.slice a0z A.stack.length k0z, .slice a1z A.mem.length k1z, .slice a2z A.words.length k2z, .slice a3z A.codes.length k3z, .int .u32 A.base, .slice a5z A.tree.length k5z, .int .i64 A.node, .slice a7z A.insts.length k7z, .int .i64 A.self, .string o4] 32) = q7 at hT_7 b_7 sb_7 t_7 own_7 p_7 x_7 st_7 pr_7 so_7 sa_7 ⊢
      obtain ⟨st0_7, st1_7, st2_7, st3_7, st4_7, st5_7, st6_7, st7_7, st8_7, st9_7⟩ := mch_cells st_7
      have pr0_7 := pr_7.cell 0 _ rfl
      have pr1_7 := pr_7.cell 1 _ rfl
      obtain ⟨so0_7, so1_7, so2_7, so3_7, so4_7, so5_7, so6_7, so7_7, so8_7, so9_7⟩ := mch_cells (v := ⟨.slice a0w m0.stack.length k0w, .slice a1w m0.mem.length k1w, .slice a2w m0.words.length k2w, .slice a3w m0.codes.length k3w, .slice a5w m0.tree.length k5w, .slice a7w m0.insts.length k7w⟩) (m := m0) (o := mo0) so_7
      obtain ⟨sa0_7, sa1_7, sa2_7, sa3_7, sa4_7, sa5_7, sa6_7, sa7_7, sa8_7, sa9_7⟩ := mch_cells (v := ⟨.slice a0x A.stack.length k0x, .slice a1x A.mem.length k1x, .slice a2x A.words.length k2x, .slice a3x A.codes.length k3x, .slice a5x A.tree.length k5x, .slice a7x A.insts.length k7x⟩) (m := A) (o := o3) sa_7
      obtain ⟨sb0_7, sb1_7, sb2_7, sb3_7, sb4_7, sb5_7, sb6_7, sb7_7, sb8_7, sb9_7⟩ := mch_cells (v := ⟨.slice a0z A.stack.length k0z, .slice a1z A.mem.length k1z, .slice a2z A.words.length k2z, .slice a3z A.codes.length k3z, .slice a5z A.tree.length k5z, .slice a7z A.insts.length k7z⟩) (m := A) (o := o4) sb_7
      go_wp2_with (go_at_call_of 10 (Value.agg #[.slice a0x A.stack.length k0x, .slice a1x A.mem.length k1x, .slice a2x A.words.length k2x, .slice a3x A.codes.length k3x, .int .u32 A.base, .slice a5x A.tree.length k5x, .int .i64 A.node, .slice a7x A.insts.length k7x, .int .i64 A.self, .string o3]); refine (c4 _ _ _ _ _ p_7 x_7).mono ?_; rintro e q8 ⟨rfl, b_8⟩; have hT_8 := hT_7.below b_8; have t_8 := t_7.below b_8; have own_8 := own_7.below b_8; have p_8 := p_7.below b_8; have x_8 := x_7.below b_8; have st_8 := st_7.below b_8; obtain ⟨st0_8, st1_8, st2_8, st3_8, st4_8, st5_8, st6_8, st7_8, st8_8, st9_8⟩ := mch_cells st_8; have pr_8 := pr_7.below b_8; have pr0_8 := pr_8.cell 0 _ rfl; have pr1_8 := pr_8.cell 1 _ rfl; have so_8 := so_7.below b_8; obtain ⟨so0_8, so1_8, so2_8, so3_8, so4_8, so5_8, so6_8, so7_8, so8_8, so9_8⟩ := mch_cells (v := ⟨.slice a0w m0.stack.length k0w, .slice a1w m0.mem.length k1w, .slice a2w m0.words.length k2w, .slice a3w m0.codes.length k3w, .slice a5w m0.tree.length k5w, .slice a7w m0.insts.length k7w⟩) (m := m0) (o := mo0) so_8; have sa_8 := sa_7.below b_8; obtain ⟨sa0_8, sa1_8, sa2_8, sa3_8, sa4_8, sa5_8, sa6_8, sa7_8, sa8_8, sa9_8⟩ := mch_cells (v := ⟨.slice a0x A.stack.length k0x, .slice a1x A.mem.length k1x, .slice a2x A.words.length k2x, .slice a3x A.codes.length k3x, .slice a5x A.tree.length k5x, .slice a7x A.insts.length k7x⟩) (m := A) (o := o3) sa_8; have sb_8 := sb_7.below b_8; obtain ⟨sb0_8, sb1_8, sb2_8, sb3_8, sb4_8, sb5_8, sb6_8, sb7_8, sb8_8, sb9_8⟩ := mch_cells (v := ⟨.slice a0z A.stack.length k0z, .slice a1z A.mem.length k1z, .slice a2z A.words.length k2z, .slice a3z A.codes.length k3z, .slice a5z A.tree.length k5z, .slice a7z A.insts.length k7z⟩) (m := A) (o := o4) sb_8)
      go_wp2_with (go_at_call_of 10 (Value.agg #[.slice a0w m0.stack.length k0w, .slice a1w m0.mem.length k1w, .slice a2w m0.words.length k2w, .slice a3w m0.codes.length k3w, .int .u32 m0.base, .slice a5w m0.tree.length k5w, .int .i64 m0.node, .slice a7w m0.insts.length k7w, .int .i64 m0.self, .string mo0]); refine (c5 _ _ own_8 t_8).mono ?_; rintro e q9 ⟨rfl, b_9⟩; have hT_9 := hT_8.below b_9; have t_9 := t_8.below b_9; have own_9 := own_8.below b_9; have p_9 := p_8.below b_9; have x_9 := x_8.below b_9; have st_9 := st_8.below b_9; obtain ⟨st0_9, st1_9, st2_9, st3_9, st4_9, st5_9, st6_9, st7_9, st8_9, st9_9⟩ := mch_cells st_9; have pr_9 := pr_8.below b_9; have pr0_9 := pr_9.cell 0 _ rfl; have pr1_9 := pr_9.cell 1 _ rfl; have so_9 := so_8.below b_9; obtain ⟨so0_9, so1_9, so2_9, so3_9, so4_9, so5_9, so6_9, so7_9, so8_9, so9_9⟩ := mch_cells (v := ⟨.slice a0w m0.stack.length k0w, .slice a1w m0.mem.length k1w, .slice a2w m0.words.length k2w, .slice a3w m0.codes.length k3w, .slice a5w m0.tree.length k5w, .slice a7w m0.insts.length k7w⟩) (m := m0) (o := mo0) so_9; have sa_9 := sa_8.below b_9; obtain ⟨sa0_9, sa1_9, sa2_9, sa3_9, sa4_9, sa5_9, sa6_9, sa7_9, sa8_9, sa9_9⟩ := mch_cells (v := ⟨.slice a0x A.stack.length k0x, .slice a1x A.mem.length k1x, .slice a2x A.words.length k2x, .slice a3x A.codes.length k3x, .slice a5x A.tree.length k5x, .slice a7x A.insts.length k7x⟩) (m := A) (o := o3) sa_9; have sb_9 := sb_8.below b_9; obtain ⟨sb0_9, sb1_9, sb2_9, sb3_9, sb4_9, sb5_9, sb6_9, sb7_9, sb8_9, sb9_9⟩ := mch_cells (v := ⟨.slice a0z A.stack.length k0z, .slice a1z A.mem.length k1z, .slice a2z A.words.length k2z, .slice a3z A.codes.length k3z, .slice a5z A.tree.length k5z, .slice a7z A.insts.length k7z⟩) (m := A) (o := o4) sb_9)
      go_upto_region 11 with ((go_at_call 16; refine (c6 _ _ _ hT_9 p_9).mono ?_; rintro e q10 ⟨rfl, b_10⟩; have hT_10 := hT_9.below b_10; have t_10 := t_9.below b_10; have own_10 := own_9.below b_10; have p_10 := p_9.below b_10; have x_10 := x_9.below b_10; have st_10 := st_9.below b_10; obtain ⟨st0_10, st1_10, st2_10, st3_10, st4_10, st5_10, st6_10, st7_10, st8_10, st9_10⟩ := mch_cells st_10; have pr_10 := pr_9.below b_10; have pr0_10 := pr_10.cell 0 _ rfl; have pr1_10 := pr_10.cell 1 _ rfl; have so_10 := so_9.below b_10; obtain ⟨so0_10, so1_10, so2_10, so3_10, so4_10, so5_10, so6_10, so7_10, so8_10, so9_10⟩ := mch_cells (v := ⟨.slice a0w m0.stack.length k0w, .slice a1w m0.mem.length k1w, .slice a2w m0.words.length k2w, .slice a3w m0.codes.length k3w, .slice a5w m0.tree.length k5w, .slice a7w m0.insts.length k7w⟩) (m := m0) (o := mo0) so_10; have sa_10 := sa_9.below b_10; obtain ⟨sa0_10, sa1_10, sa2_10, sa3_10, sa4_10, sa5_10, sa6_10, sa7_10, sa8_10, sa9_10⟩ := mch_cells (v := ⟨.slice a0x A.stack.length k0x, .slice a1x A.mem.length k1x, .slice a2x A.words.length k2x, .slice a3x A.codes.length k3x, .slice a5x A.tree.length k5x, .slice a7x A.insts.length k7x⟩) (m := A) (o := o3) sa_10; have sb_10 := sb_9.below b_10; obtain ⟨sb0_10, sb1_10, sb2_10, sb3_10, sb4_10, sb5_10, sb6_10, sb7_10, sb8_10, sb9_10⟩ := mch_cells (v := ⟨.slice a0z A.stack.length k0z, .slice a1z A.mem.length k1z, .slice a2z A.words.length k2z, .slice a3z A.codes.length k3z, .slice a5z A.tree.length k5z, .slice a7z A.insts.length k7z⟩) (m := A) (o := o4) sb_10))
      go_upto_region 12 with ((go_at_call 16; refine (c7 _ _ _ hT_10 p_10).mono ?_; rintro e q11 ⟨rfl, b_11⟩; have hT_11 := hT_10.below b_11; have t_11 := t_10.below b_11; have own_11 := own_10.below b_11; have p_11 := p_10.below b_11; have x_11 := x_10.below b_11; have st_11 := st_10.below b_11; obtain ⟨st0_11, st1_11, st2_11, st3_11, st4_11, st5_11, st6_11, st7_11, st8_11, st9_11⟩ := mch_cells st_11; have pr_11 := pr_10.below b_11; have pr0_11 := pr_11.cell 0 _ rfl; have pr1_11 := pr_11.cell 1 _ rfl; have so_11 := so_10.below b_11; obtain ⟨so0_11, so1_11, so2_11, so3_11, so4_11, so5_11, so6_11, so7_11, so8_11, so9_11⟩ := mch_cells (v := ⟨.slice a0w m0.stack.length k0w, .slice a1w m0.mem.length k1w, .slice a2w m0.words.length k2w, .slice a3w m0.codes.length k3w, .slice a5w m0.tree.length k5w, .slice a7w m0.insts.length k7w⟩) (m := m0) (o := mo0) so_11; have sa_11 := sa_10.below b_11; obtain ⟨sa0_11, sa1_11, sa2_11, sa3_11, sa4_11, sa5_11, sa6_11, sa7_11, sa8_11, sa9_11⟩ := mch_cells (v := ⟨.slice a0x A.stack.length k0x, .slice a1x A.mem.length k1x, .slice a2x A.words.length k2x, .slice a3x A.codes.length k3x, .slice a5x A.tree.length k5x, .slice a7x A.insts.length k7x⟩) (m := A) (o := o3) sa_11; have sb_11 := sb_10.below b_11; obtain ⟨sb0_11, sb1_11, sb2_11, sb3_11, sb4_11, sb5_11, sb6_11, sb7_11, sb8_11, sb9_11⟩ := mch_cells (v := ⟨.slice a0z A.stack.length k0z, .slice a1z A.mem.length k1z, .slice a2z A.words.length k2z, .slice a3z A.codes.length k3z, .slice a5z A.tree.length k5z, .slice a7z A.insts.length k7z⟩) (m := A) (o := o4) sb_11))
      go_upto_region 13 with ((go_at_call 16; refine (c8 _ hT_11 t_11).mono ?_; rintro e q12 ⟨rfl, b_12⟩; have hT_12 := hT_11.below b_12; have t_12 := t_11.below b_12; have own_12 := own_11.below b_12; have p_12 := p_11.below b_12; have x_12 := x_11.below b_12; have st_12 := st_11.below b_12; obtain ⟨st0_12, st1_12, st2_12, st3_12, st4_12, st5_12, st6_12, st7_12, st8_12, st9_12⟩ := mch_cells st_12; have pr_12 := pr_11.below b_12; have pr0_12 := pr_12.cell 0 _ rfl; have pr1_12 := pr_12.cell 1 _ rfl; have so_12 := so_11.below b_12; obtain ⟨so0_12, so1_12, so2_12, so3_12, so4_12, so5_12, so6_12, so7_12, so8_12, so9_12⟩ := mch_cells (v := ⟨.slice a0w m0.stack.length k0w, .slice a1w m0.mem.length k1w, .slice a2w m0.words.length k2w, .slice a3w m0.codes.length k3w, .slice a5w m0.tree.length k5w, .slice a7w m0.insts.length k7w⟩) (m := m0) (o := mo0) so_12; have sa_12 := sa_11.below b_12; obtain ⟨sa0_12, sa1_12, sa2_12, sa3_12, sa4_12, sa5_12, sa6_12, sa7_12, sa8_12, sa9_12⟩ := mch_cells (v := ⟨.slice a0x A.stack.length k0x, .slice a1x A.mem.length k1x, .slice a2x A.words.length k2x, .slice a3x A.codes.length k3x, .slice a5x A.tree.length k5x, .slice a7x A.insts.length k7x⟩) (m := A) (o := o3) sa_12; have sb_12 := sb_11.below b_12; obtain ⟨sb0_12, sb1_12, sb2_12, sb3_12, sb4_12, sb5_12, sb6_12, sb7_12, sb8_12, sb9_12⟩ := mch_cells (v := ⟨.slice a0z A.stack.length k0z, .slice a1z A.mem.length k1z, .slice a2z A.words.length k2z, .slice a3z A.codes.length k3z, .slice a5z A.tree.length k5z, .slice a7z A.insts.length k7z⟩) (m := A) (o := o4) sb_12))
      go_wp2_with (go_at_call 18; refine (c9 _ _ _ hT_12 p_12).mono ?_; rintro e q13 ⟨rfl, b_13⟩; have hT_13 := hT_12.below b_13; have t_13 := t_12.below b_13; have own_13 := own_12.below b_13; have p_13 := p_12.below b_13; have x_13 := x_12.below b_13; have st_13 := st_12.below b_13; obtain ⟨st0_13, st1_13, st2_13, st3_13, st4_13, st5_13, st6_13, st7_13, st8_13, st9_13⟩ := mch_cells st_13; have pr_13 := pr_12.below b_13; have pr0_13 := pr_13.cell 0 _ rfl; have pr1_13 := pr_13.cell 1 _ rfl; have so_13 := so_12.below b_13; obtain ⟨so0_13, so1_13, so2_13, so3_13, so4_13, so5_13, so6_13, so7_13, so8_13, so9_13⟩ := mch_cells (v := ⟨.slice a0w m0.stack.length k0w, .slice a1w m0.mem.length k1w, .slice a2w m0.words.length k2w, .slice a3w m0.codes.length k3w, .slice a5w m0.tree.length k5w, .slice a7w m0.insts.length k7w⟩) (m := m0) (o := mo0) so_13; have sa_13 := sa_12.below b_13; obtain ⟨sa0_13, sa1_13, sa2_13, sa3_13, sa4_13, sa5_13, sa6_13, sa7_13, sa8_13, sa9_13⟩ := mch_cells (v := ⟨.slice a0x A.stack.length k0x, .slice a1x A.mem.length k1x, .slice a2x A.words.length k2x, .slice a3x A.codes.length k3x, .slice a5x A.tree.length k5x, .slice a7x A.insts.length k7x⟩) (m := A) (o := o3) sa_13; have sb_13 := sb_12.below b_13; obtain ⟨sb0_13, sb1_13, sb2_13, sb3_13, sb4_13, sb5_13, sb6_13, sb7_13, sb8_13, sb9_13⟩ := mch_cells (v := ⟨.slice a0z A.stack.length k0z, .slice a1z A.mem.length k1z, .slice a2z A.words.length k2z, .slice a3z A.codes.length k3z, .slice a5z A.tree.length k5z, .slice a7z A.insts.length k7z⟩) (m := A) (o := o4) sb_13)
      go_ret
      exact ⟨by simp, below_trans (below_trans (below_trans (below_trans (below_trans (below_trans (below_trans (below_trans (below_trans (below_trans (below_trans (below_trans (below_trans (bb) b_1) b_2) b_3) b_4) b_5) b_6) b_7) b_8) b_9) b_10) b_11) b_12) b_13⟩
  · have qE : (E == 0) = false := by simpa using hE
    have qN : (E != 0) = true := by simpa using hE
    clear hfo hcb hco
    go_enter Try.func8, Try.ntmps8
    go_upto_region 1 with fail
    generalize (w.alloc (.cells (mv0.cs m0 mo0) 32)).alloc (.cells #[.int .i64 a1_0, .int .i64 a1_1] 56) = W0 at st_0 pr_0 t_0 hT_0 bb  ⊢
    obtain ⟨st0_0, st1_0, st2_0, st3_0, st4_0, st5_0, st6_0, st7_0, st8_0, st9_0⟩ := mch_cells st_0
    have pr0_0 := pr_0.cell 0 _ rfl
    have pr1_0 := pr_0.cell 1 _ rfl
    go_upto_region 4 with (first | (go_at_call 9; refine (w_alive9 _ hT_0).mono ?_; rintro e q1 ⟨rfl, b_1⟩; have hT_1 := hT_0.below b_1; have t_1 := t_0.below b_1; have st_1 := st_0.below b_1; obtain ⟨st0_1, st1_1, st2_1, st3_1, st4_1, st5_1, st6_1, st7_1, st8_1, st9_1⟩ := mch_cells st_1; have pr_1 := pr_0.below b_1; have pr0_1 := pr_1.cell 0 _ rfl; have pr1_1 := pr_1.cell 1 _ rfl) | (go_at_call 28; refine (c1 _ t_1).mono ?_; rintro e q2 ⟨v2, rfl, ow2, b_2⟩; have hT_2 := hT_1.below b_2; have t_2 := t_1.below b_2; have st_2 := st_1.below b_2; obtain ⟨st0_2, st1_2, st2_2, st3_2, st4_2, st5_2, st6_2, st7_2, st8_2, st9_2⟩ := mch_cells st_2; have pr_2 := pr_1.below b_2; have pr0_2 := pr_2.cell 0 _ rfl; have pr1_2 := pr_2.cell 1 _ rfl; have own_2 := ow2.read; obtain ⟨a0w, k0w, a1w, k1w, a2w, k2w, a3w, k3w, a5w, k5w, a7w, k7w, rfl⟩ := rdm_forms own_2; simp only [Mv.cs]))
    have so_3 := stands_new q2 #[.slice a0w m0.stack.length k0w, .slice a1w m0.mem.length k1w, .slice a2w m0.words.length k2w, .slice a3w m0.codes.length k3w, .int .u32 m0.base, .slice a5w m0.tree.length k5w, .int .i64 m0.node, .slice a7w m0.insts.length k7w, .int .i64 m0.self, .string mo0] 32
    have b_3 := box_below q2 (.cells #[.slice a0w m0.stack.length k0w, .slice a1w m0.mem.length k1w, .slice a2w m0.words.length k2w, .slice a3w m0.codes.length k3w, .int .u32 m0.base, .slice a5w m0.tree.length k5w, .int .i64 m0.node, .slice a7w m0.insts.length k7w, .int .i64 m0.self, .string mo0] 32)
    obtain ⟨Bso, hBso⟩ : ∃ B, q2.heap.size = B := ⟨_, rfl⟩
    rw [hBso] at so_3
    (try simp only [hBso])
    have hT_3 := hT_2.below b_3
    have t_3 := t_2.below b_3
    have own_3 := own_2.below b_3
    have st_3 := st_2.below b_3
    have pr_3 := pr_2.below b_3
    generalize q2.alloc (.cells #[.slice a0w m0.stack.length k0w, .slice a1w m0.mem.length k1w, .slice a2w m0.words.length k2w, .slice a3w m0.codes.length k3w, .int .u32 m0.base, .slice a5w m0.tree.length k5w, .int .i64 m0.node, .slice a7w m0.insts.length k7w, .int .i64 m0.self, .string mo0] 32) = q3 at hT_3 b_3 so_3 t_3 own_3 st_3 pr_3 ⊢
    obtain ⟨st0_3, st1_3, st2_3, st3_3, st4_3, st5_3, st6_3, st7_3, st8_3, st9_3⟩ := mch_cells st_3
    have pr0_3 := pr_3.cell 0 _ rfl
    have pr1_3 := pr_3.cell 1 _ rfl
    obtain ⟨so0_3, so1_3, so2_3, so3_3, so4_3, so5_3, so6_3, so7_3, so8_3, so9_3⟩ := mch_cells (v := ⟨.slice a0w m0.stack.length k0w, .slice a1w m0.mem.length k1w, .slice a2w m0.words.length k2w, .slice a3w m0.codes.length k3w, .slice a5w m0.tree.length k5w, .slice a7w m0.insts.length k7w⟩) (m := m0) (o := mo0) so_3
    go_upto_region 5 with ((go_at_call 31; refine (c2 _ _ hT_3 own_3).mono ?_; rintro e q4 ⟨v4, o3, rfl, p_4, b_4⟩; have hT_4 := hT_3.below b_4; have t_4 := t_3.below b_4; have own_4 := own_3.below b_4; have st_4 := st_3.below b_4; obtain ⟨st0_4, st1_4, st2_4, st3_4, st4_4, st5_4, st6_4, st7_4, st8_4, st9_4⟩ := mch_cells st_4; have pr_4 := pr_3.below b_4; have pr0_4 := pr_4.cell 0 _ rfl; have pr1_4 := pr_4.cell 1 _ rfl; have so_4 := so_3.below b_4; obtain ⟨so0_4, so1_4, so2_4, so3_4, so4_4, so5_4, so6_4, so7_4, so8_4, so9_4⟩ := mch_cells (v := ⟨.slice a0w m0.stack.length k0w, .slice a1w m0.mem.length k1w, .slice a2w m0.words.length k2w, .slice a3w m0.codes.length k3w, .slice a5w m0.tree.length k5w, .slice a7w m0.insts.length k7w⟩) (m := m0) (o := mo0) so_4; obtain ⟨a0x, k0x, a1x, k1x, a2x, k2x, a3x, k3x, a5x, k5x, a7x, k7x, rfl⟩ := rdm_forms p_4; simp only [Mv.cs]))
    have sa_5 := stands_new q4 #[.slice a0x A.stack.length k0x, .slice a1x A.mem.length k1x, .slice a2x A.words.length k2x, .slice a3x A.codes.length k3x, .int .u32 A.base, .slice a5x A.tree.length k5x, .int .i64 A.node, .slice a7x A.insts.length k7x, .int .i64 A.self, .string o3] 32
    have b_5 := box_below q4 (.cells #[.slice a0x A.stack.length k0x, .slice a1x A.mem.length k1x, .slice a2x A.words.length k2x, .slice a3x A.codes.length k3x, .int .u32 A.base, .slice a5x A.tree.length k5x, .int .i64 A.node, .slice a7x A.insts.length k7x, .int .i64 A.self, .string o3] 32)
    obtain ⟨Bsa, hBsa⟩ : ∃ B, q4.heap.size = B := ⟨_, rfl⟩
    rw [hBsa] at sa_5
    (try simp only [hBsa])
    have hT_5 := hT_4.below b_5
    have t_5 := t_4.below b_5
    have own_5 := own_4.below b_5
    have p_5 := p_4.below b_5
    have st_5 := st_4.below b_5
    have pr_5 := pr_4.below b_5
    have so_5 := so_4.below b_5
    generalize q4.alloc (.cells #[.slice a0x A.stack.length k0x, .slice a1x A.mem.length k1x, .slice a2x A.words.length k2x, .slice a3x A.codes.length k3x, .int .u32 A.base, .slice a5x A.tree.length k5x, .int .i64 A.node, .slice a7x A.insts.length k7x, .int .i64 A.self, .string o3] 32) = q5 at hT_5 b_5 sa_5 t_5 own_5 p_5 st_5 pr_5 so_5 ⊢
    obtain ⟨st0_5, st1_5, st2_5, st3_5, st4_5, st5_5, st6_5, st7_5, st8_5, st9_5⟩ := mch_cells st_5
    have pr0_5 := pr_5.cell 0 _ rfl
    have pr1_5 := pr_5.cell 1 _ rfl
    obtain ⟨so0_5, so1_5, so2_5, so3_5, so4_5, so5_5, so6_5, so7_5, so8_5, so9_5⟩ := mch_cells (v := ⟨.slice a0w m0.stack.length k0w, .slice a1w m0.mem.length k1w, .slice a2w m0.words.length k2w, .slice a3w m0.codes.length k3w, .slice a5w m0.tree.length k5w, .slice a7w m0.insts.length k7w⟩) (m := m0) (o := mo0) so_5
    obtain ⟨sa0_5, sa1_5, sa2_5, sa3_5, sa4_5, sa5_5, sa6_5, sa7_5, sa8_5, sa9_5⟩ := mch_cells (v := ⟨.slice a0x A.stack.length k0x, .slice a1x A.mem.length k1x, .slice a2x A.words.length k2x, .slice a3x A.codes.length k3x, .slice a5x A.tree.length k5x, .slice a7x A.insts.length k7x⟩) (m := A) (o := o3) sa_5
    go_upto_region 6 with ((go_at_call 32; refine (c3 _ t_5).mono ?_; rintro e q6 ⟨v6, o4, rfl, ow6, b_6⟩; have hT_6 := hT_5.below b_6; have t_6 := t_5.below b_6; have own_6 := own_5.below b_6; have p_6 := p_5.below b_6; have st_6 := st_5.below b_6; obtain ⟨st0_6, st1_6, st2_6, st3_6, st4_6, st5_6, st6_6, st7_6, st8_6, st9_6⟩ := mch_cells st_6; have pr_6 := pr_5.below b_6; have pr0_6 := pr_6.cell 0 _ rfl; have pr1_6 := pr_6.cell 1 _ rfl; have so_6 := so_5.below b_6; obtain ⟨so0_6, so1_6, so2_6, so3_6, so4_6, so5_6, so6_6, so7_6, so8_6, so9_6⟩ := mch_cells (v := ⟨.slice a0w m0.stack.length k0w, .slice a1w m0.mem.length k1w, .slice a2w m0.words.length k2w, .slice a3w m0.codes.length k3w, .slice a5w m0.tree.length k5w, .slice a7w m0.insts.length k7w⟩) (m := m0) (o := mo0) so_6; have sa_6 := sa_5.below b_6; obtain ⟨sa0_6, sa1_6, sa2_6, sa3_6, sa4_6, sa5_6, sa6_6, sa7_6, sa8_6, sa9_6⟩ := mch_cells (v := ⟨.slice a0x A.stack.length k0x, .slice a1x A.mem.length k1x, .slice a2x A.words.length k2x, .slice a3x A.codes.length k3x, .slice a5x A.tree.length k5x, .slice a7x A.insts.length k7x⟩) (m := A) (o := o3) sa_6; have x_6 := ow6.read; obtain ⟨a0z, k0z, a1z, k1z, a2z, k2z, a3z, k3z, a5z, k5z, a7z, k7z, rfl⟩ := rdm_forms x_6; simp only [Mv.cs]))
    have sb_7 := stands_new q6 #[.slice a0z A.stack.length k0z, .slice a1z A.mem.length k1z, .slice a2z A.words.length k2z, .slice a3z A.codes.length k3z, .int .u32 A.base, .slice a5z A.tree.length k5z, .int .i64 A.node, .slice a7z A.insts.length k7z, .int .i64 A.self, .string o4] 32
    have b_7 := box_below q6 (.cells #[.slice a0z A.stack.length k0z, .slice a1z A.mem.length k1z, .slice a2z A.words.length k2z, .slice a3z A.codes.length k3z, .int .u32 A.base, .slice a5z A.tree.length k5z, .int .i64 A.node, .slice a7z A.insts.length k7z, .int .i64 A.self, .string o4] 32)
    obtain ⟨Bsb, hBsb⟩ : ∃ B, q6.heap.size = B := ⟨_, rfl⟩
    rw [hBsb] at sb_7
    (try simp only [hBsb])
    have hT_7 := hT_6.below b_7
    have t_7 := t_6.below b_7
    have own_7 := own_6.below b_7
    have p_7 := p_6.below b_7
    have x_7 := x_6.below b_7
    have st_7 := st_6.below b_7
    have pr_7 := pr_6.below b_7
    have so_7 := so_6.below b_7
    have sa_7 := sa_6.below b_7
    generalize q6.alloc (.cells #[.slice a0z A.stack.length k0z, .slice a1z A.mem.length k1z, .slice a2z A.words.length k2z, .slice a3z A.codes.length k3z, .int .u32 A.base, .slice a5z A.tree.length k5z, .int .i64 A.node, .slice a7z A.insts.length k7z, .int .i64 A.self, .string o4] 32) = q7 at hT_7 b_7 sb_7 t_7 own_7 p_7 x_7 st_7 pr_7 so_7 sa_7 ⊢
    obtain ⟨st0_7, st1_7, st2_7, st3_7, st4_7, st5_7, st6_7, st7_7, st8_7, st9_7⟩ := mch_cells st_7
    have pr0_7 := pr_7.cell 0 _ rfl
    have pr1_7 := pr_7.cell 1 _ rfl
    obtain ⟨so0_7, so1_7, so2_7, so3_7, so4_7, so5_7, so6_7, so7_7, so8_7, so9_7⟩ := mch_cells (v := ⟨.slice a0w m0.stack.length k0w, .slice a1w m0.mem.length k1w, .slice a2w m0.words.length k2w, .slice a3w m0.codes.length k3w, .slice a5w m0.tree.length k5w, .slice a7w m0.insts.length k7w⟩) (m := m0) (o := mo0) so_7
    obtain ⟨sa0_7, sa1_7, sa2_7, sa3_7, sa4_7, sa5_7, sa6_7, sa7_7, sa8_7, sa9_7⟩ := mch_cells (v := ⟨.slice a0x A.stack.length k0x, .slice a1x A.mem.length k1x, .slice a2x A.words.length k2x, .slice a3x A.codes.length k3x, .slice a5x A.tree.length k5x, .slice a7x A.insts.length k7x⟩) (m := A) (o := o3) sa_7
    obtain ⟨sb0_7, sb1_7, sb2_7, sb3_7, sb4_7, sb5_7, sb6_7, sb7_7, sb8_7, sb9_7⟩ := mch_cells (v := ⟨.slice a0z A.stack.length k0z, .slice a1z A.mem.length k1z, .slice a2z A.words.length k2z, .slice a3z A.codes.length k3z, .slice a5z A.tree.length k5z, .slice a7z A.insts.length k7z⟩) (m := A) (o := o4) sb_7
    go_wp2_with (go_at_call_of 10 (Value.agg #[.slice a0x A.stack.length k0x, .slice a1x A.mem.length k1x, .slice a2x A.words.length k2x, .slice a3x A.codes.length k3x, .int .u32 A.base, .slice a5x A.tree.length k5x, .int .i64 A.node, .slice a7x A.insts.length k7x, .int .i64 A.self, .string o3]); refine (c4 _ _ _ _ _ p_7 x_7).mono ?_; rintro e q8 ⟨rfl, b_8⟩; have hT_8 := hT_7.below b_8; have t_8 := t_7.below b_8; have own_8 := own_7.below b_8; have p_8 := p_7.below b_8; have x_8 := x_7.below b_8; have st_8 := st_7.below b_8; obtain ⟨st0_8, st1_8, st2_8, st3_8, st4_8, st5_8, st6_8, st7_8, st8_8, st9_8⟩ := mch_cells st_8; have pr_8 := pr_7.below b_8; have pr0_8 := pr_8.cell 0 _ rfl; have pr1_8 := pr_8.cell 1 _ rfl; have so_8 := so_7.below b_8; obtain ⟨so0_8, so1_8, so2_8, so3_8, so4_8, so5_8, so6_8, so7_8, so8_8, so9_8⟩ := mch_cells (v := ⟨.slice a0w m0.stack.length k0w, .slice a1w m0.mem.length k1w, .slice a2w m0.words.length k2w, .slice a3w m0.codes.length k3w, .slice a5w m0.tree.length k5w, .slice a7w m0.insts.length k7w⟩) (m := m0) (o := mo0) so_8; have sa_8 := sa_7.below b_8; obtain ⟨sa0_8, sa1_8, sa2_8, sa3_8, sa4_8, sa5_8, sa6_8, sa7_8, sa8_8, sa9_8⟩ := mch_cells (v := ⟨.slice a0x A.stack.length k0x, .slice a1x A.mem.length k1x, .slice a2x A.words.length k2x, .slice a3x A.codes.length k3x, .slice a5x A.tree.length k5x, .slice a7x A.insts.length k7x⟩) (m := A) (o := o3) sa_8; have sb_8 := sb_7.below b_8; obtain ⟨sb0_8, sb1_8, sb2_8, sb3_8, sb4_8, sb5_8, sb6_8, sb7_8, sb8_8, sb9_8⟩ := mch_cells (v := ⟨.slice a0z A.stack.length k0z, .slice a1z A.mem.length k1z, .slice a2z A.words.length k2z, .slice a3z A.codes.length k3z, .slice a5z A.tree.length k5z, .slice a7z A.insts.length k7z⟩) (m := A) (o := o4) sb_8)
    go_wp2_with (go_at_call_of 10 (Value.agg #[.slice a0w m0.stack.length k0w, .slice a1w m0.mem.length k1w, .slice a2w m0.words.length k2w, .slice a3w m0.codes.length k3w, .int .u32 m0.base, .slice a5w m0.tree.length k5w, .int .i64 m0.node, .slice a7w m0.insts.length k7w, .int .i64 m0.self, .string mo0]); refine (c5 _ _ own_8 t_8).mono ?_; rintro e q9 ⟨rfl, b_9⟩; have hT_9 := hT_8.below b_9; have t_9 := t_8.below b_9; have own_9 := own_8.below b_9; have p_9 := p_8.below b_9; have x_9 := x_8.below b_9; have st_9 := st_8.below b_9; obtain ⟨st0_9, st1_9, st2_9, st3_9, st4_9, st5_9, st6_9, st7_9, st8_9, st9_9⟩ := mch_cells st_9; have pr_9 := pr_8.below b_9; have pr0_9 := pr_9.cell 0 _ rfl; have pr1_9 := pr_9.cell 1 _ rfl; have so_9 := so_8.below b_9; obtain ⟨so0_9, so1_9, so2_9, so3_9, so4_9, so5_9, so6_9, so7_9, so8_9, so9_9⟩ := mch_cells (v := ⟨.slice a0w m0.stack.length k0w, .slice a1w m0.mem.length k1w, .slice a2w m0.words.length k2w, .slice a3w m0.codes.length k3w, .slice a5w m0.tree.length k5w, .slice a7w m0.insts.length k7w⟩) (m := m0) (o := mo0) so_9; have sa_9 := sa_8.below b_9; obtain ⟨sa0_9, sa1_9, sa2_9, sa3_9, sa4_9, sa5_9, sa6_9, sa7_9, sa8_9, sa9_9⟩ := mch_cells (v := ⟨.slice a0x A.stack.length k0x, .slice a1x A.mem.length k1x, .slice a2x A.words.length k2x, .slice a3x A.codes.length k3x, .slice a5x A.tree.length k5x, .slice a7x A.insts.length k7x⟩) (m := A) (o := o3) sa_9; have sb_9 := sb_8.below b_9; obtain ⟨sb0_9, sb1_9, sb2_9, sb3_9, sb4_9, sb5_9, sb6_9, sb7_9, sb8_9, sb9_9⟩ := mch_cells (v := ⟨.slice a0z A.stack.length k0z, .slice a1z A.mem.length k1z, .slice a2z A.words.length k2z, .slice a3z A.codes.length k3z, .slice a5z A.tree.length k5z, .slice a7z A.insts.length k7z⟩) (m := A) (o := o4) sb_9)
    go_ret
    exact ⟨by simp, below_trans (below_trans (below_trans (below_trans (below_trans (below_trans (below_trans (below_trans (below_trans (bb) b_1) b_2) b_3) b_4) b_5) b_6) b_7) b_8) b_9⟩

set_option maxRecDepth 100000 in
theorem lifted (os : Os) (started : os.Started) (H : Type) (enc : TypeId × Value → H) :
    ReturnsInHanded {} Try.checked os 8 .any (Rows.dictBindsSpec.pre6 enc Try.prog Try.f8 Rows.dictBindsRow.domain false) (Rows.dictBindsSpec.post enc Try.prog Try.f8 false true false false) := by
  refine returnsInHanded_of_change_sized (C := Try.checked) own started (by kernel_rfl) Try.func8
    (ChangeSpec.witness6 (enc := enc) (C := Try.checked) false ⟨#[], #[.agg #[.slice none 0 0, .slice none 0 0, .slice none 0 0, .slice none 0 0, .int .u32 0, .slice none 0 0, .int .i64 0, .slice none 0 0, .int .i64 0, .string ⟨#[]⟩], .agg #[.int .i64 0, .int .i64 0], .int .i64 0], []⟩ 8 (by kernel_rfl) (by kernel_rfl) (by kernel_rfl) (by kernel_rfl)) ?_
  intro W base args ds gs before hval0 hW hcnd hsz0 _
  have hval : ∀ (j : Nat) t v, Try.f8.params[j]? = some t → args[j]? = some v → Value.okWide Try.prog W .any base t v := hval0
  have hsz : (DataW.weightsEach Try.prog (Try.f8.params.toList ++ Rows.dictBindsSpec.plain.varTypes Try.prog) (ds ++ gs)).all (· ≤ reachBytes) = true := hsz0
  have hW' := hW
  obtain ⟨p, q, hA0, hV, rfl, hfz, hnd⟩ := hW
  have hA : DataW.TrodAll enc Try.prog W 0 (fun _ => true) true Try.f8.params.toList args.toList ds p := hA0
  rw [Try.params8] at hA hval hsz
  obtain ⟨v0, vs0, d0, ds0, p0, q0, hargs, rfl, rfl, h0, r0⟩ := trodAll_cons hA
  obtain ⟨v1, vs1, d1, ds1, p1, q1, rfl, rfl, rfl, h1, r1⟩ := trodAll_cons r0
  obtain ⟨v2, vs2, d2, ds2, p2, q2, rfl, rfl, rfl, h2, r2⟩ := trodAll_cons r1
  obtain ⟨rfl, rfl, rfl⟩ := trodAll_nil r2
  obtain rfl : args = #[v0, v1, v2] := by cases args; simp_all
  obtain ⟨rfl, rfl⟩ := trodVars_none hV
  have k0 := h0
  have lt0 : ∀ x ∈ p0, x.block < W.heap.size := by obtain ⟨m, hm⟩ := k0; exact DataW.trod_lt m _ _ _ hm
  obtain ⟨mv0, m0, mo0, rfl, r100, g0, ws0⟩ := mch_open (hval 0 32 v0 rfl rfl) h0 (fun n hn => by simpa using List.all_eq_true.1 hsz n (DataW.weights_mem_each (j := 0) (t := 32) (d := d0) rfl rfl n hn))
  obtain ⟨a1_0, a1_1, rfl, rfl, rfl, w1_0, w1_1⟩ := open_arr2 Try.underlying56 Try.underlying3 cells3 cells56 (hval 1 56 v1 rfl rfl) h1
  obtain ⟨a2, rfl, rfl, rfl, w2⟩ := open_int Try.underlying3 (hval 2 3 v2 rfl rfl) h2
  clear hA0 hval0 hsz0
  refine (walk mv0 m0 mo0 a1_0 a1_1 a2 W r100 g0 ws0 w1_0 w1_1 w2).mono fun e W' ⟨he, bel⟩ => ?_
  subst he
  exact ⟨_, rfl, _, _, _, [], _, [], hW', trodAll_mk1 (shut_bool Try.underlying4 _), (trodAll_cons_mk (Below.trod laidOut (by kernel_rfl) (of_decide_eq_true (by kernel_rfl)) k0 bel lt0) (trodAll_cons_mk (shut_arr2 Try.underlying56 Try.underlying3 cells3 cells56 w1_0 w1_1) (trodAll_cons_mk (shut_int Try.underlying3 w2) trodAll_mk0))), rfl, bel.frame _, fun h => by cases h⟩

theorem over : Rows.dictBindsRow.holds Try.pinned (OpenSpec.ofChange Rows.dictBindsSpec) :=
  OpenClaim.holds_of_wide 8 Try.f8 rfl rfl rfl rfl rfl rfl rfl ⟨rfl, rfl, rfl, rfl, rfl⟩ rfl rfl rfl rfl rfl (by kernel_rfl) Try.func8 (by kernel_rfl)
    (of_decide_eq_true (by kernel_rfl)) (by unfold Func.isWrapper; first | (rw [if_pos (by decide +kernel)]; kernel_rfl) | (rw [if_neg (by decide +kernel)]; exact ⟨rfl, rfl⟩))
    (fun os started H enc _ => lifted os started H enc)
end Go.Proofs.Ytfljcfpcokimcaa.dictBinds
namespace Go.Proofs.Ytfljcfpcokimcaa
theorem dictBinds_holds : Rows.DictBindsSaid := dictBinds.over
#print axioms dictBinds_holds
end Go.Proofs.Ytfljcfpcokimcaa
