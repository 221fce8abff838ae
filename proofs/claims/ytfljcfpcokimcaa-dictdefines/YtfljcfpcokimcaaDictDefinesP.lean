/-
  A word is defined, or refused, as the document's answer says, the machine stays formed, and the word is found.
-/
import Derived.Test.YtfljcfpcokimcaaRows
import Derived.WalkKit
import Derived.ProofKit
import Derived.OpenShut
import Derived.ShutString
import Derived.ChangeOld
import Derived.Below
import Derived.Carry
import Derived.SizedLaws
import Derived.Test.YtfljcfpcokimcaaB40
namespace Go.Proofs.Ytfljcfpcokimcaa.dictDefines
open Go.ChangeShapes Go.WideShapes Go.ChangeAt Go.RowKit
open Go.ChangeMaps (open_string shut_string)
set_option linter.unusedVariables false

theorem own : ownKnob Try.prog.godebug = none := by kernel_rfl
theorem laidOut : laidOutB Try.prog = true := by kernel_rfl

set_option maxHeartbeats 4000000 in
set_option maxRecDepth 100000 in
theorem walk (mv0 : Mv) (m0 : Mc) (mo0 : ByteArray) (wn1 : ByteArray) (wv1 : Value) (wx1 : Wd) (w : World) (r0 : RdM w mv0 m0 mo0) (g0 : gM m0) (ws0 : mo0.size ≤ maxLen) (we1 : strOfNums wx1.1 = wn1) (r1 : RdO w wv1 wx1.2.2.2.2) (g1 : gW wx1) :
    Calls Try.prog 7 #[.agg (mv0.cs m0 mo0), .agg #[.string wn1, .int .i64 wx1.2.1, .int .i64 wx1.2.2.1, .int .u32 wx1.2.2.2.1, wv1]] w fun e w' => e = .returned (.bool true) ∧ Below w.heap.size w w' := by
  have hT : Tab w := trivial
  have st_0 := (stands_new w (mv0.cs m0 mo0) 32).below (box_below _ (.cells #[.string wn1, .int .i64 wx1.2.1, .int .i64 wx1.2.2.1, .int .u32 wx1.2.2.2.1, wv1] 51))
  have pr_0 := stands_new (w.alloc (.cells (mv0.cs m0 mo0) 32)) #[.string wn1, .int .i64 wx1.2.1, .int .i64 wx1.2.2.1, .int .u32 wx1.2.2.2.1, wv1] 51
  rw [size_al] at pr_0
  have bb := below_trans (box_below w (.cells (mv0.cs m0 mo0) 32)) (box_below _ (.cells #[.string wn1, .int .i64 wx1.2.1, .int .i64 wx1.2.2.1, .int .u32 wx1.2.2.2.1, wv1] 51))
  have t_0 := r0.below bb
  have hT_0 := hT.below bb
  have y_0 := r1.below bb
  have c1 := fun w h => w_r9copy m0 mv0 mo0 w h g0.sz
  have c2 := fun v w hT h y => w_p9define m0 v mo0 wx1 wn1 wv1 w hT h g0 we1 y g1
  have c3 := fun w h y => w_r9define m0 mv0 mo0 wx1 wn1 wv1 w h g0.gd g0.sz we1 y g1.byt g1.len (fun z hz => (g1.ops z hz).2) g1.num (by have := g1.siz; omega)
  have hfo := dfn_formed (m := m0) (w := wx1)
  have hok := dfn_ok (m := m0) (w := wx1)
  have hga := dfn_gM (m := m0) (x := wx1) g0 g1
  obtain ⟨A, M, E, hA⟩ : ∃ A M E, dfnF m0 wx1 = (A, M, E) := ⟨_, _, _, rfl⟩
  simp only [hA] at c2 c3 hfo hga hok
  clear hA
  have c4 := fun va vb oa ob w h h2 => w_r9eq A va vb oa ob w h h2 hga
  have c5 := fun v w h h2 => w_r9eq m0 v mv0 mo0 mo0 w h h2 g0
  have hws : wn1.size ≤ maxLen := str_le we1 g1.byt g1.len
  have hLn : L wn1 = wx1.1 := str_back we1 g1.byt
  have c6 := fun v o w hT h => w_p9find v A o wn1 w hT h hga hws
  rw [hLn] at c6
  have c7 := fun v o w hT h => w_p9formed A v o w hT h hga
  have qM : (M != M) = false := by simp
  have qE1 : (E != E) = false := by simp
  by_cases hE : E = 0
  · subst hE
    have hf := hfo rfl
    simp only [hf] at c7
    by_cases hn : wx1.1 = []
    · have hF : fndF A.words wx1.1 = none := by rw [hn]; exact fnd_nil _
      have hnil : wn1.toList = [] := by rw [← we1, hn]; exact nil_toList
      simp only [hF, fnI, Option.isSome_none] at c6
      clear hfo hf hok hF hn hLn
      go_enter Try.func7, Try.ntmps7
      go_upto_region 1 with fail
      generalize (w.alloc (.cells (mv0.cs m0 mo0) 32)).alloc (.cells #[.string wn1, .int .i64 wx1.2.1, .int .i64 wx1.2.2.1, .int .u32 wx1.2.2.2.1, wv1] 51) = W0 at st_0 pr_0 t_0 hT_0 bb y_0 ⊢
      obtain ⟨st0_0, st1_0, st2_0, st3_0, st4_0, st5_0, st6_0, st7_0, st8_0, st9_0⟩ := mch_cells st_0
      have pr0_0 := pr_0.cell 0 _ rfl
      have pr1_0 := pr_0.cell 1 _ rfl
      have pr2_0 := pr_0.cell 2 _ rfl
      have pr3_0 := pr_0.cell 3 _ rfl
      have pr4_0 := pr_0.cell 4 _ rfl
      go_upto_region 4 with (first | (go_at_call 9; refine (w_alive9 _ hT_0).mono ?_; rintro e q1 ⟨rfl, b_1⟩; have hT_1 := hT_0.below b_1; have t_1 := t_0.below b_1; have y_1 := y_0.below b_1; have st_1 := st_0.below b_1; obtain ⟨st0_1, st1_1, st2_1, st3_1, st4_1, st5_1, st6_1, st7_1, st8_1, st9_1⟩ := mch_cells st_1; have pr_1 := pr_0.below b_1; have pr0_1 := pr_1.cell 0 _ rfl; have pr1_1 := pr_1.cell 1 _ rfl; have pr2_1 := pr_1.cell 2 _ rfl; have pr3_1 := pr_1.cell 3 _ rfl; have pr4_1 := pr_1.cell 4 _ rfl) | (go_at_call 28; refine (c1 _ t_1).mono ?_; rintro e q2 ⟨v2, rfl, ow2, b_2⟩; have hT_2 := hT_1.below b_2; have t_2 := t_1.below b_2; have y_2 := y_1.below b_2; have st_2 := st_1.below b_2; obtain ⟨st0_2, st1_2, st2_2, st3_2, st4_2, st5_2, st6_2, st7_2, st8_2, st9_2⟩ := mch_cells st_2; have pr_2 := pr_1.below b_2; have pr0_2 := pr_2.cell 0 _ rfl; have pr1_2 := pr_2.cell 1 _ rfl; have pr2_2 := pr_2.cell 2 _ rfl; have pr3_2 := pr_2.cell 3 _ rfl; have pr4_2 := pr_2.cell 4 _ rfl; have own_2 := ow2.read; obtain ⟨a0w, k0w, a1w, k1w, a2w, k2w, a3w, k3w, a5w, k5w, a7w, k7w, rfl⟩ := rdm_forms own_2; simp only [Mv.cs]))
      have so_3 := stands_new q2 #[.slice a0w m0.stack.length k0w, .slice a1w m0.mem.length k1w, .slice a2w m0.words.length k2w, .slice a3w m0.codes.length k3w, .int .u32 m0.base, .slice a5w m0.tree.length k5w, .int .i64 m0.node, .slice a7w m0.insts.length k7w, .int .i64 m0.self, .string mo0] 32
      have b_3 := box_below q2 (.cells #[.slice a0w m0.stack.length k0w, .slice a1w m0.mem.length k1w, .slice a2w m0.words.length k2w, .slice a3w m0.codes.length k3w, .int .u32 m0.base, .slice a5w m0.tree.length k5w, .int .i64 m0.node, .slice a7w m0.insts.length k7w, .int .i64 m0.self, .string mo0] 32)
      obtain ⟨Bso, hBso⟩ : ∃ B, q2.heap.size = B := ⟨_, rfl⟩
      rw [hBso] at so_3
      (try simp only [hBso])
      have hT_3 := hT_2.below b_3
      have t_3 := t_2.below b_3
      have y_3 := y_2.below b_3
      have own_3 := own_2.below b_3
      have st_3 := st_2.below b_3
      have pr_3 := pr_2.below b_3
      generalize q2.alloc (.cells #[.slice a0w m0.stack.length k0w, .slice a1w m0.mem.length k1w, .slice a2w m0.words.length k2w, .slice a3w m0.codes.length k3w, .int .u32 m0.base, .slice a5w m0.tree.length k5w, .int .i64 m0.node, .slice a7w m0.insts.length k7w, .int .i64 m0.self, .string mo0] 32) = q3 at hT_3 b_3 so_3 t_3 y_3 own_3 st_3 pr_3 ⊢
      obtain ⟨st0_3, st1_3, st2_3, st3_3, st4_3, st5_3, st6_3, st7_3, st8_3, st9_3⟩ := mch_cells st_3
      have pr0_3 := pr_3.cell 0 _ rfl
      have pr1_3 := pr_3.cell 1 _ rfl
      have pr2_3 := pr_3.cell 2 _ rfl
      have pr3_3 := pr_3.cell 3 _ rfl
      have pr4_3 := pr_3.cell 4 _ rfl
      obtain ⟨so0_3, so1_3, so2_3, so3_3, so4_3, so5_3, so6_3, so7_3, so8_3, so9_3⟩ := mch_cells (v := ⟨.slice a0w m0.stack.length k0w, .slice a1w m0.mem.length k1w, .slice a2w m0.words.length k2w, .slice a3w m0.codes.length k3w, .slice a5w m0.tree.length k5w, .slice a7w m0.insts.length k7w⟩) (m := m0) (o := mo0) so_3
      go_upto_region 5 with ((go_at_call 29; refine (c2 _ _ hT_3 own_3 y_3).mono ?_; rintro e q4 ⟨v4, o3, rfl, p_4, b_4⟩; have hT_4 := hT_3.below b_4; have t_4 := t_3.below b_4; have y_4 := y_3.below b_4; have own_4 := own_3.below b_4; have st_4 := st_3.below b_4; obtain ⟨st0_4, st1_4, st2_4, st3_4, st4_4, st5_4, st6_4, st7_4, st8_4, st9_4⟩ := mch_cells st_4; have pr_4 := pr_3.below b_4; have pr0_4 := pr_4.cell 0 _ rfl; have pr1_4 := pr_4.cell 1 _ rfl; have pr2_4 := pr_4.cell 2 _ rfl; have pr3_4 := pr_4.cell 3 _ rfl; have pr4_4 := pr_4.cell 4 _ rfl; have so_4 := so_3.below b_4; obtain ⟨so0_4, so1_4, so2_4, so3_4, so4_4, so5_4, so6_4, so7_4, so8_4, so9_4⟩ := mch_cells (v := ⟨.slice a0w m0.stack.length k0w, .slice a1w m0.mem.length k1w, .slice a2w m0.words.length k2w, .slice a3w m0.codes.length k3w, .slice a5w m0.tree.length k5w, .slice a7w m0.insts.length k7w⟩) (m := m0) (o := mo0) so_4; obtain ⟨a0x, k0x, a1x, k1x, a2x, k2x, a3x, k3x, a5x, k5x, a7x, k7x, rfl⟩ := rdm_forms p_4; simp only [Mv.cs]))
      have sa_5 := stands_new q4 #[.slice a0x A.stack.length k0x, .slice a1x A.mem.length k1x, .slice a2x A.words.length k2x, .slice a3x A.codes.length k3x, .int .u32 A.base, .slice a5x A.tree.length k5x, .int .i64 A.node, .slice a7x A.insts.length k7x, .int .i64 A.self, .string o3] 32
      have b_5 := box_below q4 (.cells #[.slice a0x A.stack.length k0x, .slice a1x A.mem.length k1x, .slice a2x A.words.length k2x, .slice a3x A.codes.length k3x, .int .u32 A.base, .slice a5x A.tree.length k5x, .int .i64 A.node, .slice a7x A.insts.length k7x, .int .i64 A.self, .string o3] 32)
      obtain ⟨Bsa, hBsa⟩ : ∃ B, q4.heap.size = B := ⟨_, rfl⟩
      rw [hBsa] at sa_5
      (try simp only [hBsa])
      have hT_5 := hT_4.below b_5
      have t_5 := t_4.below b_5
      have y_5 := y_4.below b_5
      have own_5 := own_4.below b_5
      have p_5 := p_4.below b_5
      have st_5 := st_4.below b_5
      have pr_5 := pr_4.below b_5
      have so_5 := so_4.below b_5
      generalize q4.alloc (.cells #[.slice a0x A.stack.length k0x, .slice a1x A.mem.length k1x, .slice a2x A.words.length k2x, .slice a3x A.codes.length k3x, .int .u32 A.base, .slice a5x A.tree.length k5x, .int .i64 A.node, .slice a7x A.insts.length k7x, .int .i64 A.self, .string o3] 32) = q5 at hT_5 b_5 sa_5 t_5 y_5 own_5 p_5 st_5 pr_5 so_5 ⊢
      obtain ⟨st0_5, st1_5, st2_5, st3_5, st4_5, st5_5, st6_5, st7_5, st8_5, st9_5⟩ := mch_cells st_5
      have pr0_5 := pr_5.cell 0 _ rfl
      have pr1_5 := pr_5.cell 1 _ rfl
      have pr2_5 := pr_5.cell 2 _ rfl
      have pr3_5 := pr_5.cell 3 _ rfl
      have pr4_5 := pr_5.cell 4 _ rfl
      obtain ⟨so0_5, so1_5, so2_5, so3_5, so4_5, so5_5, so6_5, so7_5, so8_5, so9_5⟩ := mch_cells (v := ⟨.slice a0w m0.stack.length k0w, .slice a1w m0.mem.length k1w, .slice a2w m0.words.length k2w, .slice a3w m0.codes.length k3w, .slice a5w m0.tree.length k5w, .slice a7w m0.insts.length k7w⟩) (m := m0) (o := mo0) so_5
      obtain ⟨sa0_5, sa1_5, sa2_5, sa3_5, sa4_5, sa5_5, sa6_5, sa7_5, sa8_5, sa9_5⟩ := mch_cells (v := ⟨.slice a0x A.stack.length k0x, .slice a1x A.mem.length k1x, .slice a2x A.words.length k2x, .slice a3x A.codes.length k3x, .slice a5x A.tree.length k5x, .slice a7x A.insts.length k7x⟩) (m := A) (o := o3) sa_5
      go_upto_region 6 with ((go_at_call 30; refine (c3 _ t_5 y_5).mono ?_; rintro e q6 ⟨v6, o4, rfl, ow6, b_6⟩; have hT_6 := hT_5.below b_6; have t_6 := t_5.below b_6; have y_6 := y_5.below b_6; have own_6 := own_5.below b_6; have p_6 := p_5.below b_6; have st_6 := st_5.below b_6; obtain ⟨st0_6, st1_6, st2_6, st3_6, st4_6, st5_6, st6_6, st7_6, st8_6, st9_6⟩ := mch_cells st_6; have pr_6 := pr_5.below b_6; have pr0_6 := pr_6.cell 0 _ rfl; have pr1_6 := pr_6.cell 1 _ rfl; have pr2_6 := pr_6.cell 2 _ rfl; have pr3_6 := pr_6.cell 3 _ rfl; have pr4_6 := pr_6.cell 4 _ rfl; have so_6 := so_5.below b_6; obtain ⟨so0_6, so1_6, so2_6, so3_6, so4_6, so5_6, so6_6, so7_6, so8_6, so9_6⟩ := mch_cells (v := ⟨.slice a0w m0.stack.length k0w, .slice a1w m0.mem.length k1w, .slice a2w m0.words.length k2w, .slice a3w m0.codes.length k3w, .slice a5w m0.tree.length k5w, .slice a7w m0.insts.length k7w⟩) (m := m0) (o := mo0) so_6; have sa_6 := sa_5.below b_6; obtain ⟨sa0_6, sa1_6, sa2_6, sa3_6, sa4_6, sa5_6, sa6_6, sa7_6, sa8_6, sa9_6⟩ := mch_cells (v := ⟨.slice a0x A.stack.length k0x, .slice a1x A.mem.length k1x, .slice a2x A.words.length k2x, .slice a3x A.codes.length k3x, .slice a5x A.tree.length k5x, .slice a7x A.insts.length k7x⟩) (m := A) (o := o3) sa_6; have x_6 := ow6.read; obtain ⟨a0z, k0z, a1z, k1z, a2z, k2z, a3z, k3z, a5z, k5z, a7z, k7z, rfl⟩ := rdm_forms x_6; simp only [Mv.cs]))
      have sb_7 := stands_new q6 #[.slice a0z A.stack.length k0z, .slice a1z A.mem.length k1z, .slice a2z A.words.length k2z, .slice a3z A.codes.length k3z, .int .u32 A.base, .slice a5z A.tree.length k5z, .int .i64 A.node, .slice a7z A.insts.length k7z, .int .i64 A.self, .string o4] 32
      have b_7 := box_below q6 (.cells #[.slice a0z A.stack.length k0z, .slice a1z A.mem.length k1z, .slice a2z A.words.length k2z, .slice a3z A.codes.length k3z, .int .u32 A.base, .slice a5z A.tree.length k5z, .int .i64 A.node, .slice a7z A.insts.length k7z, .int .i64 A.self, .string o4] 32)
      obtain ⟨Bsb, hBsb⟩ : ∃ B, q6.heap.size = B := ⟨_, rfl⟩
      rw [hBsb] at sb_7
      (try simp only [hBsb])
      have hT_7 := hT_6.below b_7
      have t_7 := t_6.below b_7
      have y_7 := y_6.below b_7
      have own_7 := own_6.below b_7
      have p_7 := p_6.below b_7
      have x_7 := x_6.below b_7
      have st_7 := st_6.below b_7
      have pr_7 := pr_6.below b_7
      have so_7 := so_6.below b_7
      have sa_7 := sa_6.below b_7
      generalize q6.alloc (.cells #[.slice a0z A.stack.length k0z, .slice a1z A.mem.length k1z, .slice a2z A.words.length k2z, .slice a3z A.codes.length k3z, .int .u32 A.base, .slice a5z A.tree.length k5z, .int .i64 A.node, .slice a7z A.insts.length k7z, .int .i64 A.self, .string o4] 32) = q7 at hT_7 b_7 sb_7 t_7 y_7 own_7 p_7 x_7 st_7 pr_7 so_7 sa_7 ⊢
      obtain ⟨st0_7, st1_7, st2_7, st3_7, st4_7, st5_7, st6_7, st7_7, st8_7, st9_7⟩ := mch_cells st_7
      have pr0_7 := pr_7.cell 0 _ rfl
      have pr1_7 := pr_7.cell 1 _ rfl
      have pr2_7 := pr_7.cell 2 _ rfl
      have pr3_7 := pr_7.cell 3 _ rfl
      have pr4_7 := pr_7.cell 4 _ rfl
      obtain ⟨so0_7, so1_7, so2_7, so3_7, so4_7, so5_7, so6_7, so7_7, so8_7, so9_7⟩ := mch_cells (v := ⟨.slice a0w m0.stack.length k0w, .slice a1w m0.mem.length k1w, .slice a2w m0.words.length k2w, .slice a3w m0.codes.length k3w, .slice a5w m0.tree.length k5w, .slice a7w m0.insts.length k7w⟩) (m := m0) (o := mo0) so_7
      obtain ⟨sa0_7, sa1_7, sa2_7, sa3_7, sa4_7, sa5_7, sa6_7, sa7_7, sa8_7, sa9_7⟩ := mch_cells (v := ⟨.slice a0x A.stack.length k0x, .slice a1x A.mem.length k1x, .slice a2x A.words.length k2x, .slice a3x A.codes.length k3x, .slice a5x A.tree.length k5x, .slice a7x A.insts.length k7x⟩) (m := A) (o := o3) sa_7
      obtain ⟨sb0_7, sb1_7, sb2_7, sb3_7, sb4_7, sb5_7, sb6_7, sb7_7, sb8_7, sb9_7⟩ := mch_cells (v := ⟨.slice a0z A.stack.length k0z, .slice a1z A.mem.length k1z, .slice a2z A.words.length k2z, .slice a3z A.codes.length k3z, .slice a5z A.tree.length k5z, .slice a7z A.insts.length k7z⟩) (m := A) (o := o4) sb_7
      go_wp2_with (go_at_call_of 10 (Value.agg #[.slice a0x A.stack.length k0x, .slice a1x A.mem.length k1x, .slice a2x A.words.length k2x, .slice a3x A.codes.length k3x, .int .u32 A.base, .slice a5x A.tree.length k5x, .int .i64 A.node, .slice a7x A.insts.length k7x, .int .i64 A.self, .string o3]); refine (c4 _ _ _ _ _ p_7 x_7).mono ?_; rintro e q8 ⟨rfl, b_8⟩; have hT_8 := hT_7.below b_8; have t_8 := t_7.below b_8; have y_8 := y_7.below b_8; have own_8 := own_7.below b_8; have p_8 := p_7.below b_8; have x_8 := x_7.below b_8; have st_8 := st_7.below b_8; obtain ⟨st0_8, st1_8, st2_8, st3_8, st4_8, st5_8, st6_8, st7_8, st8_8, st9_8⟩ := mch_cells st_8; have pr_8 := pr_7.below b_8; have pr0_8 := pr_8.cell 0 _ rfl; have pr1_8 := pr_8.cell 1 _ rfl; have pr2_8 := pr_8.cell 2 _ rfl; have pr3_8 := pr_8.cell 3 _ rfl; have pr4_8 := pr_8.cell 4 _ rfl; have so_8 := so_7.below b_8; obtain ⟨so0_8, so1_8, so2_8, so3_8, so4_8, so5_8, so6_8, so7_8, so8_8, so9_8⟩ := mch_cells (v := ⟨.slice a0w m0.stack.length k0w, .slice a1w m0.mem.length k1w, .slice a2w m0.words.length k2w, .slice a3w m0.codes.length k3w, .slice a5w m0.tree.length k5w, .slice a7w m0.insts.length k7w⟩) (m := m0) (o := mo0) so_8; have sa_8 := sa_7.below b_8; obtain ⟨sa0_8, sa1_8, sa2_8, sa3_8, sa4_8, sa5_8, sa6_8, sa7_8, sa8_8, sa9_8⟩ := mch_cells (v := ⟨.slice a0x A.stack.length k0x, .slice a1x A.mem.length k1x, .slice a2x A.words.length k2x, .slice a3x A.codes.length k3x, .slice a5x A.tree.length k5x, .slice a7x A.insts.length k7x⟩) (m := A) (o := o3) sa_8; have sb_8 := sb_7.below b_8; obtain ⟨sb0_8, sb1_8, sb2_8, sb3_8, sb4_8, sb5_8, sb6_8, sb7_8, sb8_8, sb9_8⟩ := mch_cells (v := ⟨.slice a0z A.stack.length k0z, .slice a1z A.mem.length k1z, .slice a2z A.words.length k2z, .slice a3z A.codes.length k3z, .slice a5z A.tree.length k5z, .slice a7z A.insts.length k7z⟩) (m := A) (o := o4) sb_8)
      go_wp2_with (go_at_call_of 10 (Value.agg #[.slice a0w m0.stack.length k0w, .slice a1w m0.mem.length k1w, .slice a2w m0.words.length k2w, .slice a3w m0.codes.length k3w, .int .u32 m0.base, .slice a5w m0.tree.length k5w, .int .i64 m0.node, .slice a7w m0.insts.length k7w, .int .i64 m0.self, .string mo0]); refine (c5 _ _ own_8 t_8).mono ?_; rintro e q9 ⟨rfl, b_9⟩; have hT_9 := hT_8.below b_9; have t_9 := t_8.below b_9; have y_9 := y_8.below b_9; have own_9 := own_8.below b_9; have p_9 := p_8.below b_9; have x_9 := x_8.below b_9; have st_9 := st_8.below b_9; obtain ⟨st0_9, st1_9, st2_9, st3_9, st4_9, st5_9, st6_9, st7_9, st8_9, st9_9⟩ := mch_cells st_9; have pr_9 := pr_8.below b_9; have pr0_9 := pr_9.cell 0 _ rfl; have pr1_9 := pr_9.cell 1 _ rfl; have pr2_9 := pr_9.cell 2 _ rfl; have pr3_9 := pr_9.cell 3 _ rfl; have pr4_9 := pr_9.cell 4 _ rfl; have so_9 := so_8.below b_9; obtain ⟨so0_9, so1_9, so2_9, so3_9, so4_9, so5_9, so6_9, so7_9, so8_9, so9_9⟩ := mch_cells (v := ⟨.slice a0w m0.stack.length k0w, .slice a1w m0.mem.length k1w, .slice a2w m0.words.length k2w, .slice a3w m0.codes.length k3w, .slice a5w m0.tree.length k5w, .slice a7w m0.insts.length k7w⟩) (m := m0) (o := mo0) so_9; have sa_9 := sa_8.below b_9; obtain ⟨sa0_9, sa1_9, sa2_9, sa3_9, sa4_9, sa5_9, sa6_9, sa7_9, sa8_9, sa9_9⟩ := mch_cells (v := ⟨.slice a0x A.stack.length k0x, .slice a1x A.mem.length k1x, .slice a2x A.words.length k2x, .slice a3x A.codes.length k3x, .slice a5x A.tree.length k5x, .slice a7x A.insts.length k7x⟩) (m := A) (o := o3) sa_9; have sb_9 := sb_8.below b_9; obtain ⟨sb0_9, sb1_9, sb2_9, sb3_9, sb4_9, sb5_9, sb6_9, sb7_9, sb8_9, sb9_9⟩ := mch_cells (v := ⟨.slice a0z A.stack.length k0z, .slice a1z A.mem.length k1z, .slice a2z A.words.length k2z, .slice a3z A.codes.length k3z, .slice a5z A.tree.length k5z, .slice a7z A.insts.length k7z⟩) (m := A) (o := o4) sb_9)
      go_wp2_with (go_at_call 15; refine (c6 _ _ _ hT_9 p_9).mono ?_; rintro e q10 ⟨rfl, b_10⟩; have hT_10 := hT_9.below b_10; have t_10 := t_9.below b_10; have y_10 := y_9.below b_10; have own_10 := own_9.below b_10; have p_10 := p_9.below b_10; have x_10 := x_9.below b_10; have st_10 := st_9.below b_10; obtain ⟨st0_10, st1_10, st2_10, st3_10, st4_10, st5_10, st6_10, st7_10, st8_10, st9_10⟩ := mch_cells st_10; have pr_10 := pr_9.below b_10; have pr0_10 := pr_10.cell 0 _ rfl; have pr1_10 := pr_10.cell 1 _ rfl; have pr2_10 := pr_10.cell 2 _ rfl; have pr3_10 := pr_10.cell 3 _ rfl; have pr4_10 := pr_10.cell 4 _ rfl; have so_10 := so_9.below b_10; obtain ⟨so0_10, so1_10, so2_10, so3_10, so4_10, so5_10, so6_10, so7_10, so8_10, so9_10⟩ := mch_cells (v := ⟨.slice a0w m0.stack.length k0w, .slice a1w m0.mem.length k1w, .slice a2w m0.words.length k2w, .slice a3w m0.codes.length k3w, .slice a5w m0.tree.length k5w, .slice a7w m0.insts.length k7w⟩) (m := m0) (o := mo0) so_10; have sa_10 := sa_9.below b_10; obtain ⟨sa0_10, sa1_10, sa2_10, sa3_10, sa4_10, sa5_10, sa6_10, sa7_10, sa8_10, sa9_10⟩ := mch_cells (v := ⟨.slice a0x A.stack.length k0x, .slice a1x A.mem.length k1x, .slice a2x A.words.length k2x, .slice a3x A.codes.length k3x, .slice a5x A.tree.length k5x, .slice a7x A.insts.length k7x⟩) (m := A) (o := o3) sa_10; have sb_10 := sb_9.below b_10; obtain ⟨sb0_10, sb1_10, sb2_10, sb3_10, sb4_10, sb5_10, sb6_10, sb7_10, sb8_10, sb9_10⟩ := mch_cells (v := ⟨.slice a0z A.stack.length k0z, .slice a1z A.mem.length k1z, .slice a2z A.words.length k2z, .slice a3z A.codes.length k3z, .slice a5z A.tree.length k5z, .slice a7z A.insts.length k7z⟩) (m := A) (o := o4) sb_10)
      go_wp2_with (go_at_call 18; refine (c7 _ _ _ hT_10 p_10).mono ?_; rintro e q11 ⟨rfl, b_11⟩; have hT_11 := hT_10.below b_11; have t_11 := t_10.below b_11; have y_11 := y_10.below b_11; have own_11 := own_10.below b_11; have p_11 := p_10.below b_11; have x_11 := x_10.below b_11; have st_11 := st_10.below b_11; obtain ⟨st0_11, st1_11, st2_11, st3_11, st4_11, st5_11, st6_11, st7_11, st8_11, st9_11⟩ := mch_cells st_11; have pr_11 := pr_10.below b_11; have pr0_11 := pr_11.cell 0 _ rfl; have pr1_11 := pr_11.cell 1 _ rfl; have pr2_11 := pr_11.cell 2 _ rfl; have pr3_11 := pr_11.cell 3 _ rfl; have pr4_11 := pr_11.cell 4 _ rfl; have so_11 := so_10.below b_11; obtain ⟨so0_11, so1_11, so2_11, so3_11, so4_11, so5_11, so6_11, so7_11, so8_11, so9_11⟩ := mch_cells (v := ⟨.slice a0w m0.stack.length k0w, .slice a1w m0.mem.length k1w, .slice a2w m0.words.length k2w, .slice a3w m0.codes.length k3w, .slice a5w m0.tree.length k5w, .slice a7w m0.insts.length k7w⟩) (m := m0) (o := mo0) so_11; have sa_11 := sa_10.below b_11; obtain ⟨sa0_11, sa1_11, sa2_11, sa3_11, sa4_11, sa5_11, sa6_11, sa7_11, sa8_11, sa9_11⟩ := mch_cells (v := ⟨.slice a0x A.stack.length k0x, .slice a1x A.mem.length k1x, .slice a2x A.words.length k2x, .slice a3x A.codes.length k3x, .slice a5x A.tree.length k5x, .slice a7x A.insts.length k7x⟩) (m := A) (o := o3) sa_11; have sb_11 := sb_10.below b_11; obtain ⟨sb0_11, sb1_11, sb2_11, sb3_11, sb4_11, sb5_11, sb6_11, sb7_11, sb8_11, sb9_11⟩ := mch_cells (v := ⟨.slice a0z A.stack.length k0z, .slice a1z A.mem.length k1z, .slice a2z A.words.length k2z, .slice a3z A.codes.length k3z, .slice a5z A.tree.length k5z, .slice a7z A.insts.length k7z⟩) (m := A) (o := o4) sb_11)
      all_goals (first | (rename_i hh; exact absurd hnil hh) | (go_ret; exact ⟨by simp, below_trans (below_trans (below_trans (below_trans (below_trans (below_trans (below_trans (below_trans (below_trans (below_trans (below_trans (bb) b_1) b_2) b_3) b_4) b_5) b_6) b_7) b_8) b_9) b_10) b_11⟩))
    · have hF : fndF A.words wx1.1 = some m0.words.length ∧ M = m0.words.length := dfn_found hn (hok rfl)
      obtain ⟨hF, rfl⟩ := hF
      simp only [hF, fnI, Option.isSome_some] at c6
      have hne := str_nil we1 g1.byt hn
      have qm : ((m0.words.length : Int) == (m0.words.length : Int)) = true := beq_self_eq_true _
      clear hfo hf hok hF hn hLn
      go_enter Try.func7, Try.ntmps7
      go_upto_region 1 with fail
      generalize (w.alloc (.cells (mv0.cs m0 mo0) 32)).alloc (.cells #[.string wn1, .int .i64 wx1.2.1, .int .i64 wx1.2.2.1, .int .u32 wx1.2.2.2.1, wv1] 51) = W0 at st_0 pr_0 t_0 hT_0 bb y_0 ⊢
      obtain ⟨st0_0, st1_0, st2_0, st3_0, st4_0, st5_0, st6_0, st7_0, st8_0, st9_0⟩ := mch_cells st_0
      have pr0_0 := pr_0.cell 0 _ rfl
      have pr1_0 := pr_0.cell 1 _ rfl
      have pr2_0 := pr_0.cell 2 _ rfl
      have pr3_0 := pr_0.cell 3 _ rfl
      have pr4_0 := pr_0.cell 4 _ rfl
      go_upto_region 4 with (first | (go_at_call 9; refine (w_alive9 _ hT_0).mono ?_; rintro e q1 ⟨rfl, b_1⟩; have hT_1 := hT_0.below b_1; have t_1 := t_0.below b_1; have y_1 := y_0.below b_1; have st_1 := st_0.below b_1; obtain ⟨st0_1, st1_1, st2_1, st3_1, st4_1, st5_1, st6_1, st7_1, st8_1, st9_1⟩ := mch_cells st_1; have pr_1 := pr_0.below b_1; have pr0_1 := pr_1.cell 0 _ rfl; have pr1_1 := pr_1.cell 1 _ rfl; have pr2_1 := pr_1.cell 2 _ rfl; have pr3_1 := pr_1.cell 3 _ rfl; have pr4_1 := pr_1.cell 4 _ rfl) | (go_at_call 28; refine (c1 _ t_1).mono ?_; rintro e q2 ⟨v2, rfl, ow2, b_2⟩; have hT_2 := hT_1.below b_2; have t_2 := t_1.below b_2; have y_2 := y_1.below b_2; have st_2 := st_1.below b_2; obtain ⟨st0_2, st1_2, st2_2, st3_2, st4_2, st5_2, st6_2, st7_2, st8_2, st9_2⟩ := mch_cells st_2; have pr_2 := pr_1.below b_2; have pr0_2 := pr_2.cell 0 _ rfl; have pr1_2 := pr_2.cell 1 _ rfl; have pr2_2 := pr_2.cell 2 _ rfl; have pr3_2 := pr_2.cell 3 _ rfl; have pr4_2 := pr_2.cell 4 _ rfl; have own_2 := ow2.read; obtain ⟨a0w, k0w, a1w, k1w, a2w, k2w, a3w, k3w, a5w, k5w, a7w, k7w, rfl⟩ := rdm_forms own_2; simp only [Mv.cs]))
      have so_3 := stands_new q2 #[.slice a0w m0.stack.length k0w, .slice a1w m0.mem.length k1w, .slice a2w m0.words.length k2w, .slice a3w m0.codes.length k3w, .int .u32 m0.base, .slice a5w m0.tree.length k5w, .int .i64 m0.node, .slice a7w m0.insts.length k7w, .int .i64 m0.self, .string mo0] 32
      have b_3 := box_below q2 (.cells #[.slice a0w m0.stack.length k0w, .slice a1w m0.mem.length k1w, .slice a2w m0.words.length k2w, .slice a3w m0.codes.length k3w, .int .u32 m0.base, .slice a5w m0.tree.length k5w, .int .i64 m0.node, .slice a7w m0.insts.length k7w, .int .i64 m0.self, .string mo0] 32)
      obtain ⟨Bso, hBso⟩ : ∃ B, q2.heap.size = B := ⟨_, rfl⟩
      rw [hBso] at so_3
      (try simp only [hBso])
      have hT_3 := hT_2.below b_3
      have t_3 := t_2.below b_3
      have y_3 := y_2.below b_3
      have own_3 := own_2.below b_3
      have st_3 := st_2.below b_3
      have pr_3 := pr_2.below b_3
      generalize q2.alloc (.cells #[.slice a0w m0.stack.length k0w, .slice a1w m0.mem.length k1w, .slice a2w m0.words.length k2w, .slice a3w m0.codes.length k3w, .int .u32 m0.base, .slice a5w m0.tree.length k5w, .int .i64 m0.node, .slice a7w m0.insts.length k7w, .int .i64 m0.self, .string mo0] 32) = q3 at hT_3 b_3 so_3 t_3 y_3 own_3 st_3 pr_3 ⊢
      obtain ⟨st0_3, st1_3, st2_3, st3_3, st4_3, st5_3, st6_3, st7_3, st8_3, st9_3⟩ := mch_cells st_3
      have pr0_3 := pr_3.cell 0 _ rfl
      have pr1_3 := pr_3.cell 1 _ rfl
      have pr2_3 := pr_3.cell 2 _ rfl
      have pr3_3 := pr_3.cell 3 _ rfl
      have pr4_3 := pr_3.cell 4 _ rfl
      obtain ⟨so0_3, so1_3, so2_3, so3_3, so4_3, so5_3, so6_3, so7_3, so8_3, so9_3⟩ := mch_cells (v := ⟨.slice a0w m0.stack.length k0w, .slice a1w m0.mem.length k1w, .slice a2w m0.words.length k2w, .slice a3w m0.codes.length k3w, .slice a5w m0.tree.length k5w, .slice a7w m0.insts.length k7w⟩) (m := m0) (o := mo0) so_3
      go_upto_region 5 with ((go_at_call 29; refine (c2 _ _ hT_3 own_3 y_3).mono ?_; rintro e q4 ⟨v4, o3, rfl, p_4, b_4⟩; have hT_4 := hT_3.below b_4; have t_4 := t_3.below b_4; have y_4 := y_3.below b_4; have own_4 := own_3.below b_4; have st_4 := st_3.below b_4; obtain ⟨st0_4, st1_4, st2_4, st3_4, st4_4, st5_4, st6_4, st7_4, st8_4, st9_4⟩ := mch_cells st_4; have pr_4 := pr_3.below b_4; have pr0_4 := pr_4.cell 0 _ rfl; have pr1_4 := pr_4.cell 1 _ rfl; have pr2_4 := pr_4.cell 2 _ rfl; have pr3_4 := pr_4.cell 3 _ rfl; have pr4_4 := pr_4.cell 4 _ rfl; have so_4 := so_3.below b_4; obtain ⟨so0_4, so1_4, so2_4, so3_4, so4_4, so5_4, so6_4, so7_4, so8_4, so9_4⟩ := mch_cells (v := ⟨.slice a0w m0.stack.length k0w, .slice a1w m0.mem.length k1w, .slice a2w m0.words.length k2w, .slice a3w m0.codes.length k3w, .slice a5w m0.tree.length k5w, .slice a7w m0.insts.length k7w⟩) (m := m0) (o := mo0) so_4; obtain ⟨a0x, k0x, a1x, k1x, a2x, k2x, a3x, k3x, a5x, k5x, a7x, k7x, rfl⟩ := rdm_forms p_4; simp only [Mv.cs]))
      have sa_5 := stands_new q4 #[.slice a0x A.stack.length k0x, .slice a1x A.mem.length k1x, .slice a2x A.words.length k2x, .slice a3x A.codes.length k3x, .int .u32 A.base, .slice a5x A.tree.length k5x, .int .i64 A.node, .slice a7x A.insts.length k7x, .int .i64 A.self, .string o3] 32
      have b_5 := box_below q4 (.cells #[.slice a0x A.stack.length k0x, .slice a1x A.mem.length k1x, .slice a2x A.words.length k2x, .slice a3x A.codes.length k3x, .int .u32 A.base, .slice a5x A.tree.length k5x, .int .i64 A.node, .slice a7x A.insts.length k7x, .int .i64 A.self, .string o3] 32)
      obtain ⟨Bsa, hBsa⟩ : ∃ B, q4.heap.size = B := ⟨_, rfl⟩
      rw [hBsa] at sa_5
      (try simp only [hBsa])
      have hT_5 := hT_4.below b_5
      have t_5 := t_4.below b_5
      have y_5 := y_4.below b_5
      have own_5 := own_4.below b_5
      have p_5 := p_4.below b_5
      have st_5 := st_4.below b_5
      have pr_5 := pr_4.below b_5
      have so_5 := so_4.below b_5
      generalize q4.alloc (.cells #[.slice a0x A.stack.length k0x, .slice a1x A.mem.length k1x, .slice a2x A.words.length k2x, .slice a3x A.codes.length k3x, .int .u32 A.base, .slice a5x A.tree.length k5x, .int .i64 A.node, .slice a7x A.insts.length k7x, .int .i64 A.self, .string o3] 32) = q5 at hT_5 b_5 sa_5 t_5 y_5 own_5 p_5 st_5 pr_5 so_5 ⊢
      obtain ⟨st0_5, st1_5, st2_5, st3_5, st4_5, st5_5, st6_5, st7_5, st8_5, st9_5⟩ := mch_cells st_5
      have pr0_5 := pr_5.cell 0 _ rfl
      have pr1_5 := pr_5.cell 1 _ rfl
      have pr2_5 := pr_5.cell 2 _ rfl
      have pr3_5 := pr_5.cell 3 _ rfl
      have pr4_5 := pr_5.cell 4 _ rfl
      obtain ⟨so0_5, so1_5, so2_5, so3_5, so4_5, so5_5, so6_5, so7_5, so8_5, so9_5⟩ := mch_cells (v := ⟨.slice a0w m0.stack.length k0w, .slice a1w m0.mem.length k1w, .slice a2w m0.words.length k2w, .slice a3w m0.codes.length k3w, .slice a5w m0.tree.length k5w, .slice a7w m0.insts.length k7w⟩) (m := m0) (o := mo0) so_5
      obtain ⟨sa0_5, sa1_5, sa2_5, sa3_5, sa4_5, sa5_5, sa6_5, sa7_5, sa8_5, sa9_5⟩ := mch_cells (v := ⟨.slice a0x A.stack.length k0x, .slice a1x A.mem.length k1x, .slice a2x A.words.length k2x, .slice a3x A.codes.length k3x, .slice a5x A.tree.length k5x, .slice a7x A.insts.length k7x⟩) (m := A) (o := o3) sa_5
      go_upto_region 6 with ((go_at_call 30; refine (c3 _ t_5 y_5).mono ?_; rintro e q6 ⟨v6, o4, rfl, ow6, b_6⟩; have hT_6 := hT_5.below b_6; have t_6 := t_5.below b_6; have y_6 := y_5.below b_6; have own_6 := own_5.below b_6; have p_6 := p_5.below b_6; have st_6 := st_5.below b_6; obtain ⟨st0_6, st1_6, st2_6, st3_6, st4_6, st5_6, st6_6, st7_6, st8_6, st9_6⟩ := mch_cells st_6; have pr_6 := pr_5.below b_6; have pr0_6 := pr_6.cell 0 _ rfl; have pr1_6 := pr_6.cell 1 _ rfl; have pr2_6 := pr_6.cell 2 _ rfl; have pr3_6 := pr_6.cell 3 _ rfl; have pr4_6 := pr_6.cell 4 _ rfl; have so_6 := so_5.below b_6; obtain ⟨so0_6, so1_6, so2_6, so3_6, so4_6, so5_6, so6_6, so7_6, so8_6, so9_6⟩ := mch_cells (v := ⟨.slice a0w m0.stack.length k0w, .slice a1w m0.mem.length k1w, .slice a2w m0.words.length k2w, .slice a3w m0.codes.length k3w, .slice a5w m0.tree.length k5w, .slice a7w m0.insts.length k7w⟩) (m := m0) (o := mo0) so_6; have sa_6 := sa_5.below b_6; obtain ⟨sa0_6, sa1_6, sa2_6, sa3_6, sa4_6, sa5_6, sa6_6, sa7_6, sa8_6, sa9_6⟩ := mch_cells (v := ⟨.slice a0x A.stack.length k0x, .slice a1x A.mem.length k1x, .slice a2x A.words.length k2x, .slice a3x A.codes.length k3x, .slice a5x A.tree.length k5x, .slice a7x A.insts.length k7x⟩) (m := A) (o := o3) sa_6; have x_6 := ow6.read; obtain ⟨a0z, k0z, a1z, k1z, a2z, k2z, a3z, k3z, a5z, k5z, a7z, k7z, rfl⟩ := rdm_forms x_6; simp only [Mv.cs]))
      have sb_7 := stands_new q6 #[.slice a0z A.stack.length k0z, .slice a1z A.mem.length k1z, .slice a2z A.words.length k2z, .slice a3z A.codes.length k3z, .int .u32 A.base, .slice a5z A.tree.length k5z, .int .i64 A.node, .slice a7z A.insts.length k7z, .int .i64 A.self, .string o4] 32
      have b_7 := box_below q6 (.cells #[.slice a0z A.stack.length k0z, .slice a1z A.mem.length k1z, .slice a2z A.words.length k2z, .slice a3z A.codes.length k3z, .int .u32 A.base, .slice a5z A.tree.length k5z, .int .i64 A.node, .slice a7z A.insts.length k7z, .int .i64 A.self, .string o4] 32)
      obtain ⟨Bsb, hBsb⟩ : ∃ B, q6.heap.size = B := ⟨_, rfl⟩
      rw [hBsb] at sb_7
      (try simp only [hBsb])
      have hT_7 := hT_6.below b_7
      have t_7 := t_6.below b_7
      have y_7 := y_6.below b_7
      have own_7 := own_6.below b_7
      have p_7 := p_6.below b_7
      have x_7 := x_6.below b_7
      have st_7 := st_6.below b_7
      have pr_7 := pr_6.below b_7
      have so_7 := so_6.below b_7
      have sa_7 := sa_6.below b_7
      generalize q6.alloc (.cells #[.slice a0z A.stack.length k0z, .slice a1z A.mem.length k1z, .slice a2z A.words.length k2z, .slice a3z A.codes.length k3z, .int .u32 A.base, .slice a5z A.tree.length k5z, .int .i64 A.node, .slice a7z A.insts.length k7z, .int .i64 A.self, .string o4] 32) = q7 at hT_7 b_7 sb_7 t_7 y_7 own_7 p_7 x_7 st_7 pr_7 so_7 sa_7 ⊢
      obtain ⟨st0_7, st1_7, st2_7, st3_7, st4_7, st5_7, st6_7, st7_7, st8_7, st9_7⟩ := mch_cells st_7
      have pr0_7 := pr_7.cell 0 _ rfl
      have pr1_7 := pr_7.cell 1 _ rfl
      have pr2_7 := pr_7.cell 2 _ rfl
      have pr3_7 := pr_7.cell 3 _ rfl
      have pr4_7 := pr_7.cell 4 _ rfl
      obtain ⟨so0_7, so1_7, so2_7, so3_7, so4_7, so5_7, so6_7, so7_7, so8_7, so9_7⟩ := mch_cells (v := ⟨.slice a0w m0.stack.length k0w, .slice a1w m0.mem.length k1w, .slice a2w m0.words.length k2w, .slice a3w m0.codes.length k3w, .slice a5w m0.tree.length k5w, .slice a7w m0.insts.length k7w⟩) (m := m0) (o := mo0) so_7
      obtain ⟨sa0_7, sa1_7, sa2_7, sa3_7, sa4_7, sa5_7, sa6_7, sa7_7, sa8_7, sa9_7⟩ := mch_cells (v := ⟨.slice a0x A.stack.length k0x, .slice a1x A.mem.length k1x, .slice a2x A.words.length k2x, .slice a3x A.codes.length k3x, .slice a5x A.tree.length k5x, .slice a7x A.insts.length k7x⟩) (m := A) (o := o3) sa_7
      obtain ⟨sb0_7, sb1_7, sb2_7, sb3_7, sb4_7, sb5_7, sb6_7, sb7_7, sb8_7, sb9_7⟩ := mch_cells (v := ⟨.slice a0z A.stack.length k0z, .slice a1z A.mem.length k1z, .slice a2z A.words.length k2z, .slice a3z A.codes.length k3z, .slice a5z A.tree.length k5z, .slice a7z A.insts.length k7z⟩) (m := A) (o := o4) sb_7
      go_wp2_with (go_at_call_of 10 (Value.agg #[.slice a0x A.stack.length k0x, .slice a1x A.mem.length k1x, .slice a2x A.words.length k2x, .slice a3x A.codes.length k3x, .int .u32 A.base, .slice a5x A.tree.length k5x, .int .i64 A.node, .slice a7x A.insts.length k7x, .int .i64 A.self, .string o3]); refine (c4 _ _ _ _ _ p_7 x_7).mono ?_; rintro e q8 ⟨rfl, b_8⟩; have hT_8 := hT_7.below b_8; have t_8 := t_7.below b_8; have y_8 := y_7.below b_8; have own_8 := own_7.below b_8; have p_8 := p_7.below b_8; have x_8 := x_7.below b_8; have st_8 := st_7.below b_8; obtain ⟨st0_8, st1_8, st2_8, st3_8, st4_8, st5_8, st6_8, st7_8, st8_8, st9_8⟩ := mch_cells st_8; have pr_8 := pr_7.below b_8; have pr0_8 := pr_8.cell 0 _ rfl; have pr1_8 := pr_8.cell 1 _ rfl; have pr2_8 := pr_8.cell 2 _ rfl; have pr3_8 := pr_8.cell 3 _ rfl; have pr4_8 := pr_8.cell 4 _ rfl; have so_8 := so_7.below b_8; obtain ⟨so0_8, so1_8, so2_8, so3_8, so4_8, so5_8, so6_8, so7_8, so8_8, so9_8⟩ := mch_cells (v := ⟨.slice a0w m0.stack.length k0w, .slice a1w m0.mem.length k1w, .slice a2w m0.words.length k2w, .slice a3w m0.codes.length k3w, .slice a5w m0.tree.length k5w, .slice a7w m0.insts.length k7w⟩) (m := m0) (o := mo0) so_8; have sa_8 := sa_7.below b_8; obtain ⟨sa0_8, sa1_8, sa2_8, sa3_8, sa4_8, sa5_8, sa6_8, sa7_8, sa8_8, sa9_8⟩ := mch_cells (v := ⟨.slice a0x A.stack.length k0x, .slice a1x A.mem.length k1x, .slice a2x A.words.length k2x, .slice a3x A.codes.length k3x, .slice a5x A.tree.length k5x, .slice a7x A.insts.length k7x⟩) (m := A) (o := o3) sa_8; have sb_8 := sb_7.below b_8; obtain ⟨sb0_8, sb1_8, sb2_8, sb3_8, sb4_8, sb5_8, sb6_8, sb7_8, sb8_8, sb9_8⟩ := mch_cells (v := ⟨.slice a0z A.stack.length k0z, .slice a1z A.mem.length k1z, .slice a2z A.words.length k2z, .slice a3z A.codes.length k3z, .slice a5z A.tree.length k5z, .slice a7z A.insts.length k7z⟩) (m := A) (o := o4) sb_8)
      go_wp2_with (go_at_call_of 10 (Value.agg #[.slice a0w m0.stack.length k0w, .slice a1w m0.mem.length k1w, .slice a2w m0.words.length k2w, .slice a3w m0.codes.length k3w, .int .u32 m0.base, .slice a5w m0.tree.length k5w, .int .i64 m0.node, .slice a7w m0.insts.length k7w, .int .i64 m0.self, .string mo0]); refine (c5 _ _ own_8 t_8).mono ?_; rintro e q9 ⟨rfl, b_9⟩; have hT_9 := hT_8.below b_9; have t_9 := t_8.below b_9; have y_9 := y_8.below b_9; have own_9 := own_8.below b_9; have p_9 := p_8.below b_9; have x_9 := x_8.below b_9; have st_9 := st_8.below b_9; obtain ⟨st0_9, st1_9, st2_9, st3_9, st4_9, st5_9, st6_9, st7_9, st8_9, st9_9⟩ := mch_cells st_9; have pr_9 := pr_8.below b_9; have pr0_9 := pr_9.cell 0 _ rfl; have pr1_9 := pr_9.cell 1 _ rfl; have pr2_9 := pr_9.cell 2 _ rfl; have pr3_9 := pr_9.cell 3 _ rfl; have pr4_9 := pr_9.cell 4 _ rfl; have so_9 := so_8.below b_9; obtain ⟨so0_9, so1_9, so2_9, so3_9, so4_9, so5_9, so6_9, so7_9, so8_9, so9_9⟩ := mch_cells (v := ⟨.slice a0w m0.stack.length k0w, .slice a1w m0.mem.length k1w, .slice a2w m0.words.length k2w, .slice a3w m0.codes.length k3w, .slice a5w m0.tree.length k5w, .slice a7w m0.insts.length k7w⟩) (m := m0) (o := mo0) so_9; have sa_9 := sa_8.below b_9; obtain ⟨sa0_9, sa1_9, sa2_9, sa3_9, sa4_9, sa5_9, sa6_9, sa7_9, sa8_9, sa9_9⟩ := mch_cells (v := ⟨.slice a0x A.stack.length k0x, .slice a1x A.mem.length k1x, .slice a2x A.words.length k2x, .slice a3x A.codes.length k3x, .slice a5x A.tree.length k5x, .slice a7x A.insts.length k7x⟩) (m := A) (o := o3) sa_9; have sb_9 := sb_8.below b_9; obtain ⟨sb0_9, sb1_9, sb2_9, sb3_9, sb4_9, sb5_9, sb6_9, sb7_9, sb8_9, sb9_9⟩ := mch_cells (v := ⟨.slice a0z A.stack.length k0z, .slice a1z A.mem.length k1z, .slice a2z A.words.length k2z, .slice a3z A.codes.length k3z, .slice a5z A.tree.length k5z, .slice a7z A.insts.length k7z⟩) (m := A) (o := o4) sb_9)
      go_wp2_with (go_at_call 15; refine (c6 _ _ _ hT_9 p_9).mono ?_; rintro e q10 ⟨rfl, b_10⟩; have hT_10 := hT_9.below b_10; have t_10 := t_9.below b_10; have y_10 := y_9.below b_10; have own_10 := own_9.below b_10; have p_10 := p_9.below b_10; have x_10 := x_9.below b_10; have st_10 := st_9.below b_10; obtain ⟨st0_10, st1_10, st2_10, st3_10, st4_10, st5_10, st6_10, st7_10, st8_10, st9_10⟩ := mch_cells st_10; have pr_10 := pr_9.below b_10; have pr0_10 := pr_10.cell 0 _ rfl; have pr1_10 := pr_10.cell 1 _ rfl; have pr2_10 := pr_10.cell 2 _ rfl; have pr3_10 := pr_10.cell 3 _ rfl; have pr4_10 := pr_10.cell 4 _ rfl; have so_10 := so_9.below b_10; obtain ⟨so0_10, so1_10, so2_10, so3_10, so4_10, so5_10, so6_10, so7_10, so8_10, so9_10⟩ := mch_cells (v := ⟨.slice a0w m0.stack.length k0w, .slice a1w m0.mem.length k1w, .slice a2w m0.words.length k2w, .slice a3w m0.codes.length k3w, .slice a5w m0.tree.length k5w, .slice a7w m0.insts.length k7w⟩) (m := m0) (o := mo0) so_10; have sa_10 := sa_9.below b_10; obtain ⟨sa0_10, sa1_10, sa2_10, sa3_10, sa4_10, sa5_10, sa6_10, sa7_10, sa8_10, sa9_10⟩ := mch_cells (v := ⟨.slice a0x A.stack.length k0x, .slice a1x A.mem.length k1x, .slice a2x A.words.length k2x, .slice a3x A.codes.length k3x, .slice a5x A.tree.length k5x, .slice a7x A.insts.length k7x⟩) (m := A) (o := o3) sa_10; have sb_10 := sb_9.below b_10; obtain ⟨sb0_10, sb1_10, sb2_10, sb3_10, sb4_10, sb5_10, sb6_10, sb7_10, sb8_10, sb9_10⟩ := mch_cells (v := ⟨.slice a0z A.stack.length k0z, .slice a1z A.mem.length k1z, .slice a2z A.words.length k2z, .slice a3z A.codes.length k3z, .slice a5z A.tree.length k5z, .slice a7z A.insts.length k7z⟩) (m := A) (o := o4) sb_10)
      go_wp2_with (go_at_call 18; refine (c7 _ _ _ hT_10 p_10).mono ?_; rintro e q11 ⟨rfl, b_11⟩; have hT_11 := hT_10.below b_11; have t_11 := t_10.below b_11; have y_11 := y_10.below b_11; have own_11 := own_10.below b_11; have p_11 := p_10.below b_11; have x_11 := x_10.below b_11; have st_11 := st_10.below b_11; obtain ⟨st0_11, st1_11, st2_11, st3_11, st4_11, st5_11, st6_11, st7_11, st8_11, st9_11⟩ := mch_cells st_11; have pr_11 := pr_10.below b_11; have pr0_11 := pr_11.cell 0 _ rfl; have pr1_11 := pr_11.cell 1 _ rfl; have pr2_11 := pr_11.cell 2 _ rfl; have pr3_11 := pr_11.cell 3 _ rfl; have pr4_11 := pr_11.cell 4 _ rfl; have so_11 := so_10.below b_11; obtain ⟨so0_11, so1_11, so2_11, so3_11, so4_11, so5_11, so6_11, so7_11, so8_11, so9_11⟩ := mch_cells (v := ⟨.slice a0w m0.stack.length k0w, .slice a1w m0.mem.length k1w, .slice a2w m0.words.length k2w, .slice a3w m0.codes.length k3w, .slice a5w m0.tree.length k5w, .slice a7w m0.insts.length k7w⟩) (m := m0) (o := mo0) so_11; have sa_11 := sa_10.below b_11; obtain ⟨sa0_11, sa1_11, sa2_11, sa3_11, sa4_11, sa5_11, sa6_11, sa7_11, sa8_11, sa9_11⟩ := mch_cells (v := ⟨.slice a0x A.stack.length k0x, .slice a1x A.mem.length k1x, .slice a2x A.words.length k2x, .slice a3x A.codes.length k3x, .slice a5x A.tree.length k5x, .slice a7x A.insts.length k7x⟩) (m := A) (o := o3) sa_11; have sb_11 := sb_10.below b_11; obtain ⟨sb0_11, sb1_11, sb2_11, sb3_11, sb4_11, sb5_11, sb6_11, sb7_11, sb8_11, sb9_11⟩ := mch_cells (v := ⟨.slice a0z A.stack.length k0z, .slice a1z A.mem.length k1z, .slice a2z A.words.length k2z, .slice a3z A.codes.length k3z, .slice a5z A.tree.length k5z, .slice a7z A.insts.length k7z⟩) (m := A) (o := o4) sb_11)
      all_goals (first | (rename_i hh; exact absurd hh hne) | (go_ret; exact ⟨by simp [hne], below_trans (below_trans (below_trans (below_trans (below_trans (below_trans (below_trans (below_trans (below_trans (below_trans (below_trans (bb) b_1) b_2) b_3) b_4) b_5) b_6) b_7) b_8) b_9) b_10) b_11⟩))
  · have qE : (E == 0) = false := by simpa using hE
    have qN : (E != 0) = true := by simpa using hE
    clear hfo hok hLn
    go_enter Try.func7, Try.ntmps7
    go_upto_region 1 with fail
    generalize (w.alloc (.cells (mv0.cs m0 mo0) 32)).alloc (.cells #[.string wn1, .int .i64 wx1.2.1, .int .i64 wx1.2.2.1, .int .u32 wx1.2.2.2.1, wv1] 51) = W0 at st_0 pr_0 t_0 hT_0 bb y_0 ⊢
    obtain ⟨st0_0, st1_0, st2_0, st3_0, st4_0, st5_0, st6_0, st7_0, st8_0, st9_0⟩ := mch_cells st_0
    have pr0_0 := pr_0.cell 0 _ rfl
    have pr1_0 := pr_0.cell 1 _ rfl
    have pr2_0 := pr_0.cell 2 _ rfl
    have pr3_0 := pr_0.cell 3 _ rfl
    have pr4_0 := pr_0.cell 4 _ rfl
    go_upto_region 4 with (first | (go_at_call 9; refine (w_alive9 _ hT_0).mono ?_; rintro e q1 ⟨rfl, b_1⟩; have hT_1 := hT_0.below b_1; have t_1 := t_0.below b_1; have y_1 := y_0.below b_1; have st_1 := st_0.below b_1; obtain ⟨st0_1, st1_1, st2_1, st3_1, st4_1, st5_1, st6_1, st7_1, st8_1, st9_1⟩ := mch_cells st_1; have pr_1 := pr_0.below b_1; have pr0_1 := pr_1.cell 0 _ rfl; have pr1_1 := pr_1.cell 1 _ rfl; have pr2_1 := pr_1.cell 2 _ rfl; have pr3_1 := pr_1.cell 3 _ rfl; have pr4_1 := pr_1.cell 4 _ rfl) | (go_at_call 28; refine (c1 _ t_1).mono ?_; rintro e q2 ⟨v2, rfl, ow2, b_2⟩; have hT_2 := hT_1.below b_2; have t_2 := t_1.below b_2; have y_2 := y_1.below b_2; have st_2 := st_1.below b_2; obtain ⟨st0_2, st1_2, st2_2, st3_2, st4_2, st5_2, st6_2, st7_2, st8_2, st9_2⟩ := mch_cells st_2; have pr_2 := pr_1.below b_2; have pr0_2 := pr_2.cell 0 _ rfl; have pr1_2 := pr_2.cell 1 _ rfl; have pr2_2 := pr_2.cell 2 _ rfl; have pr3_2 := pr_2.cell 3 _ rfl; have pr4_2 := pr_2.cell 4 _ rfl; have own_2 := ow2.read; obtain ⟨a0w, k0w, a1w, k1w, a2w, k2w, a3w, k3w, a5w, k5w, a7w, k7w, rfl⟩ := rdm_forms own_2; simp only [Mv.cs]))
    have so_3 := stands_new q2 #[.slice a0w m0.stack.length k0w, .slice a1w m0.mem.length k1w, .slice a2w m0.words.length k2w, .slice a3w m0.codes.length k3w, .int .u32 m0.base, .slice a5w m0.tree.length k5w, .int .i64 m0.node, .slice a7w m0.insts.length k7w, .int .i64 m0.self, .string mo0] 32
    have b_3 := box_below q2 (.cells #[.slice a0w m0.stack.length k0w, .slice a1w m0.mem.length k1w, .slice a2w m0.words.length k2w, .slice a3w m0.codes.length k3w, .int .u32 m0.base, .slice a5w m0.tree.length k5w, .int .i64 m0.node, .slice a7w m0.insts.length k7w, .int .i64 m0.self, .string mo0] 32)
    obtain ⟨Bso, hBso⟩ : ∃ B, q2.heap.size = B := ⟨_, rfl⟩
    rw [hBso] at so_3
    (try simp only [hBso])
    have hT_3 := hT_2.below b_3
    have t_3 := t_2.below b_3
    have y_3 := y_2.below b_3
    have own_3 := own_2.below b_3
    have st_3 := st_2.below b_3
    have pr_3 := pr_2.below b_3
    generalize q2.alloc (.cells #[.slice a0w m0.stack.length k0w, .slice a1w m0.mem.length k1w, .slice a2w m0.words.length k2w, .slice a3w m0.codes.length k3w, .int .u32 m0.base, .slice a5w m0.tree.length k5w, .int .i64 m0.node, .slice a7w m0.insts.length k7w, .int .i64 m0.self, .string mo0] 32) = q3 at hT_3 b_3 so_3 t_3 y_3 own_3 st_3 pr_3 ⊢
    obtain ⟨st0_3, st1_3, st2_3, st3_3, st4_3, st5_3, st6_3, st7_3, st8_3, st9_3⟩ := mch_cells st_3
    have pr0_3 := pr_3.cell 0 _ rfl
    have pr1_3 := pr_3.cell 1 _ rfl
    have pr2_3 := pr_3.cell 2 _ rfl
    have pr3_3 := pr_3.cell 3 _ rfl
    have pr4_3 := pr_3.cell 4 _ rfl
    obtain ⟨so0_3, so1_3, so2_3, so3_3, so4_3, so5_3, so6_3, so7_3, so8_3, so9_3⟩ := mch_cells (v := ⟨.slice a0w m0.stack.length k0w, .slice a1w m0.mem.length k1w, .slice a2w m0.words.length k2w, .slice a3w m0.codes.length k3w, .slice a5w m0.tree.length k5w, .slice a7w m0.insts.length k7w⟩) (m := m0) (o := mo0) so_3
    go_upto_region 5 with ((go_at_call 29; refine (c2 _ _ hT_3 own_3 y_3).mono ?_; rintro e q4 ⟨v4, o3, rfl, p_4, b_4⟩; have hT_4 := hT_3.below b_4; have t_4 := t_3.below b_4; have y_4 := y_3.below b_4; have own_4 := own_3.below b_4; have st_4 := st_3.below b_4; obtain ⟨st0_4, st1_4, st2_4, st3_4, st4_4, st5_4, st6_4, st7_4, st8_4, st9_4⟩ := mch_cells st_4; have pr_4 := pr_3.below b_4; have pr0_4 := pr_4.cell 0 _ rfl; have pr1_4 := pr_4.cell 1 _ rfl; have pr2_4 := pr_4.cell 2 _ rfl; have pr3_4 := pr_4.cell 3 _ rfl; have pr4_4 := pr_4.cell 4 _ rfl; have so_4 := so_3.below b_4; obtain ⟨so0_4, so1_4, so2_4, so3_4, so4_4, so5_4, so6_4, so7_4, so8_4, so9_4⟩ := mch_cells (v := ⟨.slice a0w m0.stack.length k0w, .slice a1w m0.mem.length k1w, .slice a2w m0.words.length k2w, .slice a3w m0.codes.length k3w, .slice a5w m0.tree.length k5w, .slice a7w m0.insts.length k7w⟩) (m := m0) (o := mo0) so_4; obtain ⟨a0x, k0x, a1x, k1x, a2x, k2x, a3x, k3x, a5x, k5x, a7x, k7x, rfl⟩ := rdm_forms p_4; simp only [Mv.cs]))
    have sa_5 := stands_new q4 #[.slice a0x A.stack.length k0x, .slice a1x A.mem.length k1x, .slice a2x A.words.length k2x, .slice a3x A.codes.length k3x, .int .u32 A.base, .slice a5x A.tree.length k5x, .int .i64 A.node, .slice a7x A.insts.length k7x, .int .i64 A.self, .string o3] 32
    have b_5 := box_below q4 (.cells #[.slice a0x A.stack.length k0x, .slice a1x A.mem.length k1x, .slice a2x A.words.length k2x, .slice a3x A.codes.length k3x, .int .u32 A.base, .slice a5x A.tree.length k5x, .int .i64 A.node, .slice a7x A.insts.length k7x, .int .i64 A.self, .string o3] 32)
    obtain ⟨Bsa, hBsa⟩ : ∃ B, q4.heap.size = B := ⟨_, rfl⟩
    rw [hBsa] at sa_5
    (try simp only [hBsa])
    have hT_5 := hT_4.below b_5
    have t_5 := t_4.below b_5
    have y_5 := y_4.below b_5
    have own_5 := own_4.below b_5
    have p_5 := p_4.below b_5
    have st_5 := st_4.below b_5
    have pr_5 := pr_4.below b_5
    have so_5 := so_4.below b_5
    generalize q4.alloc (.cells #[.slice a0x A.stack.length k0x, .slice a1x A.mem.length k1x, .slice a2x A.words.length k2x, .slice a3x A.codes.length k3x, .int .u32 A.base, .slice a5x A.tree.length k5x, .int .i64 A.node, .slice a7x A.insts.length k7x, .int .i64 A.self, .string o3] 32) = q5 at hT_5 b_5 sa_5 t_5 y_5 own_5 p_5 st_5 pr_5 so_5 ⊢
    obtain ⟨st0_5, st1_5, st2_5, st3_5, st4_5, st5_5, st6_5, st7_5, st8_5, st9_5⟩ := mch_cells st_5
    have pr0_5 := pr_5.cell 0 _ rfl
    have pr1_5 := pr_5.cell 1 _ rfl
    have pr2_5 := pr_5.cell 2 _ rfl
    have pr3_5 := pr_5.cell 3 _ rfl
    have pr4_5 := pr_5.cell 4 _ rfl
    obtain ⟨so0_5, so1_5, so2_5, so3_5, so4_5, so5_5, so6_5, so7_5, so8_5, so9_5⟩ := mch_cells (v := ⟨.slice a0w m0.stack.length k0w, .slice a1w m0.mem.length k1w, .slice a2w m0.words.length k2w, .slice a3w m0.codes.length k3w, .slice a5w m0.tree.length k5w, .slice a7w m0.insts.length k7w⟩) (m := m0) (o := mo0) so_5
    obtain ⟨sa0_5, sa1_5, sa2_5, sa3_5, sa4_5, sa5_5, sa6_5, sa7_5, sa8_5, sa9_5⟩ := mch_cells (v := ⟨.slice a0x A.stack.length k0x, .slice a1x A.mem.length k1x, .slice a2x A.words.length k2x, .slice a3x A.codes.length k3x, .slice a5x A.tree.length k5x, .slice a7x A.insts.length k7x⟩) (m := A) (o := o3) sa_5
    go_upto_region 6 with ((go_at_call 30; refine (c3 _ t_5 y_5).mono ?_; rintro e q6 ⟨v6, o4, rfl, ow6, b_6⟩; have hT_6 := hT_5.below b_6; have t_6 := t_5.below b_6; have y_6 := y_5.below b_6; have own_6 := own_5.below b_6; have p_6 := p_5.below b_6; have st_6 := st_5.below b_6; obtain ⟨st0_6, st1_6, st2_6, st3_6, st4_6, st5_6, st6_6, st7_6, st8_6, st9_6⟩ := mch_cells st_6; have pr_6 := pr_5.below b_6; have pr0_6 := pr_6.cell 0 _ rfl; have pr1_6 := pr_6.cell 1 _ rfl; have pr2_6 := pr_6.cell 2 _ rfl; have pr3_6 := pr_6.cell 3 _ rfl; have pr4_6 := pr_6.cell 4 _ rfl; have so_6 := so_5.below b_6; obtain ⟨so0_6, so1_6, so2_6, so3_6, so4_6, so5_6, so6_6, so7_6, so8_6, so9_6⟩ := mch_cells (v := ⟨.slice a0w m0.stack.length k0w, .slice a1w m0.mem.length k1w, .slice a2w m0.words.length k2w, .slice a3w m0.codes.length k3w, .slice a5w m0.tree.length k5w, .slice a7w m0.insts.length k7w⟩) (m := m0) (o := mo0) so_6; have sa_6 := sa_5.below b_6; obtain ⟨sa0_6, sa1_6, sa2_6, sa3_6, sa4_6, sa5_6, sa6_6, sa7_6, sa8_6, sa9_6⟩ := mch_cells (v := ⟨.slice a0x A.stack.length k0x, .slice a1x A.mem.length k1x, .slice a2x A.words.length k2x, .slice a3x A.codes.length k3x, .slice a5x A.tree.length k5x, .slice a7x A.insts.length k7x⟩) (m := A) (o := o3) sa_6; have x_6 := ow6.read; obtain ⟨a0z, k0z, a1z, k1z, a2z, k2z, a3z, k3z, a5z, k5z, a7z, k7z, rfl⟩ := rdm_forms x_6; simp only [Mv.cs]))
    have sb_7 := stands_new q6 #[.slice a0z A.stack.length k0z, .slice a1z A.mem.length k1z, .slice a2z A.words.length k2z, .slice a3z A.codes.length k3z, .int .u32 A.base, .slice a5z A.tree.length k5z, .int .i64 A.node, .slice a7z A.insts.length k7z, .int .i64 A.self, .string o4] 32
    have b_7 := box_below q6 (.cells #[.slice a0z A.stack.length k0z, .slice a1z A.mem.length k1z, .slice a2z A.words.length k2z, .slice a3z A.codes.length k3z, .int .u32 A.base, .slice a5z A.tree.length k5z, .int .i64 A.node, .slice a7z A.insts.length k7z, .int .i64 A.self, .string o4] 32)
    obtain ⟨Bsb, hBsb⟩ : ∃ B, q6.heap.size = B := ⟨_, rfl⟩
    rw [hBsb] at sb_7
    (try simp only [hBsb])
    have hT_7 := hT_6.below b_7
    have t_7 := t_6.below b_7
    have y_7 := y_6.below b_7
    have own_7 := own_6.below b_7
    have p_7 := p_6.below b_7
    have x_7 := x_6.below b_7
    have st_7 := st_6.below b_7
    have pr_7 := pr_6.below b_7
    have so_7 := so_6.below b_7
    have sa_7 := sa_6.below b_7
    generalize q6.alloc (.cells #[.slice a0z A.stack.length k0z, .slice a1z A.mem.length k1z, .slice a2z A.words.length k2z, .slice a3z A.codes.length k3z, .int .u32 A.base, .slice a5z A.tree.length k5z, .int .i64 A.node, .slice a7z A.insts.length k7z, .int .i64 A.self, .string o4] 32) = q7 at hT_7 b_7 sb_7 t_7 y_7 own_7 p_7 x_7 st_7 pr_7 so_7 sa_7 ⊢
    obtain ⟨st0_7, st1_7, st2_7, st3_7, st4_7, st5_7, st6_7, st7_7, st8_7, st9_7⟩ := mch_cells st_7
    have pr0_7 := pr_7.cell 0 _ rfl
    have pr1_7 := pr_7.cell 1 _ rfl
    have pr2_7 := pr_7.cell 2 _ rfl
    have pr3_7 := pr_7.cell 3 _ rfl
    have pr4_7 := pr_7.cell 4 _ rfl
    obtain ⟨so0_7, so1_7, so2_7, so3_7, so4_7, so5_7, so6_7, so7_7, so8_7, so9_7⟩ := mch_cells (v := ⟨.slice a0w m0.stack.length k0w, .slice a1w m0.mem.length k1w, .slice a2w m0.words.length k2w, .slice a3w m0.codes.length k3w, .slice a5w m0.tree.length k5w, .slice a7w m0.insts.length k7w⟩) (m := m0) (o := mo0) so_7
    obtain ⟨sa0_7, sa1_7, sa2_7, sa3_7, sa4_7, sa5_7, sa6_7, sa7_7, sa8_7, sa9_7⟩ := mch_cells (v := ⟨.slice a0x A.stack.length k0x, .slice a1x A.mem.length k1x, .slice a2x A.words.length k2x, .slice a3x A.codes.length k3x, .slice a5x A.tree.length k5x, .slice a7x A.insts.length k7x⟩) (m := A) (o := o3) sa_7
    obtain ⟨sb0_7, sb1_7, sb2_7, sb3_7, sb4_7, sb5_7, sb6_7, sb7_7, sb8_7, sb9_7⟩ := mch_cells (v := ⟨.slice a0z A.stack.length k0z, .slice a1z A.mem.length k1z, .slice a2z A.words.length k2z, .slice a3z A.codes.length k3z, .slice a5z A.tree.length k5z, .slice a7z A.insts.length k7z⟩) (m := A) (o := o4) sb_7
    go_wp2_with (go_at_call_of 10 (Value.agg #[.slice a0x A.stack.length k0x, .slice a1x A.mem.length k1x, .slice a2x A.words.length k2x, .slice a3x A.codes.length k3x, .int .u32 A.base, .slice a5x A.tree.length k5x, .int .i64 A.node, .slice a7x A.insts.length k7x, .int .i64 A.self, .string o3]); refine (c4 _ _ _ _ _ p_7 x_7).mono ?_; rintro e q8 ⟨rfl, b_8⟩; have hT_8 := hT_7.below b_8; have t_8 := t_7.below b_8; have y_8 := y_7.below b_8; have own_8 := own_7.below b_8; have p_8 := p_7.below b_8; have x_8 := x_7.below b_8; have st_8 := st_7.below b_8; obtain ⟨st0_8, st1_8, st2_8, st3_8, st4_8, st5_8, st6_8, st7_8, st8_8, st9_8⟩ := mch_cells st_8; have pr_8 := pr_7.below b_8; have pr0_8 := pr_8.cell 0 _ rfl; have pr1_8 := pr_8.cell 1 _ rfl; have pr2_8 := pr_8.cell 2 _ rfl; have pr3_8 := pr_8.cell 3 _ rfl; have pr4_8 := pr_8.cell 4 _ rfl; have so_8 := so_7.below b_8; obtain ⟨so0_8, so1_8, so2_8, so3_8, so4_8, so5_8, so6_8, so7_8, so8_8, so9_8⟩ := mch_cells (v := ⟨.slice a0w m0.stack.length k0w, .slice a1w m0.mem.length k1w, .slice a2w m0.words.length k2w, .slice a3w m0.codes.length k3w, .slice a5w m0.tree.length k5w, .slice a7w m0.insts.length k7w⟩) (m := m0) (o := mo0) so_8; have sa_8 := sa_7.below b_8; obtain ⟨sa0_8, sa1_8, sa2_8, sa3_8, sa4_8, sa5_8, sa6_8, sa7_8, sa8_8, sa9_8⟩ := mch_cells (v := ⟨.slice a0x A.stack.length k0x, .slice a1x A.mem.length k1x, .slice a2x A.words.length k2x, .slice a3x A.codes.length k3x, .slice a5x A.tree.length k5x, .slice a7x A.insts.length k7x⟩) (m := A) (o := o3) sa_8; have sb_8 := sb_7.below b_8; obtain ⟨sb0_8, sb1_8, sb2_8, sb3_8, sb4_8, sb5_8, sb6_8, sb7_8, sb8_8, sb9_8⟩ := mch_cells (v := ⟨.slice a0z A.stack.length k0z, .slice a1z A.mem.length k1z, .slice a2z A.words.length k2z, .slice a3z A.codes.length k3z, .slice a5z A.tree.length k5z, .slice a7z A.insts.length k7z⟩) (m := A) (o := o4) sb_8)
    go_wp2_with (go_at_call_of 10 (Value.agg #[.slice a0w m0.stack.length k0w, .slice a1w m0.mem.length k1w, .slice a2w m0.words.length k2w, .slice a3w m0.codes.length k3w, .int .u32 m0.base, .slice a5w m0.tree.length k5w, .int .i64 m0.node, .slice a7w m0.insts.length k7w, .int .i64 m0.self, .string mo0]); refine (c5 _ _ own_8 t_8).mono ?_; rintro e q9 ⟨rfl, b_9⟩; have hT_9 := hT_8.below b_9; have t_9 := t_8.below b_9; have y_9 := y_8.below b_9; have own_9 := own_8.below b_9; have p_9 := p_8.below b_9; have x_9 := x_8.below b_9; have st_9 := st_8.below b_9; obtain ⟨st0_9, st1_9, st2_9, st3_9, st4_9, st5_9, st6_9, st7_9, st8_9, st9_9⟩ := mch_cells st_9; have pr_9 := pr_8.below b_9; have pr0_9 := pr_9.cell 0 _ rfl; have pr1_9 := pr_9.cell 1 _ rfl; have pr2_9 := pr_9.cell 2 _ rfl; have pr3_9 := pr_9.cell 3 _ rfl; have pr4_9 := pr_9.cell 4 _ rfl; have so_9 := so_8.below b_9; obtain ⟨so0_9, so1_9, so2_9, so3_9, so4_9, so5_9, so6_9, so7_9, so8_9, so9_9⟩ := mch_cells (v := ⟨.slice a0w m0.stack.length k0w, .slice a1w m0.mem.length k1w, .slice a2w m0.words.length k2w, .slice a3w m0.codes.length k3w, .slice a5w m0.tree.length k5w, .slice a7w m0.insts.length k7w⟩) (m := m0) (o := mo0) so_9; have sa_9 := sa_8.below b_9; obtain ⟨sa0_9, sa1_9, sa2_9, sa3_9, sa4_9, sa5_9, sa6_9, sa7_9, sa8_9, sa9_9⟩ := mch_cells (v := ⟨.slice a0x A.stack.length k0x, .slice a1x A.mem.length k1x, .slice a2x A.words.length k2x, .slice a3x A.codes.length k3x, .slice a5x A.tree.length k5x, .slice a7x A.insts.length k7x⟩) (m := A) (o := o3) sa_9; have sb_9 := sb_8.below b_9; obtain ⟨sb0_9, sb1_9, sb2_9, sb3_9, sb4_9, sb5_9, sb6_9, sb7_9, sb8_9, sb9_9⟩ := mch_cells (v := ⟨.slice a0z A.stack.length k0z, .slice a1z A.mem.length k1z, .slice a2z A.words.length k2z, .slice a3z A.codes.length k3z, .slice a5z A.tree.length k5z, .slice a7z A.insts.length k7z⟩) (m := A) (o := o4) sb_9)
    go_ret
    exact ⟨by simp, below_trans (below_trans (below_trans (below_trans (below_trans (below_trans (below_trans (below_trans (below_trans (bb) b_1) b_2) b_3) b_4) b_5) b_6) b_7) b_8) b_9⟩

set_option maxRecDepth 100000 in
theorem lifted (os : Os) (started : os.Started) (H : Type) (enc : TypeId × Value → H) :
    ReturnsInHanded {} Try.checked os 7 .any (Rows.dictDefinesSpec.pre6 enc Try.prog Try.f7 Rows.dictDefinesRow.domain false) (Rows.dictDefinesSpec.post enc Try.prog Try.f7 false true false false) := by
  refine returnsInHanded_of_change_sized (C := Try.checked) own started (by kernel_rfl) Try.func7
    (ChangeSpec.witness6 (enc := enc) (C := Try.checked) false ⟨#[], #[.agg #[.slice none 0 0, .slice none 0 0, .slice none 0 0, .slice none 0 0, .int .u32 0, .slice none 0 0, .int .i64 0, .slice none 0 0, .int .i64 0, .string ⟨#[]⟩], .agg #[.string ⟨#[]⟩, .int .i64 0, .int .i64 0, .int .u32 0, .slice none 0 0]], []⟩ 8 (by kernel_rfl) (by kernel_rfl) (by kernel_rfl) (by kernel_rfl)) ?_
  intro W base args ds gs before hval0 hW hcnd hsz0 _
  have hval : ∀ (j : Nat) t v, Try.f7.params[j]? = some t → args[j]? = some v → Value.okWide Try.prog W .any base t v := hval0
  have hsz : (DataW.weightsEach Try.prog (Try.f7.params.toList ++ Rows.dictDefinesSpec.plain.varTypes Try.prog) (ds ++ gs)).all (· ≤ reachBytes) = true := hsz0
  have hW' := hW
  obtain ⟨p, q, hA0, hV, rfl, hfz, hnd⟩ := hW
  have hA : DataW.TrodAll enc Try.prog W 0 (fun _ => true) true Try.f7.params.toList args.toList ds p := hA0
  rw [Try.params7] at hA hval hsz
  obtain ⟨v0, vs0, d0, ds0, p0, q0, hargs, rfl, rfl, h0, r0⟩ := trodAll_cons hA
  obtain ⟨v1, vs1, d1, ds1, p1, q1, rfl, rfl, rfl, h1, r1⟩ := trodAll_cons r0
  obtain ⟨rfl, rfl, rfl⟩ := trodAll_nil r1
  obtain rfl : args = #[v0, v1] := by cases args; simp_all
  obtain ⟨rfl, rfl⟩ := trodVars_none hV
  have k0 := h0
  have lt0 : ∀ x ∈ p0, x.block < W.heap.size := by obtain ⟨m, hm⟩ := k0; exact DataW.trod_lt m _ _ _ hm
  obtain ⟨mv0, m0, mo0, rfl, r100, g0, ws0⟩ := mch_open (hval 0 32 v0 rfl rfl) h0 (fun n hn => by simpa using List.all_eq_true.1 hsz n (DataW.weights_mem_each (j := 0) (t := 32) (d := d0) rfl rfl n hn))
  have k1 := h1
  have lt1 : ∀ x ∈ p1, x.block < W.heap.size := by obtain ⟨m, hm⟩ := k1; exact DataW.trod_lt m _ _ _ hm
  obtain ⟨wn1, wv1, wx1, rfl, we1, r101, g1⟩ := wrd_open (hval 1 51 v1 rfl rfl) h1 (fun n hn => by simpa using List.all_eq_true.1 hsz n (DataW.weights_mem_each (j := 1) (t := 51) (d := d1) rfl rfl n hn))
  clear hA0 hval0 hsz0
  refine (walk mv0 m0 mo0 wn1 wv1 wx1 W r100 g0 ws0 we1 r101 g1).mono fun e W' ⟨he, bel⟩ => ?_
  subst he
  exact ⟨_, rfl, _, _, _, [], _, [], hW', trodAll_mk1 (shut_bool Try.underlying4 _), (trodAll_cons_mk (Below.trod laidOut (by kernel_rfl) (of_decide_eq_true (by kernel_rfl)) k0 bel lt0) (trodAll_cons_mk (Below.trod laidOut (by kernel_rfl) (of_decide_eq_true (by kernel_rfl)) k1 bel lt1) trodAll_mk0)), rfl, bel.frame _, fun h => by cases h⟩

theorem over : Rows.dictDefinesRow.holds Try.pinned (OpenSpec.ofChange Rows.dictDefinesSpec) :=
  OpenClaim.holds_of_wide 7 Try.f7 rfl rfl rfl rfl rfl rfl rfl ⟨rfl, rfl, rfl, rfl, rfl⟩ rfl rfl rfl rfl rfl (by kernel_rfl) Try.func7 (by kernel_rfl)
    (of_decide_eq_true (by kernel_rfl)) (by unfold Func.isWrapper; first | (rw [if_pos (by decide +kernel)]; kernel_rfl) | (rw [if_neg (by decide +kernel)]; exact ⟨rfl, rfl⟩))
    (fun os started H enc _ => lifted os started H enc)
end Go.Proofs.Ytfljcfpcokimcaa.dictDefines
namespace Go.Proofs.Ytfljcfpcokimcaa
theorem dictDefines_holds : Rows.DictDefinesSaid := dictDefines.over
#print axioms dictDefines_holds
end Go.Proofs.Ytfljcfpcokimcaa
