/-
  A new word changes nothing of where other names lead.
-/
import Derived.Test.YtfljcfpcokimcabRows
import Derived.WalkKit
import Derived.ProofKit
import Derived.OpenShut
import Derived.ShutString
import Derived.ChangeOld
import Derived.Below
import Derived.Carry
import Derived.SizedLaws
import Derived.Test.YtfljcfpcokimcabB11
namespace Go.Proofs.Ytfljcfpcokimcab.dictNewest
open Go.ChangeShapes Go.WideShapes Go.ChangeAt Go.RowKit
open Go.ChangeMaps (open_string shut_string)
set_option linter.unusedVariables false

theorem own : ownKnob Try.prog.godebug = none := by kernel_rfl
theorem laidOut : laidOutB Try.prog = true := by kernel_rfl

set_option maxHeartbeats 4000000 in
set_option maxRecDepth 100000 in
theorem walk (mv0 : Mv) (m0 : Mc) (mo0 : ByteArray) (wn1 : ByteArray) (wv1 : Value) (wx1 : Wd) (a2 : ByteArray) (w : World) (r0 : RdM w mv0 m0 mo0) (g0 : gM m0) (ws0 : mo0.size ≤ maxLen) (we1 : strOfNums wx1.1 = wn1) (r1 : RdO w wv1 wx1.2.2.2.2) (g1 : gW wx1) (w2 : a2.size ≤ maxLen) :
    Calls Try.prog 3 #[.agg (mv0.cs m0 mo0), .agg #[.string wn1, .int .i64 wx1.2.1, .int .i64 wx1.2.2.1, .int .u32 wx1.2.2.2.1, wv1], .string a2] w fun e w' => e = .returned (.bool true) ∧ Below w.heap.size w w' := by
  have hT : Tab w := trivial
  have st_0 := (stands_new w (mv0.cs m0 mo0) 30).below (box_below _ (.cells #[.string wn1, .int .i64 wx1.2.1, .int .i64 wx1.2.2.1, .int .u32 wx1.2.2.2.1, wv1] 33))
  have pr_0 := stands_new (w.alloc (.cells (mv0.cs m0 mo0) 30)) #[.string wn1, .int .i64 wx1.2.1, .int .i64 wx1.2.2.1, .int .u32 wx1.2.2.2.1, wv1] 33
  rw [size_al] at pr_0
  have bb := below_trans (box_below w (.cells (mv0.cs m0 mo0) 30)) (box_below _ (.cells #[.string wn1, .int .i64 wx1.2.1, .int .i64 wx1.2.2.1, .int .u32 wx1.2.2.2.1, wv1] 33))
  have t_0 := r0.below bb
  have hT_0 := hT.below bb
  have y_0 := r1.below bb
  have c2 := fun w hT h y => w_p9define m0 mv0 mo0 wx1 wn1 wv1 w hT h g0 we1 y g1
  have hok := dfn_ok (m := m0) (w := wx1)
  have hga := dfn_gM (m := m0) (x := wx1) g0 g1
  obtain ⟨A, M, E, hA⟩ : ∃ A M E, dfnF m0 wx1 = (A, M, E) := ⟨_, _, _, rfl⟩
  simp only [hA] at c2 hga hok
  clear hA
  have hN := str_eq9 a2 wn1 (L a2) wx1.1 (LB_bytes a2) g1.byt (nums_LB a2) we1
  have hnode := g1.node
  have c3 := fun v o w hT h => w_p9find v A o a2 w hT h hga w2
  have c4 := fun w hT h => w_p9find mv0 m0 mo0 a2 w hT h g0 w2
  have c5 := fun v o w hT h => w_p9method v A o a2 wx1.2.1 w hT h hga w2 hnode
  have c6 := fun w hT h => w_p9method mv0 m0 mo0 a2 wx1.2.1 w hT h g0 w2 hnode
  by_cases hE : E = 0
  · subst hE
    by_cases hn : L a2 = wx1.1
    · rw [decide_eq_true hn] at hN
      clear hok hn
      go_enter Try.func3, Try.ntmps3
      go_upto_region 1 with fail
      generalize (w.alloc (.cells (mv0.cs m0 mo0) 30)).alloc (.cells #[.string wn1, .int .i64 wx1.2.1, .int .i64 wx1.2.2.1, .int .u32 wx1.2.2.2.1, wv1] 33) = W0 at st_0 pr_0 t_0 hT_0 bb y_0 ⊢
      obtain ⟨st0_0, st1_0, st2_0, st3_0, st4_0, st5_0, st6_0, st7_0, st8_0, st9_0⟩ := mch_cells2 st_0
      have pr0_0 := pr_0.cell 0 _ rfl
      have pr1_0 := pr_0.cell 1 _ rfl
      have pr2_0 := pr_0.cell 2 _ rfl
      have pr3_0 := pr_0.cell 3 _ rfl
      have pr4_0 := pr_0.cell 4 _ rfl
      go_upto_region 4 with (first | (go_at_call 4; refine (w_alive9 _ hT_0).mono ?_; rintro e q1 ⟨rfl, b_1⟩; have hT_1 := hT_0.below b_1; have t_1 := t_0.below b_1; have y_1 := y_0.below b_1; have st_1 := st_0.below b_1; obtain ⟨st0_1, st1_1, st2_1, st3_1, st4_1, st5_1, st6_1, st7_1, st8_1, st9_1⟩ := mch_cells2 st_1; have pr_1 := pr_0.below b_1; have pr0_1 := pr_1.cell 0 _ rfl; have pr1_1 := pr_1.cell 1 _ rfl; have pr2_1 := pr_1.cell 2 _ rfl; have pr3_1 := pr_1.cell 3 _ rfl; have pr4_1 := pr_1.cell 4 _ rfl) | (go_at_call 5; refine (c2 _ hT_1 t_1 y_1).mono ?_; rintro e q2 ⟨v2, o3, rfl, p_2, b_2⟩; have hT_2 := hT_1.below b_2; have t_2 := t_1.below b_2; have y_2 := y_1.below b_2; have st_2 := st_1.below b_2; obtain ⟨st0_2, st1_2, st2_2, st3_2, st4_2, st5_2, st6_2, st7_2, st8_2, st9_2⟩ := mch_cells2 st_2; have pr_2 := pr_1.below b_2; have pr0_2 := pr_2.cell 0 _ rfl; have pr1_2 := pr_2.cell 1 _ rfl; have pr2_2 := pr_2.cell 2 _ rfl; have pr3_2 := pr_2.cell 3 _ rfl; have pr4_2 := pr_2.cell 4 _ rfl; obtain ⟨a0x, k0x, a1x, k1x, a2x, k2x, a3x, k3x, a5x, k5x, a7x, k7x, rfl⟩ := rdm_forms p_2; simp only [Mv.cs]))
      have sa_3 := stands_new q2 #[.slice a0x A.stack.length k0x, .slice a1x A.mem.length k1x, .slice a2x A.words.length k2x, .slice a3x A.codes.length k3x, .int .u32 A.base, .slice a5x A.tree.length k5x, .int .i64 A.node, .slice a7x A.insts.length k7x, .int .i64 A.self, .string o3] 30
      have b_3 := box_below q2 (.cells #[.slice a0x A.stack.length k0x, .slice a1x A.mem.length k1x, .slice a2x A.words.length k2x, .slice a3x A.codes.length k3x, .int .u32 A.base, .slice a5x A.tree.length k5x, .int .i64 A.node, .slice a7x A.insts.length k7x, .int .i64 A.self, .string o3] 30)
      obtain ⟨Bsa, hBsa⟩ : ∃ B, q2.heap.size = B := ⟨_, rfl⟩
      rw [hBsa] at sa_3
      (try simp only [hBsa])
      have hT_3 := hT_2.below b_3
      have t_3 := t_2.below b_3
      have y_3 := y_2.below b_3
      have p_3 := p_2.below b_3
      have st_3 := st_2.below b_3
      have pr_3 := pr_2.below b_3
      generalize q2.alloc (.cells #[.slice a0x A.stack.length k0x, .slice a1x A.mem.length k1x, .slice a2x A.words.length k2x, .slice a3x A.codes.length k3x, .int .u32 A.base, .slice a5x A.tree.length k5x, .int .i64 A.node, .slice a7x A.insts.length k7x, .int .i64 A.self, .string o3] 30) = q3 at hT_3 b_3 sa_3 t_3 y_3 p_3 st_3 pr_3 ⊢
      obtain ⟨st0_3, st1_3, st2_3, st3_3, st4_3, st5_3, st6_3, st7_3, st8_3, st9_3⟩ := mch_cells2 st_3
      have pr0_3 := pr_3.cell 0 _ rfl
      have pr1_3 := pr_3.cell 1 _ rfl
      have pr2_3 := pr_3.cell 2 _ rfl
      have pr3_3 := pr_3.cell 3 _ rfl
      have pr4_3 := pr_3.cell 4 _ rfl
      obtain ⟨sa0_3, sa1_3, sa2_3, sa3_3, sa4_3, sa5_3, sa6_3, sa7_3, sa8_3, sa9_3⟩ := mch_cells2 (v := ⟨.slice a0x A.stack.length k0x, .slice a1x A.mem.length k1x, .slice a2x A.words.length k2x, .slice a3x A.codes.length k3x, .slice a5x A.tree.length k5x, .slice a7x A.insts.length k7x⟩) (m := A) (o := o3) sa_3
      go_wp2_with fail
      go_ret
      exact ⟨by simp, below_trans (below_trans (below_trans (bb) b_1) b_2) b_3⟩
    · rw [decide_eq_false hn] at hN
      obtain ⟨hF, hM⟩ := dfn_others (n := wx1.2.1) hn (hok rfl)
      simp only [hF] at c3
      simp only [hM] at c5
      obtain ⟨I0, hI0⟩ : ∃ I, fnI (fndF m0.words (L a2)) = I := ⟨_, rfl⟩
      obtain ⟨B0, hB0⟩ : ∃ B, (fndF m0.words (L a2)).isSome = B := ⟨_, rfl⟩
      simp only [hI0, hB0] at c3 c4
      clear hI0 hB0
      have qI0 : (I0 == I0) = true := beq_self_eq_true _
      have qB0 : (B0 == B0) = true := beq_self_eq_true _
      obtain ⟨I1, hI1⟩ : ∃ I, fnI (mthF m0.words wx1.2.1 (L a2)) = I := ⟨_, rfl⟩
      obtain ⟨B1, hB1⟩ : ∃ B, (mthF m0.words wx1.2.1 (L a2)).isSome = B := ⟨_, rfl⟩
      simp only [hI1, hB1] at c5 c6
      clear hI1 hB1
      have qI1 : (I1 == I1) = true := beq_self_eq_true _
      have qB1 : (B1 == B1) = true := beq_self_eq_true _
      clear hok hn hF hM
      go_enter Try.func3, Try.ntmps3
      go_upto_region 1 with fail
      generalize (w.alloc (.cells (mv0.cs m0 mo0) 30)).alloc (.cells #[.string wn1, .int .i64 wx1.2.1, .int .i64 wx1.2.2.1, .int .u32 wx1.2.2.2.1, wv1] 33) = W0 at st_0 pr_0 t_0 hT_0 bb y_0 ⊢
      obtain ⟨st0_0, st1_0, st2_0, st3_0, st4_0, st5_0, st6_0, st7_0, st8_0, st9_0⟩ := mch_cells2 st_0
      have pr0_0 := pr_0.cell 0 _ rfl
      have pr1_0 := pr_0.cell 1 _ rfl
      have pr2_0 := pr_0.cell 2 _ rfl
      have pr3_0 := pr_0.cell 3 _ rfl
      have pr4_0 := pr_0.cell 4 _ rfl
      go_upto_region 4 with (first | (go_at_call 4; refine (w_alive9 _ hT_0).mono ?_; rintro e q1 ⟨rfl, b_1⟩; have hT_1 := hT_0.below b_1; have t_1 := t_0.below b_1; have y_1 := y_0.below b_1; have st_1 := st_0.below b_1; obtain ⟨st0_1, st1_1, st2_1, st3_1, st4_1, st5_1, st6_1, st7_1, st8_1, st9_1⟩ := mch_cells2 st_1; have pr_1 := pr_0.below b_1; have pr0_1 := pr_1.cell 0 _ rfl; have pr1_1 := pr_1.cell 1 _ rfl; have pr2_1 := pr_1.cell 2 _ rfl; have pr3_1 := pr_1.cell 3 _ rfl; have pr4_1 := pr_1.cell 4 _ rfl) | (go_at_call 5; refine (c2 _ hT_1 t_1 y_1).mono ?_; rintro e q2 ⟨v2, o3, rfl, p_2, b_2⟩; have hT_2 := hT_1.below b_2; have t_2 := t_1.below b_2; have y_2 := y_1.below b_2; have st_2 := st_1.below b_2; obtain ⟨st0_2, st1_2, st2_2, st3_2, st4_2, st5_2, st6_2, st7_2, st8_2, st9_2⟩ := mch_cells2 st_2; have pr_2 := pr_1.below b_2; have pr0_2 := pr_2.cell 0 _ rfl; have pr1_2 := pr_2.cell 1 _ rfl; have pr2_2 := pr_2.cell 2 _ rfl; have pr3_2 := pr_2.cell 3 _ rfl; have pr4_2 := pr_2.cell 4 _ rfl; obtain ⟨a0x, k0x, a1x, k1x, a2x, k2x, a3x, k3x, a5x, k5x, a7x, k7x, rfl⟩ := rdm_forms p_2; simp only [Mv.cs]))
      have sa_3 := stands_new q2 #[.slice a0x A.stack.length k0x, .slice a1x A.mem.length k1x, .slice a2x A.words.length k2x, .slice a3x A.codes.length k3x, .int .u32 A.base, .slice a5x A.tree.length k5x, .int .i64 A.node, .slice a7x A.insts.length k7x, .int .i64 A.self, .string o3] 30
      have b_3 := box_below q2 (.cells #[.slice a0x A.stack.length k0x, .slice a1x A.mem.length k1x, .slice a2x A.words.length k2x, .slice a3x A.codes.length k3x, .int .u32 A.base, .slice a5x A.tree.length k5x, .int .i64 A.node, .slice a7x A.insts.length k7x, .int .i64 A.self, .string o3] 30)
      obtain ⟨Bsa, hBsa⟩ : ∃ B, q2.heap.size = B := ⟨_, rfl⟩
      rw [hBsa] at sa_3
      (try simp only [hBsa])
      have hT_3 := hT_2.below b_3
      have t_3 := t_2.below b_3
      have y_3 := y_2.below b_3
      have p_3 := p_2.below b_3
      have st_3 := st_2.below b_3
      have pr_3 := pr_2.below b_3
      generalize q2.alloc (.cells #[.slice a0x A.stack.length k0x, .slice a1x A.mem.length k1x, .slice a2x A.words.length k2x, .slice a3x A.codes.length k3x, .int .u32 A.base, .slice a5x A.tree.length k5x, .int .i64 A.node, .slice a7x A.insts.length k7x, .int .i64 A.self, .string o3] 30) = q3 at hT_3 b_3 sa_3 t_3 y_3 p_3 st_3 pr_3 ⊢
      obtain ⟨st0_3, st1_3, st2_3, st3_3, st4_3, st5_3, st6_3, st7_3, st8_3, st9_3⟩ := mch_cells2 st_3
      have pr0_3 := pr_3.cell 0 _ rfl
      have pr1_3 := pr_3.cell 1 _ rfl
      have pr2_3 := pr_3.cell 2 _ rfl
      have pr3_3 := pr_3.cell 3 _ rfl
      have pr4_3 := pr_3.cell 4 _ rfl
      obtain ⟨sa0_3, sa1_3, sa2_3, sa3_3, sa4_3, sa5_3, sa6_3, sa7_3, sa8_3, sa9_3⟩ := mch_cells2 (v := ⟨.slice a0x A.stack.length k0x, .slice a1x A.mem.length k1x, .slice a2x A.words.length k2x, .slice a3x A.codes.length k3x, .slice a5x A.tree.length k5x, .slice a7x A.insts.length k7x⟩) (m := A) (o := o3) sa_3
      go_upto_region 7 with ((go_at_call 6; refine (c3 _ _ _ hT_3 p_3).mono ?_; rintro e q4 ⟨rfl, b_4⟩; have hT_4 := hT_3.below b_4; have t_4 := t_3.below b_4; have y_4 := y_3.below b_4; have p_4 := p_3.below b_4; have st_4 := st_3.below b_4; obtain ⟨st0_4, st1_4, st2_4, st3_4, st4_4, st5_4, st6_4, st7_4, st8_4, st9_4⟩ := mch_cells2 st_4; have pr_4 := pr_3.below b_4; have pr0_4 := pr_4.cell 0 _ rfl; have pr1_4 := pr_4.cell 1 _ rfl; have pr2_4 := pr_4.cell 2 _ rfl; have pr3_4 := pr_4.cell 3 _ rfl; have pr4_4 := pr_4.cell 4 _ rfl; have sa_4 := sa_3.below b_4; obtain ⟨sa0_4, sa1_4, sa2_4, sa3_4, sa4_4, sa5_4, sa6_4, sa7_4, sa8_4, sa9_4⟩ := mch_cells2 (v := ⟨.slice a0x A.stack.length k0x, .slice a1x A.mem.length k1x, .slice a2x A.words.length k2x, .slice a3x A.codes.length k3x, .slice a5x A.tree.length k5x, .slice a7x A.insts.length k7x⟩) (m := A) (o := o3) sa_4))
      go_upto_region 8 with ((go_at_call 6; refine (c4 _ hT_4 t_4).mono ?_; rintro e q5 ⟨rfl, b_5⟩; have hT_5 := hT_4.below b_5; have t_5 := t_4.below b_5; have y_5 := y_4.below b_5; have p_5 := p_4.below b_5; have st_5 := st_4.below b_5; obtain ⟨st0_5, st1_5, st2_5, st3_5, st4_5, st5_5, st6_5, st7_5, st8_5, st9_5⟩ := mch_cells2 st_5; have pr_5 := pr_4.below b_5; have pr0_5 := pr_5.cell 0 _ rfl; have pr1_5 := pr_5.cell 1 _ rfl; have pr2_5 := pr_5.cell 2 _ rfl; have pr3_5 := pr_5.cell 3 _ rfl; have pr4_5 := pr_5.cell 4 _ rfl; have sa_5 := sa_4.below b_5; obtain ⟨sa0_5, sa1_5, sa2_5, sa3_5, sa4_5, sa5_5, sa6_5, sa7_5, sa8_5, sa9_5⟩ := mch_cells2 (v := ⟨.slice a0x A.stack.length k0x, .slice a1x A.mem.length k1x, .slice a2x A.words.length k2x, .slice a3x A.codes.length k3x, .slice a5x A.tree.length k5x, .slice a7x A.insts.length k7x⟩) (m := A) (o := o3) sa_5))
      go_upto_region 9 with ((go_at_call 7; refine (c5 _ _ _ hT_5 p_5).mono ?_; rintro e q6 ⟨rfl, b_6⟩; have hT_6 := hT_5.below b_6; have t_6 := t_5.below b_6; have y_6 := y_5.below b_6; have p_6 := p_5.below b_6; have st_6 := st_5.below b_6; obtain ⟨st0_6, st1_6, st2_6, st3_6, st4_6, st5_6, st6_6, st7_6, st8_6, st9_6⟩ := mch_cells2 st_6; have pr_6 := pr_5.below b_6; have pr0_6 := pr_6.cell 0 _ rfl; have pr1_6 := pr_6.cell 1 _ rfl; have pr2_6 := pr_6.cell 2 _ rfl; have pr3_6 := pr_6.cell 3 _ rfl; have pr4_6 := pr_6.cell 4 _ rfl; have sa_6 := sa_5.below b_6; obtain ⟨sa0_6, sa1_6, sa2_6, sa3_6, sa4_6, sa5_6, sa6_6, sa7_6, sa8_6, sa9_6⟩ := mch_cells2 (v := ⟨.slice a0x A.stack.length k0x, .slice a1x A.mem.length k1x, .slice a2x A.words.length k2x, .slice a3x A.codes.length k3x, .slice a5x A.tree.length k5x, .slice a7x A.insts.length k7x⟩) (m := A) (o := o3) sa_6))
      go_upto_region 10 with ((go_at_call 7; refine (c6 _ hT_6 t_6).mono ?_; rintro e q7 ⟨rfl, b_7⟩; have hT_7 := hT_6.below b_7; have t_7 := t_6.below b_7; have y_7 := y_6.below b_7; have p_7 := p_6.below b_7; have st_7 := st_6.below b_7; obtain ⟨st0_7, st1_7, st2_7, st3_7, st4_7, st5_7, st6_7, st7_7, st8_7, st9_7⟩ := mch_cells2 st_7; have pr_7 := pr_6.below b_7; have pr0_7 := pr_7.cell 0 _ rfl; have pr1_7 := pr_7.cell 1 _ rfl; have pr2_7 := pr_7.cell 2 _ rfl; have pr3_7 := pr_7.cell 3 _ rfl; have pr4_7 := pr_7.cell 4 _ rfl; have sa_7 := sa_6.below b_7; obtain ⟨sa0_7, sa1_7, sa2_7, sa3_7, sa4_7, sa5_7, sa6_7, sa7_7, sa8_7, sa9_7⟩ := mch_cells2 (v := ⟨.slice a0x A.stack.length k0x, .slice a1x A.mem.length k1x, .slice a2x A.words.length k2x, .slice a3x A.codes.length k3x, .slice a5x A.tree.length k5x, .slice a7x A.insts.length k7x⟩) (m := A) (o := o3) sa_7))
      go_wp2_with fail
      go_ret
      exact ⟨by simp, below_trans (below_trans (below_trans (below_trans (below_trans (below_trans (below_trans (bb) b_1) b_2) b_3) b_4) b_5) b_6) b_7⟩
  · have qE : (E == 0) = false := by simpa using hE
    have qN : (E != 0) = true := by simpa using hE
    clear hok hN
    go_enter Try.func3, Try.ntmps3
    go_upto_region 1 with fail
    generalize (w.alloc (.cells (mv0.cs m0 mo0) 30)).alloc (.cells #[.string wn1, .int .i64 wx1.2.1, .int .i64 wx1.2.2.1, .int .u32 wx1.2.2.2.1, wv1] 33) = W0 at st_0 pr_0 t_0 hT_0 bb y_0 ⊢
    obtain ⟨st0_0, st1_0, st2_0, st3_0, st4_0, st5_0, st6_0, st7_0, st8_0, st9_0⟩ := mch_cells2 st_0
    have pr0_0 := pr_0.cell 0 _ rfl
    have pr1_0 := pr_0.cell 1 _ rfl
    have pr2_0 := pr_0.cell 2 _ rfl
    have pr3_0 := pr_0.cell 3 _ rfl
    have pr4_0 := pr_0.cell 4 _ rfl
    go_upto_region 4 with (first | (go_at_call 4; refine (w_alive9 _ hT_0).mono ?_; rintro e q1 ⟨rfl, b_1⟩; have hT_1 := hT_0.below b_1; have t_1 := t_0.below b_1; have y_1 := y_0.below b_1; have st_1 := st_0.below b_1; obtain ⟨st0_1, st1_1, st2_1, st3_1, st4_1, st5_1, st6_1, st7_1, st8_1, st9_1⟩ := mch_cells2 st_1; have pr_1 := pr_0.below b_1; have pr0_1 := pr_1.cell 0 _ rfl; have pr1_1 := pr_1.cell 1 _ rfl; have pr2_1 := pr_1.cell 2 _ rfl; have pr3_1 := pr_1.cell 3 _ rfl; have pr4_1 := pr_1.cell 4 _ rfl) | (go_at_call 5; refine (c2 _ hT_1 t_1 y_1).mono ?_; rintro e q2 ⟨v2, o3, rfl, p_2, b_2⟩; have hT_2 := hT_1.below b_2; have t_2 := t_1.below b_2; have y_2 := y_1.below b_2; have st_2 := st_1.below b_2; obtain ⟨st0_2, st1_2, st2_2, st3_2, st4_2, st5_2, st6_2, st7_2, st8_2, st9_2⟩ := mch_cells2 st_2; have pr_2 := pr_1.below b_2; have pr0_2 := pr_2.cell 0 _ rfl; have pr1_2 := pr_2.cell 1 _ rfl; have pr2_2 := pr_2.cell 2 _ rfl; have pr3_2 := pr_2.cell 3 _ rfl; have pr4_2 := pr_2.cell 4 _ rfl; obtain ⟨a0x, k0x, a1x, k1x, a2x, k2x, a3x, k3x, a5x, k5x, a7x, k7x, rfl⟩ := rdm_forms p_2; simp only [Mv.cs]))
    have sa_3 := stands_new q2 #[.slice a0x A.stack.length k0x, .slice a1x A.mem.length k1x, .slice a2x A.words.length k2x, .slice a3x A.codes.length k3x, .int .u32 A.base, .slice a5x A.tree.length k5x, .int .i64 A.node, .slice a7x A.insts.length k7x, .int .i64 A.self, .string o3] 30
    have b_3 := box_below q2 (.cells #[.slice a0x A.stack.length k0x, .slice a1x A.mem.length k1x, .slice a2x A.words.length k2x, .slice a3x A.codes.length k3x, .int .u32 A.base, .slice a5x A.tree.length k5x, .int .i64 A.node, .slice a7x A.insts.length k7x, .int .i64 A.self, .string o3] 30)
    obtain ⟨Bsa, hBsa⟩ : ∃ B, q2.heap.size = B := ⟨_, rfl⟩
    rw [hBsa] at sa_3
    (try simp only [hBsa])
    have hT_3 := hT_2.below b_3
    have t_3 := t_2.below b_3
    have y_3 := y_2.below b_3
    have p_3 := p_2.below b_3
    have st_3 := st_2.below b_3
    have pr_3 := pr_2.below b_3
    generalize q2.alloc (.cells #[.slice a0x A.stack.length k0x, .slice a1x A.mem.length k1x, .slice a2x A.words.length k2x, .slice a3x A.codes.length k3x, .int .u32 A.base, .slice a5x A.tree.length k5x, .int .i64 A.node, .slice a7x A.insts.length k7x, .int .i64 A.self, .string o3] 30) = q3 at hT_3 b_3 sa_3 t_3 y_3 p_3 st_3 pr_3 ⊢
    obtain ⟨st0_3, st1_3, st2_3, st3_3, st4_3, st5_3, st6_3, st7_3, st8_3, st9_3⟩ := mch_cells2 st_3
    have pr0_3 := pr_3.cell 0 _ rfl
    have pr1_3 := pr_3.cell 1 _ rfl
    have pr2_3 := pr_3.cell 2 _ rfl
    have pr3_3 := pr_3.cell 3 _ rfl
    have pr4_3 := pr_3.cell 4 _ rfl
    obtain ⟨sa0_3, sa1_3, sa2_3, sa3_3, sa4_3, sa5_3, sa6_3, sa7_3, sa8_3, sa9_3⟩ := mch_cells2 (v := ⟨.slice a0x A.stack.length k0x, .slice a1x A.mem.length k1x, .slice a2x A.words.length k2x, .slice a3x A.codes.length k3x, .slice a5x A.tree.length k5x, .slice a7x A.insts.length k7x⟩) (m := A) (o := o3) sa_3
    go_wp2_with fail
    go_ret
    exact ⟨by simp, below_trans (below_trans (below_trans (bb) b_1) b_2) b_3⟩

set_option maxRecDepth 100000 in
theorem lifted (os : Os) (started : os.Started) (H : Type) (enc : TypeId × Value → H) :
    ReturnsInHanded {} Try.checked os 3 .any (Rows.dictNewestSpec.pre6 enc Try.prog Try.f3 Rows.dictNewestRow.domain false) (Rows.dictNewestSpec.post enc Try.prog Try.f3 false true false false) := by
  refine returnsInHanded_of_change_sized (C := Try.checked) own started (by kernel_rfl) Try.func3
    (ChangeSpec.witness6 (enc := enc) (C := Try.checked) false ⟨#[], #[.agg #[.slice none 0 0, .slice none 0 0, .slice none 0 0, .slice none 0 0, .int .u32 0, .slice none 0 0, .int .i64 0, .slice none 0 0, .int .i64 0, .string ⟨#[]⟩], .agg #[.string ⟨#[]⟩, .int .i64 0, .int .i64 0, .int .u32 0, .slice none 0 0], .string ⟨#[]⟩], []⟩ 8 (by kernel_rfl) (by kernel_rfl) (by kernel_rfl) (by kernel_rfl)) ?_
  intro W base args ds gs before hval0 hW hcnd hsz0 _
  have hval : ∀ (j : Nat) t v, Try.f3.params[j]? = some t → args[j]? = some v → Value.okWide Try.prog W .any base t v := hval0
  have hsz : (DataW.weightsEach Try.prog (Try.f3.params.toList ++ Rows.dictNewestSpec.plain.varTypes Try.prog) (ds ++ gs)).all (· ≤ reachBytes) = true := hsz0
  have hW' := hW
  obtain ⟨p, q, hA0, hV, rfl, hfz, hnd⟩ := hW
  have hA : DataW.TrodAll enc Try.prog W 0 (fun _ => true) true Try.f3.params.toList args.toList ds p := hA0
  rw [Try.params3] at hA hval hsz
  obtain ⟨v0, vs0, d0, ds0, p0, q0, hargs, rfl, rfl, h0, r0⟩ := trodAll_cons hA
  obtain ⟨v1, vs1, d1, ds1, p1, q1, rfl, rfl, rfl, h1, r1⟩ := trodAll_cons r0
  obtain ⟨v2, vs2, d2, ds2, p2, q2, rfl, rfl, rfl, h2, r2⟩ := trodAll_cons r1
  obtain ⟨rfl, rfl, rfl⟩ := trodAll_nil r2
  obtain rfl : args = #[v0, v1, v2] := by cases args; simp_all
  obtain ⟨rfl, rfl⟩ := trodVars_none hV
  have k0 := h0
  have lt0 : ∀ x ∈ p0, x.block < W.heap.size := by obtain ⟨m, hm⟩ := k0; exact DataW.trod_lt m _ _ _ hm
  obtain ⟨mv0, m0, mo0, rfl, r100, g0, ws0⟩ := mch_open (hval 0 30 v0 rfl rfl) h0 (fun n hn => by simpa using List.all_eq_true.1 hsz n (DataW.weights_mem_each (j := 0) (t := 30) (d := d0) rfl rfl n hn))
  have k1 := h1
  have lt1 : ∀ x ∈ p1, x.block < W.heap.size := by obtain ⟨m, hm⟩ := k1; exact DataW.trod_lt m _ _ _ hm
  obtain ⟨wn1, wv1, wx1, rfl, we1, r101, g1⟩ := wrd_open (hval 1 33 v1 rfl rfl) h1 (fun n hn => by simpa using List.all_eq_true.1 hsz n (DataW.weights_mem_each (j := 1) (t := 33) (d := d1) rfl rfl n hn))
  obtain ⟨a2, rfl, rfl, rfl, w2⟩ := open_string Try.underlying9 (hval 2 9 v2 rfl rfl) h2
  clear hA0 hval0 hsz0
  refine (walk mv0 m0 mo0 wn1 wv1 wx1 a2 W r100 g0 ws0 we1 r101 g1 w2).mono fun e W' ⟨he, bel⟩ => ?_
  subst he
  exact ⟨_, rfl, _, _, _, [], _, [], hW', trodAll_mk1 (shut_bool Try.underlying4 _), (trodAll_cons_mk (Below.trod laidOut (by kernel_rfl) (of_decide_eq_true (by kernel_rfl)) k0 bel lt0) (trodAll_cons_mk (Below.trod laidOut (by kernel_rfl) (of_decide_eq_true (by kernel_rfl)) k1 bel lt1) (trodAll_cons_mk (shut_string Try.underlying9 w2) trodAll_mk0))), rfl, bel.frame _, fun h => by cases h⟩

theorem over : Rows.dictNewestRow.holds Try.pinned (OpenSpec.ofChange Rows.dictNewestSpec) :=
  OpenClaim.holds_of_wide 3 Try.f3 rfl rfl rfl rfl rfl rfl rfl ⟨rfl, rfl, rfl, rfl, rfl⟩ rfl rfl rfl rfl rfl (by kernel_rfl) Try.func3 (by kernel_rfl)
    (of_decide_eq_true (by kernel_rfl)) (by unfold Func.isWrapper; first | (rw [if_pos (by decide +kernel)]; kernel_rfl) | (rw [if_neg (by decide +kernel)]; exact ⟨rfl, rfl⟩))
    (fun os started H enc _ => lifted os started H enc)
end Go.Proofs.Ytfljcfpcokimcab.dictNewest
namespace Go.Proofs.Ytfljcfpcokimcab
theorem dictNewest_holds : Rows.DictNewestSaid := dictNewest.over
#print axioms dictNewest_holds
end Go.Proofs.Ytfljcfpcokimcab
