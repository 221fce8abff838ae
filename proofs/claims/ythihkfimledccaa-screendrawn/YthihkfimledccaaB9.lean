/-
  Texts of one proof, laid one behind the other: Sro.
-/
import Derived.Test.YthihkfimledccaaB8
namespace Go.Proofs.Ythihkfimledccaa
open Go.ChangeShapes Go.WideShapes Go.ChangeAt Go.RowKit
set_option linter.unusedVariables false
set_option linter.unusedSimpArgs false

/-
  The laws ScreenRound and ScreenMirrors.
-/
theorem i8_wf22 {n : Int} (h : (Lit.int .i8 n).wf = true) : -128 ≤ n ∧ n < 128 := by
  simp [Lit.wf, IntKind.min, IntKind.max, IntKind.bits, IntKind.signed] at h
  omega
theorem i16_wf22 {n : Int} (h : (Lit.int .i16 n).wf = true) : -32768 ≤ n ∧ n < 32768 := by
  simp [Lit.wf, IntKind.min, IntKind.max, IntKind.bits, IntKind.signed] at h
  omega
theorem tnI_no {p : PicI} (h : fmI p = false) (q : Int) : tnI p q 1 = (noP, 1) := by unfold tnI; rw [h]; rfl
theorem miI_no {p : PicI} (h : fmI p = false) : miI p 1 = (noP, 1) := by unfold miI; rw [h]; rfl

set_option maxHeartbeats 8000000 in
set_option maxRecDepth 100000 in
theorem w_screenRound (X Y : Int) (P : List Int) (vP : Value) (a b : Int) (w : World) (r0 : Rd .u8 w vP P) (g0 : gPc (X, Y, P)) (ba : -128 ≤ a ∧ a < 128) (bb : -128 ≤ b ∧ b < 128) :
    Calls Try.prog 6 #[.agg #[.int .i64 X, .int .i64 Y, vP], .int .i8 a, .int .i8 b] w fun e w' => e = .returned (.bool true) ∧ Below w.heap.size w w' := by
  obtain ⟨ba0, ba1⟩ := ba
  obtain ⟨bb0, bb1⟩ := bb
  have k1 : IntKind.i64.wrap a = a := by rw [IntKind.wrap_i64]; omega
  have k2 : IntKind.i64.wrap b = b := by rw [IntKind.wrap_i64]; omega
  have k3 : IntKind.i64.wrap (a + b) = a + b := by rw [IntKind.wrap_i64]; omega
  have k4 : IntKind.i64.wrap (3 * a) = 3 * a := by rw [IntKind.wrap_i64]; omega
  obtain ⟨pa, pq, rfl⟩ := rd_slice r0
  have bw := box_below w (.cells #[.int .i64 X, .int .i64 Y, .slice pa P.length pq] 28)
  have sP := stands_new w #[.int .i64 X, .int .i64 Y, .slice pa P.length pq] 28
  go_enter Try.func6, Try.ntmps6
  go_upto_region 1 with fail
  generalize w.alloc (.cells #[.int .i64 X, .int .i64 Y, .slice pa P.length pq] 28) = W0 at bw sP ⊢
  go_upto_region 3 with (first | (go_at_call 9; refine (w_alive22 _).mono ?_; rintro e q0 ⟨rfl, b0⟩) | fail)
  have bw := below_trans bw b0
  have sP := sP.below b0
  have rP := r0.below bw
  clear b0 r0
  cases hf : fmI (X, Y, P)
  · have c1 := fun v w h => w_pturn22 v (X, Y, P) a w h g0 (by omega)
    rw [tnI_no hf] at c1
    have cR := fun w (h : Rd .u8 w (.slice pa P.length pq) P) => w_rformed22 X Y _ P w h g0.2.1
    rw [hf] at cR
    simp only [noP] at c1
    clear hf
    have zP0 := sP.cell 0 _ rfl
    have zP1 := sP.cell 1 _ rfl
    have zP2 := sP.cell 2 _ rfl
    go_upto_region 4 with (first | (go_at_call 16; refine (c1 _ _ ⟨_, rfl, rP⟩).mono ?_; rintro e q1 ⟨v1, rfl, ⟨vp1, rfl, rr1⟩, bb1⟩; obtain ⟨a1, l1, rfl⟩ := rd_slice rr1) | fail)
    have bx1 := box_below q1 (.cells #[.int .i64 0, .int .i64 0, .slice a1 ([] : List Int).length l1] 28)
    have s1 := stands_new q1 #[.int .i64 0, .int .i64 0, .slice a1 ([] : List Int).length l1] 28
    have m1 := below_trans bb1 bx1
    have r1 : Rd .u8 _ (.slice a1 ([] : List Int).length l1) ([] : List Int) := rr1.below bx1
    have sP := sP.below m1
    have rP := rP.below m1
    have bw := below_trans bw m1
    clear zP0 zP1 zP2 rr1 bb1 bx1 m1
    generalize q1.alloc (.cells #[.int .i64 0, .int .i64 0, .slice a1 ([] : List Int).length l1] 28) = V1 at sP s1 rP r1 bw ⊢
    have z10 := s1.cell 0 _ rfl
    have z11 := s1.cell 1 _ rfl
    have z12 := s1.cell 2 _ rfl
    have zP0 := sP.cell 0 _ rfl
    have zP1 := sP.cell 1 _ rfl
    have zP2 := sP.cell 2 _ rfl
    have hl1 := rd_len r1 uB (P := Try.prog)
    simp only [List.length_nil] at hl1 z12
    simp only [List.length_nil] at r1
    go_wp2_with (first | (go_at_call 21; refine (cR _ rP).mono ?_; rintro e qs1 ⟨rfl, bs1⟩))
    go_ret
    exact ⟨ret_b (by simp), below_trans bw bs1⟩
  · obtain ⟨⟨X1, Y1, P1⟩, hx, hfx, hxb, hx3, hlg⟩ := rd_law hf a b 1
    have g1 := tnI_g g0 a 1
    rw [hx] at g1
    have g2 := tnI_g g1 b 1
    have c1 := fun v w h => w_pturn22 v (X, Y, P) a w h g0 (by omega)
    have c2 := fun v w h => w_pturn22 v (X1, Y1, P1) b w h g1 (by omega)
    have c3 := fun v w h => w_pturn22 v (X, Y, P) (a + b) w h g0 (by omega)
    have c4 := fun v w h => w_pturn22 v (X1, Y1, P1) (3 * a) w h g1 (by omega)
    simp only [hx] at c1
    simp only [hxb] at c2 g2
    simp only [hx3] at c4
    have hE : ∃ z, tnI (X, Y, P) (a + b) 1 = (z, 0) := by unfold tnI; rw [if_pos hf]; exact ⟨_, rfl⟩
    obtain ⟨⟨X2, Y2, P2⟩, hz⟩ := hE
    rw [hz] at g2
    simp only [hz] at c2 c3
    simp only at g1 g2 hlg
    clear hx hfx hxb hx3 hz hf
    have zP0 := sP.cell 0 _ rfl
    have zP1 := sP.cell 1 _ rfl
    have zP2 := sP.cell 2 _ rfl
    go_upto_region 4 with (first | (go_at_call 16; refine (c1 _ _ ⟨_, rfl, rP⟩).mono ?_; rintro e q1 ⟨v1, rfl, ⟨vp1, rfl, rr1⟩, bb1⟩; obtain ⟨a1, l1, rfl⟩ := rd_slice rr1) | fail)
    have bx1 := box_below q1 (.cells #[.int .i64 X1, .int .i64 Y1, .slice a1 P1.length l1] 28)
    have s1 := stands_new q1 #[.int .i64 X1, .int .i64 Y1, .slice a1 P1.length l1] 28
    have m1 := below_trans bb1 bx1
    have r1 : Rd .u8 _ (.slice a1 P1.length l1) P1 := rr1.below bx1
    have sP := sP.below m1
    have rP := rP.below m1
    have bw := below_trans bw m1
    clear zP0 zP1 zP2 rr1 bb1 bx1 m1
    generalize q1.alloc (.cells #[.int .i64 X1, .int .i64 Y1, .slice a1 P1.length l1] 28) = V1 at sP s1 rP r1 bw ⊢
    have z10 := s1.cell 0 _ rfl
    have z11 := s1.cell 1 _ rfl
    have z12 := s1.cell 2 _ rfl
    go_upto_region 7 with (first | (go_at_call 16; refine (c2 _ _ ⟨_, rfl, r1⟩).mono ?_; rintro e q2 ⟨v2, rfl, ⟨vp2, rfl, rr2⟩, bb2⟩; obtain ⟨a2, l2, rfl⟩ := rd_slice rr2) | fail)
    have bx2 := box_below q2 (.cells #[.int .i64 X2, .int .i64 Y2, .slice a2 P2.length l2] 28)
    have s2 := stands_new q2 #[.int .i64 X2, .int .i64 Y2, .slice a2 P2.length l2] 28
    have m2 := below_trans bb2 bx2
    have r2 : Rd .u8 _ (.slice a2 P2.length l2) P2 := rr2.below bx2
    have sP := sP.below m2
    have rP := rP.below m2
    have s1 := s1.below m2
    have r1 := r1.below m2
    have bw := below_trans bw m2
    clear z10 z11 z12 rr2 bb2 bx2 m2
    generalize q2.alloc (.cells #[.int .i64 X2, .int .i64 Y2, .slice a2 P2.length l2] 28) = V2 at sP s1 s2 rP r1 r2 bw ⊢
    have zP0 := sP.cell 0 _ rfl
    have zP1 := sP.cell 1 _ rfl
    have zP2 := sP.cell 2 _ rfl
    go_upto_region 8 with (first | (go_at_call 16; refine (c3 _ _ ⟨_, rfl, rP⟩).mono ?_; rintro e q3 ⟨v3, rfl, ⟨vp3, rfl, rr3⟩, bb3⟩; obtain ⟨a3, l3, rfl⟩ := rd_slice rr3) | fail)
    have bx3 := box_below q3 (.cells #[.int .i64 X2, .int .i64 Y2, .slice a3 P2.length l3] 28)
    have s3 := stands_new q3 #[.int .i64 X2, .int .i64 Y2, .slice a3 P2.length l3] 28
    have m3 := below_trans bb3 bx3
    have r3 : Rd .u8 _ (.slice a3 P2.length l3) P2 := rr3.below bx3
    have sP := sP.below m3
    have rP := rP.below m3
    have s1 := s1.below m3
    have r1 := r1.below m3
    have s2 := s2.below m3
    have r2 := r2.below m3
    have bw := below_trans bw m3
    clear zP0 zP1 zP2 rr3 bb3 bx3 m3
    generalize q3.alloc (.cells #[.int .i64 X2, .int .i64 Y2, .slice a3 P2.length l3] 28) = V3 at sP s1 s2 s3 rP r1 r2 r3 bw ⊢
    have z10 := s1.cell 0 _ rfl
    have z11 := s1.cell 1 _ rfl
    have z12 := s1.cell 2 _ rfl
    go_upto_region 9 with (first | (go_at_call 16; refine (c4 _ _ ⟨_, rfl, r1⟩).mono ?_; rintro e q4 ⟨v4, rfl, ⟨vp4, rfl, rr4⟩, bb4⟩; obtain ⟨a4, l4, rfl⟩ := rd_slice rr4) | fail)
    have bx4 := box_below q4 (.cells #[.int .i64 X, .int .i64 Y, .slice a4 P.length l4] 28)
    have s4 := stands_new q4 #[.int .i64 X, .int .i64 Y, .slice a4 P.length l4] 28
    have m4 := below_trans bb4 bx4
    have r4 : Rd .u8 _ (.slice a4 P.length l4) P := rr4.below bx4
    have sP := sP.below m4
    have rP := rP.below m4
    have s1 := s1.below m4
    have r1 := r1.below m4
    have s2 := s2.below m4
    have r2 := r2.below m4
    have s3 := s3.below m4
    have r3 := r3.below m4
    have bw := below_trans bw m4
    clear z10 z11 z12 rr4 bb4 bx4 m4
    generalize q4.alloc (.cells #[.int .i64 X, .int .i64 Y, .slice a4 P.length l4] 28) = V4 at sP s1 s2 s3 s4 rP r1 r2 r3 r4 bw ⊢
    have CS1 := hid (fun W9 (g : Below V4.heap.size V4 W9) => (w_rsame22 (.agg #[.int .i64 X2, .int .i64 Y2, .slice a2 P2.length l2]) (.agg #[.int .i64 X2, .int .i64 Y2, .slice a3 P2.length l3]) (X2, Y2, P2) (X2, Y2, P2) W9 ⟨_, rfl, r2.below g⟩ ⟨_, rfl, r3.below g⟩ g2.1 g2.1).mono (R' := fun e w' => e = .returned (.bool true) ∧ Below W9.heap.size W9 w') (fun e w' h => by rw [decide_eq_true rfl] at h; exact h))
    have CS2 := hid (fun W9 (g : Below V4.heap.size V4 W9) => (w_rsame22 (.agg #[.int .i64 X, .int .i64 Y, .slice a4 P.length l4]) (.agg #[.int .i64 X, .int .i64 Y, .slice pa P.length pq]) (X, Y, P) (X, Y, P) W9 ⟨_, rfl, r4.below g⟩ ⟨_, rfl, rP.below g⟩ g0.1 g0.1).mono (R' := fun e w' => e = .returned (.bool true) ∧ Below W9.heap.size W9 w') (fun e w' h => by rw [decide_eq_true rfl] at h; exact h))
    have cl1 := fun W9 (g : Below V4.heap.size V4 W9) => w_plight22 (.agg #[.int .i64 X1, .int .i64 Y1, .slice a1 P1.length l1]) (X1, Y1, P1) W9 ⟨_, rfl, r1.below g⟩ g1
    have cl2 := fun W9 (g : Below V4.heap.size V4 W9) => w_plight22 (.agg #[.int .i64 X, .int .i64 Y, .slice pa P.length pq]) (X, Y, P) W9 ⟨_, rfl, rP.below g⟩ g0
    simp only [hlg] at cl1
    have CL1 := hid cl1
    have CL2 := hid cl2
    clear cl1 cl2 hlg
    have HS : Hid (∀ W, Below V4.heap.size V4 W → (W.cell? ⟨w.heap.size, 0, none⟩ = some (.int .i64 X) ∧ W.cell? ⟨w.heap.size, 1, none⟩ = some (.int .i64 Y) ∧ W.cell? ⟨w.heap.size, 2, none⟩ = some (.slice pa P.length pq) ∧ W.cell? ⟨q1.heap.size, 0, none⟩ = some (.int .i64 X1) ∧ W.cell? ⟨q1.heap.size, 1, none⟩ = some (.int .i64 Y1) ∧ W.cell? ⟨q1.heap.size, 2, none⟩ = some (.slice a1 P1.length l1) ∧ W.cell? ⟨q2.heap.size, 0, none⟩ = some (.int .i64 X2) ∧ W.cell? ⟨q2.heap.size, 1, none⟩ = some (.int .i64 Y2) ∧ W.cell? ⟨q2.heap.size, 2, none⟩ = some (.slice a2 P2.length l2) ∧ W.cell? ⟨q3.heap.size, 0, none⟩ = some (.int .i64 X2) ∧ W.cell? ⟨q3.heap.size, 1, none⟩ = some (.int .i64 Y2) ∧ W.cell? ⟨q3.heap.size, 2, none⟩ = some (.slice a3 P2.length l3) ∧ W.cell? ⟨q4.heap.size, 0, none⟩ = some (.int .i64 X) ∧ W.cell? ⟨q4.heap.size, 1, none⟩ = some (.int .i64 Y) ∧ W.cell? ⟨q4.heap.size, 2, none⟩ = some (.slice a4 P.length l4))) := fun W g => ⟨(sP.below g).cell 0 _ rfl, (sP.below g).cell 1 _ rfl, (sP.below g).cell 2 _ rfl, (s1.below g).cell 0 _ rfl, (s1.below g).cell 1 _ rfl, (s1.below g).cell 2 _ rfl, (s2.below g).cell 0 _ rfl, (s2.below g).cell 1 _ rfl, (s2.below g).cell 2 _ rfl, (s3.below g).cell 0 _ rfl, (s3.below g).cell 1 _ rfl, (s3.below g).cell 2 _ rfl, (s4.below g).cell 0 _ rfl, (s4.below g).cell 1 _ rfl, (s4.below g).cell 2 _ rfl⟩
    clear c1 c2 c3 c4 sP s1 s2 s3 s4 rP r1 r2 r3 r4
    refine wp_region_held_drew (S := fun W => W.cell? ⟨w.heap.size, 0, none⟩ = some (.int .i64 X) ∧ W.cell? ⟨w.heap.size, 1, none⟩ = some (.int .i64 Y) ∧ W.cell? ⟨w.heap.size, 2, none⟩ = some (.slice pa P.length pq) ∧ W.cell? ⟨q1.heap.size, 0, none⟩ = some (.int .i64 X1) ∧ W.cell? ⟨q1.heap.size, 1, none⟩ = some (.int .i64 Y1) ∧ W.cell? ⟨q1.heap.size, 2, none⟩ = some (.slice a1 P1.length l1) ∧ W.cell? ⟨q2.heap.size, 0, none⟩ = some (.int .i64 X2) ∧ W.cell? ⟨q2.heap.size, 1, none⟩ = some (.int .i64 Y2) ∧ W.cell? ⟨q2.heap.size, 2, none⟩ = some (.slice a2 P2.length l2) ∧ W.cell? ⟨q3.heap.size, 0, none⟩ = some (.int .i64 X2) ∧ W.cell? ⟨q3.heap.size, 1, none⟩ = some (.int .i64 Y2) ∧ W.cell? ⟨q3.heap.size, 2, none⟩ = some (.slice a3 P2.length l3) ∧ W.cell? ⟨q4.heap.size, 0, none⟩ = some (.int .i64 X) ∧ W.cell? ⟨q4.heap.size, 1, none⟩ = some (.int .i64 Y) ∧ W.cell? ⟨q4.heap.size, 2, none⟩ = some (.slice a4 P.length l4)) (by kernel_rfl) (HS.out _ (bd0 _)) (fun hHeld => ?_)
    refine wpAnyH_take (i := 0) (v := ?v1) rfl (by kernel_rfl) (by kernel_rfl) (by kernel_rfl) (fun _ _ _ h => h) (Or.inl ⟨by kernel_rfl, ?h1⟩) hHeld ?r1
    case h1 => intro W hSw; (try dsimp only at hSw); obtain ⟨t0, t1, t2, t3, t4, t5, t6, t7, t8, t9, t10, t11, t12, t13, t14⟩ := hSw; go_simp; try with_reducible rfl
    simp only [Act.put, List.setIfInBounds_toArray, List.set_cons_zero, List.set_cons_succ]
    refine wpAnyH_take (i := 1) (v := ?v2) rfl (by kernel_rfl) (by kernel_rfl) (by kernel_rfl) (fun _ _ _ h => h) (Or.inl ⟨by kernel_rfl, ?h2⟩) hHeld ?r2
    case h2 => intro W hSw; (try dsimp only at hSw); obtain ⟨t0, t1, t2, t3, t4, t5, t6, t7, t8, t9, t10, t11, t12, t13, t14⟩ := hSw; go_simp; try with_reducible rfl
    simp only [Act.put, List.setIfInBounds_toArray, List.set_cons_zero, List.set_cons_succ]
    refine wpAnyH_take (i := 2) (v := ?v3) rfl (by kernel_rfl) (by kernel_rfl) (by kernel_rfl) (fun _ _ _ h => h) (Or.inl ⟨by kernel_rfl, ?h3⟩) hHeld ?r3
    case h3 => intro W hSw; (try dsimp only at hSw); obtain ⟨t0, t1, t2, t3, t4, t5, t6, t7, t8, t9, t10, t11, t12, t13, t14⟩ := hSw; go_simp; try with_reducible rfl
    simp only [Act.put, List.setIfInBounds_toArray, List.set_cons_zero, List.set_cons_succ]
    refine wpAnyH_take (i := 3) (v := ?v4) rfl (by kernel_rfl) (by kernel_rfl) (by kernel_rfl) (fun _ _ _ h => h) (Or.inl ⟨by kernel_rfl, ?h4⟩) hHeld ?r4
    case h4 => intro W hSw; (try dsimp only at hSw); obtain ⟨t0, t1, t2, t3, t4, t5, t6, t7, t8, t9, t10, t11, t12, t13, t14⟩ := hSw; go_simp; try with_reducible rfl
    simp only [Act.put, List.setIfInBounds_toArray, List.set_cons_zero, List.set_cons_succ]
    refine wpAnyH_take (i := 4) (v := ?v5) rfl (by kernel_rfl) (by kernel_rfl) (by kernel_rfl) (fun _ _ _ h => h) (Or.inl ⟨by kernel_rfl, ?h5⟩) hHeld ?r5
    case h5 => intro W hSw; (try dsimp only at hSw); obtain ⟨t0, t1, t2, t3, t4, t5, t6, t7, t8, t9, t10, t11, t12, t13, t14⟩ := hSw; go_simp; try with_reducible rfl
    simp only [Act.put, List.setIfInBounds_toArray, List.set_cons_zero, List.set_cons_succ]
    refine wpAnyH_take (i := 5) (v := ?v6) rfl (by kernel_rfl) (by kernel_rfl) (by kernel_rfl) (fun _ _ _ h => h) (Or.inl ⟨by kernel_rfl, ?h6⟩) hHeld ?r6
    case h6 => intro W hSw; (try dsimp only at hSw); obtain ⟨t0, t1, t2, t3, t4, t5, t6, t7, t8, t9, t10, t11, t12, t13, t14⟩ := hSw; go_simp; try with_reducible rfl
    simp only [Act.put, List.setIfInBounds_toArray, List.set_cons_zero, List.set_cons_succ]
    refine wpAnyH_take (i := 6) (v := ?v7) rfl (by kernel_rfl) (by kernel_rfl) (by kernel_rfl) (fun _ _ _ h => h) (Or.inl ⟨by kernel_rfl, ?h7⟩) hHeld ?r7
    case h7 => intro W hSw; (try dsimp only at hSw); obtain ⟨t0, t1, t2, t3, t4, t5, t6, t7, t8, t9, t10, t11, t12, t13, t14⟩ := hSw; go_simp; try with_reducible rfl
    simp only [Act.put, List.setIfInBounds_toArray, List.set_cons_zero, List.set_cons_succ]
    refine wpAnyH_take (i := 7) (v := ?v8) rfl (by kernel_rfl) (by kernel_rfl) (by kernel_rfl) (fun _ _ _ h => h) (Or.inl ⟨by kernel_rfl, ?h8⟩) hHeld ?r8
    case h8 => intro W hSw; (try dsimp only at hSw); obtain ⟨t0, t1, t2, t3, t4, t5, t6, t7, t8, t9, t10, t11, t12, t13, t14⟩ := hSw; go_simp; try with_reducible rfl
    simp only [Act.put, List.setIfInBounds_toArray, List.set_cons_zero, List.set_cons_succ]
    refine wpAnyH_take (i := 8) (v := ?v9) rfl (by kernel_rfl) (by kernel_rfl) (by kernel_rfl) (fun _ _ _ h => h) (Or.inl ⟨by kernel_rfl, ?h9⟩) hHeld ?r9
    case h9 => intro W hSw; (try dsimp only at hSw); obtain ⟨t0, t1, t2, t3, t4, t5, t6, t7, t8, t9, t10, t11, t12, t13, t14⟩ := hSw; go_simp; try with_reducible rfl
    simp only [Act.put, List.setIfInBounds_toArray, List.set_cons_zero, List.set_cons_succ]
    refine wpAnyH_take (i := 9) (v := ?v10) rfl (by kernel_rfl) (by kernel_rfl) (by kernel_rfl) (fun _ _ _ h => h) (Or.inl ⟨by kernel_rfl, ?h10⟩) hHeld ?r10
    case h10 => intro W hSw; (try dsimp only at hSw); obtain ⟨t0, t1, t2, t3, t4, t5, t6, t7, t8, t9, t10, t11, t12, t13, t14⟩ := hSw; go_simp; try with_reducible rfl
    simp only [Act.put, List.setIfInBounds_toArray, List.set_cons_zero, List.set_cons_succ]
    refine wpAnyH_take (i := 10) (v := ?v11) rfl (by kernel_rfl) (by kernel_rfl) (by kernel_rfl) (fun _ _ _ h => h) (Or.inl ⟨by kernel_rfl, ?h11⟩) hHeld ?r11
    case h11 => intro W hSw; (try dsimp only at hSw); obtain ⟨t0, t1, t2, t3, t4, t5, t6, t7, t8, t9, t10, t11, t12, t13, t14⟩ := hSw; go_simp; try with_reducible rfl
    simp only [Act.put, List.setIfInBounds_toArray, List.set_cons_zero, List.set_cons_succ]
    refine wpAnyH_take (i := 11) (v := ?v12) rfl (by kernel_rfl) (by kernel_rfl) (by kernel_rfl) (fun _ _ _ h => h) (Or.inl ⟨by kernel_rfl, ?h12⟩) hHeld ?r12
    case h12 => intro W hSw; (try dsimp only at hSw); obtain ⟨t0, t1, t2, t3, t4, t5, t6, t7, t8, t9, t10, t11, t12, t13, t14⟩ := hSw; go_simp; try with_reducible rfl
    simp only [Act.put, List.setIfInBounds_toArray, List.set_cons_zero, List.set_cons_succ]
    refine wpAnyH_take (i := 12) (v := ?v13) rfl (by kernel_rfl) (by kernel_rfl) (by kernel_rfl) (fun _ _ _ h => h) (Or.inl ⟨by kernel_rfl, ?h13⟩) hHeld ?r13
    case h13 => intro W hSw; (try dsimp only at hSw); obtain ⟨t0, t1, t2, t3, t4, t5, t6, t7, t8, t9, t10, t11, t12, t13, t14⟩ := hSw; go_simp; try with_reducible rfl
    simp only [Act.put, List.setIfInBounds_toArray, List.set_cons_zero, List.set_cons_succ]
    refine wpAnyH_ready (rs := [13]) (by kernel_rfl) (by simp) ?_
    refine AllReadyH.cons rfl (fun K hK => ?_) AllReadyH.nil
    go_simp
    go_wp2_with (first | (go_at_call 14; refine (CS1.out _ (bd0 V4)).mono ?_; rintro e qs1 ⟨rfl, bb⟩; have RS1 : Hid (Below V4.heap.size V4 qs1) := below_trans (bd0 V4) bb))
    refine hK.out _ _ (HS.out _ RS1.out) (fun hHeld => ?_)
    clear hK K
    (try simp only [Act.put, List.setIfInBounds_toArray, List.set_cons_zero, List.set_cons_succ])
    refine wpAnyH_take (i := 14) (v := ?v14) rfl (by kernel_rfl) (by kernel_rfl) (by kernel_rfl) (fun _ _ _ h => h) (Or.inl ⟨by kernel_rfl, ?h14⟩) hHeld ?r14
    case h14 => intro W hSw; (try dsimp only at hSw); obtain ⟨t0, t1, t2, t3, t4, t5, t6, t7, t8, t9, t10, t11, t12, t13, t14⟩ := hSw; go_simp; try with_reducible rfl
    simp only [Act.put, List.setIfInBounds_toArray, List.set_cons_zero, List.set_cons_succ]
    refine wpAnyH_take (i := 15) (v := ?v15) rfl (by kernel_rfl) (by kernel_rfl) (by kernel_rfl) (fun _ _ _ h => h) (Or.inl ⟨by kernel_rfl, ?h15⟩) hHeld ?r15
    case h15 => intro W hSw; (try dsimp only at hSw); obtain ⟨t0, t1, t2, t3, t4, t5, t6, t7, t8, t9, t10, t11, t12, t13, t14⟩ := hSw; go_simp; try with_reducible rfl
    simp only [Act.put, List.setIfInBounds_toArray, List.set_cons_zero, List.set_cons_succ]
    refine wpAnyH_take (i := 16) (v := ?v16) rfl (by kernel_rfl) (by kernel_rfl) (by kernel_rfl) (fun _ _ _ h => h) (Or.inl ⟨by kernel_rfl, ?h16⟩) hHeld ?r16
    case h16 => intro W hSw; (try dsimp only at hSw); obtain ⟨t0, t1, t2, t3, t4, t5, t6, t7, t8, t9, t10, t11, t12, t13, t14⟩ := hSw; go_simp; try with_reducible rfl
    simp only [Act.put, List.setIfInBounds_toArray, List.set_cons_zero, List.set_cons_succ]
    refine wpAnyH_take (i := 17) (v := ?v17) rfl (by kernel_rfl) (by kernel_rfl) (by kernel_rfl) (fun _ _ _ h => h) (Or.inl ⟨by kernel_rfl, ?h17⟩) hHeld ?r17
    case h17 => intro W hSw; (try dsimp only at hSw); obtain ⟨t0, t1, t2, t3, t4, t5, t6, t7, t8, t9, t10, t11, t12, t13, t14⟩ := hSw; go_simp; try with_reducible rfl
    simp only [Act.put, List.setIfInBounds_toArray, List.set_cons_zero, List.set_cons_succ]
    refine wpAnyH_ready (rs := [18]) (by kernel_rfl) (by simp) ?_
    refine AllReadyH.cons rfl (fun K hK => ?_) AllReadyH.nil
    go_simp
    go_wp2_with (first | (go_at_call 14; refine (CS2.out _ RS1.out).mono ?_; rintro e qs2 ⟨rfl, bb⟩; have RS2 : Hid (Below V4.heap.size V4 qs2) := below_trans RS1.out bb))
    refine hK.out _ _ (HS.out _ RS2.out) (fun hHeld => ?_)
    clear hK K
    (try simp only [Act.put, List.setIfInBounds_toArray, List.set_cons_zero, List.set_cons_succ])
    refine wpAnyH_take (i := 19) (v := ?v18) rfl (by kernel_rfl) (by kernel_rfl) (by kernel_rfl) (fun _ _ _ h => h) (Or.inl ⟨by kernel_rfl, ?h18⟩) hHeld ?r18
    case h18 => intro W hSw; (try dsimp only at hSw); obtain ⟨t0, t1, t2, t3, t4, t5, t6, t7, t8, t9, t10, t11, t12, t13, t14⟩ := hSw; go_simp; try with_reducible rfl
    simp only [Act.put, List.setIfInBounds_toArray, List.set_cons_zero, List.set_cons_succ]
    refine wpAnyH_take (i := 20) (v := ?v19) rfl (by kernel_rfl) (by kernel_rfl) (by kernel_rfl) (fun _ _ _ h => h) (Or.inl ⟨by kernel_rfl, ?h19⟩) hHeld ?r19
    case h19 => intro W hSw; (try dsimp only at hSw); obtain ⟨t0, t1, t2, t3, t4, t5, t6, t7, t8, t9, t10, t11, t12, t13, t14⟩ := hSw; go_simp; try with_reducible rfl
    simp only [Act.put, List.setIfInBounds_toArray, List.set_cons_zero, List.set_cons_succ]
    refine wpAnyH_take (i := 21) (v := ?v20) rfl (by kernel_rfl) (by kernel_rfl) (by kernel_rfl) (fun _ _ _ h => h) (Or.inl ⟨by kernel_rfl, ?h20⟩) hHeld ?r20
    case h20 => intro W hSw; (try dsimp only at hSw); obtain ⟨t0, t1, t2, t3, t4, t5, t6, t7, t8, t9, t10, t11, t12, t13, t14⟩ := hSw; go_simp; try with_reducible rfl
    simp only [Act.put, List.setIfInBounds_toArray, List.set_cons_zero, List.set_cons_succ]
    refine wpAnyH_take (i := 23) (v := ?v21) rfl (by kernel_rfl) (by kernel_rfl) (by kernel_rfl) (fun _ _ _ h => h) (Or.inl ⟨by kernel_rfl, ?h21⟩) hHeld ?r21
    case h21 => intro W hSw; (try dsimp only at hSw); obtain ⟨t0, t1, t2, t3, t4, t5, t6, t7, t8, t9, t10, t11, t12, t13, t14⟩ := hSw; go_simp; try with_reducible rfl
    simp only [Act.put, List.setIfInBounds_toArray, List.set_cons_zero, List.set_cons_succ]
    refine wpAnyH_ready (rs := [22]) (by kernel_rfl) (by simp) ?_
    refine AllReadyH.cons rfl (fun K hK => ?_) AllReadyH.nil
    go_simp
    go_wp2_with (first | (go_at_call 22; refine (CL1.out _ RS2.out).mono ?_; rintro e qs3 ⟨rfl, bb⟩; have RS3 : Hid (Below V4.heap.size V4 qs3) := below_trans RS2.out bb))
    refine hK.out _ _ (HS.out _ RS3.out) (fun hHeld => ?_)
    clear hK K
    (try simp only [Act.put, List.setIfInBounds_toArray, List.set_cons_zero, List.set_cons_succ])
    refine wpAnyH_ready (rs := [24]) (by kernel_rfl) (by simp) ?_
    refine AllReadyH.cons rfl (fun K hK => ?_) AllReadyH.nil
    go_simp
    go_wp2_with (first | (go_at_call 22; refine (CL2.out _ RS3.out).mono ?_; rintro e qs4 ⟨rfl, bb⟩; have RS4 : Hid (Below V4.heap.size V4 qs4) := below_trans RS3.out bb))
    refine hK.out _ _ (HS.out _ RS4.out) (fun hHeld => ?_)
    clear hK K
    (try simp only [Act.put, List.setIfInBounds_toArray, List.set_cons_zero, List.set_cons_succ])
    refine wpAnyH_take (i := 25) (v := ?v22) rfl (by kernel_rfl) (by kernel_rfl) (by kernel_rfl) (fun _ _ _ h => h) (Or.inl ⟨by kernel_rfl, ?h22⟩) hHeld ?r22
    case h22 => intro W hSw; (try dsimp only at hSw); obtain ⟨t0, t1, t2, t3, t4, t5, t6, t7, t8, t9, t10, t11, t12, t13, t14⟩ := hSw; go_simp; try with_reducible rfl
    simp only [Act.put, List.setIfInBounds_toArray, List.set_cons_zero, List.set_cons_succ]
    refine wpAnyH_take (i := 26) (v := ?v23) rfl (by kernel_rfl) (by kernel_rfl) (by kernel_rfl) (fun _ _ _ h => h) (Or.inl ⟨by kernel_rfl, ?h23⟩) hHeld ?r23
    case h23 => intro W hSw; (try dsimp only at hSw); obtain ⟨t0, t1, t2, t3, t4, t5, t6, t7, t8, t9, t10, t11, t12, t13, t14⟩ := hSw; go_simp; try with_reducible rfl
    simp only [Act.put, List.setIfInBounds_toArray, List.set_cons_zero, List.set_cons_succ]
    refine wpAnyH_ready (rs := [27]) (by kernel_rfl) (by simp) ?_
    refine AllReadyH.cons rfl (fun K hK => ?_) AllReadyH.nil
    go_simp
    refine hK.out _ _ (HS.out _ RS4.out) (fun hHeld => ?_)
    clear hK K
    (try simp only [Act.put, List.setIfInBounds_toArray, List.set_cons_zero, List.set_cons_succ])
    refine wpAnyH_done (by kernel_rfl) ?_ _
    go_wp2_with fail
    go_ret
    exact ⟨rfl, below_trans bw RS4.out⟩

set_option maxHeartbeats 8000000 in
set_option maxRecDepth 100000 in
theorem w_screenMirrors (X Y : Int) (P : List Int) (vP : Value) (q : Int) (w : World) (r0 : Rd .u8 w vP P) (g0 : gPc (X, Y, P)) (bq : -32768 ≤ q ∧ q < 32768) :
    Calls Try.prog 7 #[.agg #[.int .i64 X, .int .i64 Y, vP], .int .i16 q] w fun e w' => e = .returned (.bool true) ∧ Below w.heap.size w w' := by
  obtain ⟨bq0, bq1⟩ := bq
  have k1 : IntKind.i64.wrap q = q := by rw [IntKind.wrap_i64]; omega
  have k2 : IntKind.i64.wrap (-q) = -q := by rw [IntKind.wrap_i64]; omega
  obtain ⟨pa, pq, rfl⟩ := rd_slice r0
  have bw := box_below w (.cells #[.int .i64 X, .int .i64 Y, .slice pa P.length pq] 28)
  have sP := stands_new w #[.int .i64 X, .int .i64 Y, .slice pa P.length pq] 28
  go_enter Try.func7, Try.ntmps7
  go_upto_region 1 with fail
  generalize w.alloc (.cells #[.int .i64 X, .int .i64 Y, .slice pa P.length pq] 28) = W0 at bw sP ⊢
  go_upto_region 3 with (first | (go_at_call 9; refine (w_alive22 _).mono ?_; rintro e q0 ⟨rfl, b0⟩) | fail)
  have bw := below_trans bw b0
  have sP := sP.below b0
  have rP := r0.below bw
  clear b0 r0
  cases hf : fmI (X, Y, P)
  · have c1 := fun v w h => w_pmirror22 v (X, Y, P) w h g0
    rw [miI_no hf] at c1
    simp only [noP] at c1
    clear hf
    have zP0 := sP.cell 0 _ rfl
    have zP1 := sP.cell 1 _ rfl
    have zP2 := sP.cell 2 _ rfl
    go_upto_region 4 with (first | (go_at_call 18; refine (c1 _ _ ⟨_, rfl, rP⟩).mono ?_; rintro e q1 ⟨v1, rfl, ⟨vp1, rfl, rr1⟩, bb1⟩; obtain ⟨a1, l1, rfl⟩ := rd_slice rr1) | fail)
    have bx1 := box_below q1 (.cells #[.int .i64 0, .int .i64 0, .slice a1 ([] : List Int).length l1] 28)
    have s1 := stands_new q1 #[.int .i64 0, .int .i64 0, .slice a1 ([] : List Int).length l1] 28
    have m1 := below_trans bb1 bx1
    have r1 : Rd .u8 _ (.slice a1 ([] : List Int).length l1) ([] : List Int) := rr1.below bx1
    have sP := sP.below m1
    have rP := rP.below m1
    have bw := below_trans bw m1
    clear zP0 zP1 zP2 rr1 bb1 bx1 m1
    generalize q1.alloc (.cells #[.int .i64 0, .int .i64 0, .slice a1 ([] : List Int).length l1] 28) = V1 at sP s1 rP r1 bw ⊢
    have z10 := s1.cell 0 _ rfl
    have z11 := s1.cell 1 _ rfl
    have z12 := s1.cell 2 _ rfl
    have zP0 := sP.cell 0 _ rfl
    have zP1 := sP.cell 1 _ rfl
    have zP2 := sP.cell 2 _ rfl
    have hl1 := rd_len r1 uB (P := Try.prog)
    simp only [List.length_nil] at hl1 z12
    simp only [List.length_nil] at r1
    go_wp2_with fail
    go_ret
    exact ⟨ret_b (by simp), bw⟩
  · obtain ⟨⟨X1, Y1, P1⟩, ⟨X4, Y4, P4⟩, h1, hf1, h2, h4, hf4, h3⟩ := mi_law hf q 1
    have g1 := miI_g g0 1
    rw [h1] at g1
    have g4 := tnI_g g0 (-q) 1
    rw [h4] at g4
    have g3 := miI_g g4 1
    have c1 := fun v w h => w_pmirror22 v (X, Y, P) w h g0
    have c2 := fun v w h => w_pmirror22 v (X1, Y1, P1) w h g1
    have c3 := fun v w h => w_pturn22 v (X1, Y1, P1) q w h g1 (by omega)
    have c4 := fun v w h => w_pturn22 v (X, Y, P) (-q) w h g0 (by omega)
    have c5 := fun v w h => w_pmirror22 v (X4, Y4, P4) w h g4
    simp only [h1] at c1
    simp only [h2] at c2
    simp only [h3] at c3
    simp only [h4] at c4
    have hE : ∃ z, miI (X4, Y4, P4) 1 = (z, 0) := by unfold miI; rw [if_pos hf4]; exact ⟨_, rfl⟩
    obtain ⟨⟨X3, Y3, P3⟩, hz⟩ := hE
    rw [hz] at g3
    simp only [hz] at c3 c5
    simp only at g1 g3 g4
    clear h1 h2 h3 h4 hf1 hf4 hz hf
    have zP0 := sP.cell 0 _ rfl
    have zP1 := sP.cell 1 _ rfl
    have zP2 := sP.cell 2 _ rfl
    go_upto_region 4 with (first | (go_at_call 18; refine (c1 _ _ ⟨_, rfl, rP⟩).mono ?_; rintro e q1 ⟨v1, rfl, ⟨vp1, rfl, rr1⟩, bb1⟩; obtain ⟨a1, l1, rfl⟩ := rd_slice rr1) | fail)
    have bx1 := box_below q1 (.cells #[.int .i64 X1, .int .i64 Y1, .slice a1 P1.length l1] 28)
    have s1 := stands_new q1 #[.int .i64 X1, .int .i64 Y1, .slice a1 P1.length l1] 28
    have m1 := below_trans bb1 bx1
    have r1 : Rd .u8 _ (.slice a1 P1.length l1) P1 := rr1.below bx1
    have sP := sP.below m1
    have rP := rP.below m1
    have bw := below_trans bw m1
    clear zP0 zP1 zP2 rr1 bb1 bx1 m1
    generalize q1.alloc (.cells #[.int .i64 X1, .int .i64 Y1, .slice a1 P1.length l1] 28) = V1 at sP s1 rP r1 bw ⊢
    have z10 := s1.cell 0 _ rfl
    have z11 := s1.cell 1 _ rfl
    have z12 := s1.cell 2 _ rfl
    go_upto_region 7 with (first | (go_at_call 18; refine (c2 _ _ ⟨_, rfl, r1⟩).mono ?_; rintro e q2 ⟨v2, rfl, ⟨vp2, rfl, rr2⟩, bb2⟩; obtain ⟨a2, l2, rfl⟩ := rd_slice rr2) | fail)
    have bx2 := box_below q2 (.cells #[.int .i64 X, .int .i64 Y, .slice a2 P.length l2] 28)
    have s2 := stands_new q2 #[.int .i64 X, .int .i64 Y, .slice a2 P.length l2] 28
    have m2 := below_trans bb2 bx2
    have r2 : Rd .u8 _ (.slice a2 P.length l2) P := rr2.below bx2
    have sP := sP.below m2
    have rP := rP.below m2
    have s1 := s1.below m2
    have r1 := r1.below m2
    have bw := below_trans bw m2
    clear z10 z11 z12 rr2 bb2 bx2 m2
    generalize q2.alloc (.cells #[.int .i64 X, .int .i64 Y, .slice a2 P.length l2] 28) = V2 at sP s1 s2 rP r1 r2 bw ⊢
    have z10 := s1.cell 0 _ rfl
    have z11 := s1.cell 1 _ rfl
    have z12 := s1.cell 2 _ rfl
    go_upto_region 8 with (first | (go_at_call 16; refine (c3 _ _ ⟨_, rfl, r1⟩).mono ?_; rintro e q3 ⟨v3, rfl, ⟨vp3, rfl, rr3⟩, bb3⟩; obtain ⟨a3, l3, rfl⟩ := rd_slice rr3) | fail)
    have bx3 := box_below q3 (.cells #[.int .i64 X3, .int .i64 Y3, .slice a3 P3.length l3] 28)
    have s3 := stands_new q3 #[.int .i64 X3, .int .i64 Y3, .slice a3 P3.length l3] 28
    have m3 := below_trans bb3 bx3
    have r3 : Rd .u8 _ (.slice a3 P3.length l3) P3 := rr3.below bx3
    have sP := sP.below m3
    have rP := rP.below m3
    have s1 := s1.below m3
    have r1 := r1.below m3
    have s2 := s2.below m3
    have r2 := r2.below m3
    have bw := below_trans bw m3
    clear z10 z11 z12 rr3 bb3 bx3 m3
    generalize q3.alloc (.cells #[.int .i64 X3, .int .i64 Y3, .slice a3 P3.length l3] 28) = V3 at sP s1 s2 s3 rP r1 r2 r3 bw ⊢
    have zP0 := sP.cell 0 _ rfl
    have zP1 := sP.cell 1 _ rfl
    have zP2 := sP.cell 2 _ rfl
    go_upto_region 9 with (first | (go_at_call 16; refine (c4 _ _ ⟨_, rfl, rP⟩).mono ?_; rintro e q4 ⟨v4, rfl, ⟨vp4, rfl, rr4⟩, bb4⟩; obtain ⟨a4, l4, rfl⟩ := rd_slice rr4) | fail)
    have bx4 := box_below q4 (.cells #[.int .i64 X4, .int .i64 Y4, .slice a4 P4.length l4] 28)
    have s4 := stands_new q4 #[.int .i64 X4, .int .i64 Y4, .slice a4 P4.length l4] 28
    have m4 := below_trans bb4 bx4
    have r4 : Rd .u8 _ (.slice a4 P4.length l4) P4 := rr4.below bx4
    have sP := sP.below m4
    have rP := rP.below m4
    have s1 := s1.below m4
    have r1 := r1.below m4
    have s2 := s2.below m4
    have r2 := r2.below m4
    have s3 := s3.below m4
    have r3 := r3.below m4
    have bw := below_trans bw m4
    clear zP0 zP1 zP2 rr4 bb4 bx4 m4
    generalize q4.alloc (.cells #[.int .i64 X4, .int .i64 Y4, .slice a4 P4.length l4] 28) = V4 at sP s1 s2 s3 s4 rP r1 r2 r3 r4 bw ⊢
    have z40 := s4.cell 0 _ rfl
    have z41 := s4.cell 1 _ rfl
    have z42 := s4.cell 2 _ rfl
    go_upto_region 10 with (first | (go_at_call 18; refine (c5 _ _ ⟨_, rfl, r4⟩).mono ?_; rintro e q5 ⟨v5, rfl, ⟨vp5, rfl, rr5⟩, bb5⟩; obtain ⟨a5, l5, rfl⟩ := rd_slice rr5) | fail)
    have bx5 := box_below q5 (.cells #[.int .i64 X3, .int .i64 Y3, .slice a5 P3.length l5] 28)
    have s5 := stands_new q5 #[.int .i64 X3, .int .i64 Y3, .slice a5 P3.length l5] 28
    have m5 := below_trans bb5 bx5
    have r5 : Rd .u8 _ (.slice a5 P3.length l5) P3 := rr5.below bx5
    have sP := sP.below m5
    have rP := rP.below m5
    have s1 := s1.below m5
    have r1 := r1.below m5
    have s2 := s2.below m5
    have r2 := r2.below m5
    have s3 := s3.below m5
    have r3 := r3.below m5
    have s4 := s4.below m5
    have r4 := r4.below m5
    have bw := below_trans bw m5
    clear z40 z41 z42 rr5 bb5 bx5 m5
    generalize q5.alloc (.cells #[.int .i64 X3, .int .i64 Y3, .slice a5 P3.length l5] 28) = V5 at sP s1 s2 s3 s4 s5 rP r1 r2 r3 r4 r5 bw ⊢
    have z20 := s2.cell 0 _ rfl
    have z21 := s2.cell 1 _ rfl
    have z22 := s2.cell 2 _ rfl
    have zP0 := sP.cell 0 _ rfl
    have zP1 := sP.cell 1 _ rfl
    have zP2 := sP.cell 2 _ rfl
    have z30 := s3.cell 0 _ rfl
    have z31 := s3.cell 1 _ rfl
    have z32 := s3.cell 2 _ rfl
    have z50 := s5.cell 0 _ rfl
    have z51 := s5.cell 1 _ rfl
    have z52 := s5.cell 2 _ rfl
    have CS1 := hid (fun W9 (g : Below V5.heap.size V5 W9) => (w_rsame22 (.agg #[.int .i64 X, .int .i64 Y, .slice a2 P.length l2]) (.agg #[.int .i64 X, .int .i64 Y, .slice pa P.length pq]) (X, Y, P) (X, Y, P) W9 ⟨_, rfl, r2.below g⟩ ⟨_, rfl, rP.below g⟩ g0.1 g0.1).mono (R' := fun e w' => e = .returned (.bool true) ∧ Below W9.heap.size W9 w') (fun e w' h => by rw [decide_eq_true rfl] at h; exact h))
    have CS2 := hid (fun W9 (g : Below V5.heap.size V5 W9) => (w_rsame22 (.agg #[.int .i64 X3, .int .i64 Y3, .slice a3 P3.length l3]) (.agg #[.int .i64 X3, .int .i64 Y3, .slice a5 P3.length l5]) (X3, Y3, P3) (X3, Y3, P3) W9 ⟨_, rfl, r3.below g⟩ ⟨_, rfl, r5.below g⟩ g3.1 g3.1).mono (R' := fun e w' => e = .returned (.bool true) ∧ Below W9.heap.size W9 w') (fun e w' h => by rw [decide_eq_true rfl] at h; exact h))
    go_wp2_with (first
      | (go_at_call_of 14 a2; refine (CS1.out _ (Below.refl _ V5)).mono ?_; rintro e qs1 ⟨rfl, bs1⟩; have z30 := below_cell bs1 z30; have z31 := below_cell bs1 z31; have z32 := below_cell bs1 z32; have z50 := below_cell bs1 z50; have z51 := below_cell bs1 z51; have z52 := below_cell bs1 z52)
      | (go_at_call_of 14 a3; refine (CS2.out _ bs1).mono ?_; rintro e qs2 ⟨rfl, bs2⟩))
    go_ret
    exact ⟨ret_b (by simp), below_trans bw (below_trans bs1 bs2)⟩

end Go.Proofs.Ythihkfimledccaa
