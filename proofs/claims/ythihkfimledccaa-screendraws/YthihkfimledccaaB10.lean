/-
  Texts of one proof, laid one behind the other: Sdr.
-/
import Derived.Test.YthihkfimledccaaB9
namespace Go.Proofs.Ythihkfimledccaa
open Go.ChangeShapes Go.WideShapes Go.ChangeAt Go.RowKit
set_option linter.unusedVariables false
set_option linter.unusedSimpArgs false

/-
  The law ScreenDrawn.
-/
set_option maxHeartbeats 8000000 in
set_option maxRecDepth 100000 in
theorem w_screenDrawn (X Y : Int) (P : List Int) (vP : Value) (M N : Int) (Q : List Int) (vQ : Value) (x y q : Int) (w : World) (r0 : Rd .u8 w vP P) (g0 : gPc (X, Y, P)) (rq : Rd .u8 w vQ Q) (gq : gPc (M, N, Q)) (bx : -9223372036854775808 ≤ x ∧ x < 9223372036854775808) (by' : -9223372036854775808 ≤ y ∧ y < 9223372036854775808) (bq : -9223372036854775808 ≤ q ∧ q < 9223372036854775808) :
    Calls Try.prog 8 #[.agg #[.int .i64 X, .int .i64 Y, vP], .agg #[.int .i64 M, .int .i64 N, vQ], .agg #[.int .i64 x, .int .i64 y, .int .i64 q]] w fun e w' => e = .returned (.bool true) ∧ Below w.heap.size w w' := by
  obtain ⟨pa, pq, rfl⟩ := rd_slice r0
  obtain ⟨qa, qq, rfl⟩ := rd_slice rq
  have bw : Below w.heap.size w (((w.alloc (.cells #[.int .i64 X, .int .i64 Y, .slice pa P.length pq] 28)).alloc (.cells #[.int .i64 M, .int .i64 N, .slice qa Q.length qq] 28)).alloc (.cells #[.int .i64 x, .int .i64 y, .int .i64 q] 40)) := below_trans (box_below w _) (below_trans (box_below _ _) (box_below _ _))
  have sP := ((stands_new w #[.int .i64 X, .int .i64 Y, .slice pa P.length pq] 28).below (box_below _ (.cells #[.int .i64 M, .int .i64 N, .slice qa Q.length qq] 28))).below (box_below _ (.cells #[.int .i64 x, .int .i64 y, .int .i64 q] 40))
  have sQ := (stands_new (w.alloc (.cells #[.int .i64 X, .int .i64 Y, .slice pa P.length pq] 28)) #[.int .i64 M, .int .i64 N, .slice qa Q.length qq] 28).below (box_below _ (.cells #[.int .i64 x, .int .i64 y, .int .i64 q] 40))
  have sA := stands_new ((w.alloc (.cells #[.int .i64 X, .int .i64 Y, .slice pa P.length pq] 28)).alloc (.cells #[.int .i64 M, .int .i64 N, .slice qa Q.length qq] 28)) #[.int .i64 x, .int .i64 y, .int .i64 q] 40
  rw [size_al] at sQ
  rw [size_al, size_al] at sA
  go_enter Try.func8, Try.ntmps8
  go_upto_region 1 with fail
  generalize ((w.alloc (.cells #[.int .i64 X, .int .i64 Y, .slice pa P.length pq] 28)).alloc (.cells #[.int .i64 M, .int .i64 N, .slice qa Q.length qq] 28)).alloc (.cells #[.int .i64 x, .int .i64 y, .int .i64 q] 40) = W0 at bw sP sQ sA ⊢
  go_upto_region 3 with (first | (go_at_call 9; refine (w_alive22 _).mono ?_; rintro e q0 ⟨rfl, b1⟩) | fail)
  have bw := below_trans bw b1
  have rP := r0.below bw
  have rQ := rq.below bw
  have sP := sP.below b1
  have sQ := sQ.below b1
  have sA := sA.below b1
  clear b1 r0 rq
  have c1 := fun u v w h h2 => w_pdraw22 u v (X, Y, P) (M, N, Q) x y q w h h2 g0 gq bx by' bq
  have c2 := fun v w h => w_pturn22 v (M, N, Q) q w h gq bq
  cases hc : (fmI (X, Y, P) && fmI (M, N, Q) && decide (-64 ≤ x) && decide (x ≤ 64) && decide (-64 ≤ y) && decide (y ≤ 64))
  · rw [drI_bad hc] at c1
    simp only [noP] at c1
    cases ht : fmI (M, N, Q)
    · rw [tnI_no ht] at c2
      simp only [noP] at c2
      have c3 := fun u v w h h2 => w_pdraw22 u v (X, Y, P) (0, 0, []) x y 0 w h h2 g0 gPc_no bx by' (by omega)
      obtain ⟨⟨⟨X3, Y3, P3⟩, E3⟩, h3⟩ : ∃ z, drI (X, Y, P) (0, 0, []) x y 0 1 = z := ⟨_, rfl⟩
      simp only [h3] at c3
      clear h3 hc ht
      have zP0 := sP.cell 0 _ rfl
      have zP1 := sP.cell 1 _ rfl
      have zP2 := sP.cell 2 _ rfl
      have zQ0 := sQ.cell 0 _ rfl
      have zQ1 := sQ.cell 1 _ rfl
      have zQ2 := sQ.cell 2 _ rfl
      have zA0 := sA.cell 0 _ rfl
      have zA1 := sA.cell 1 _ rfl
      have zA2 := sA.cell 2 _ rfl
      go_upto_region 4 with (first | (go_at_call 24; refine (c1 _ _ _ ⟨_, rfl, rP⟩ ⟨_, rfl, rQ⟩).mono ?_; rintro e q1 ⟨v1, rfl, ⟨vp1, rfl, rr1⟩, bb1⟩; obtain ⟨a1, l1, rfl⟩ := rd_slice rr1) | fail)
      have bx1 := box_below q1 (.cells #[.int .i64 0, .int .i64 0, .slice a1 ([] : List Int).length l1] 28)
      have s1 := stands_new q1 #[.int .i64 0, .int .i64 0, .slice a1 ([] : List Int).length l1] 28
      have m1 := below_trans bb1 bx1
      have r1 : Rd .u8 _ (.slice a1 ([] : List Int).length l1) ([] : List Int) := rr1.below bx1
      have sP := sP.below m1
      have rP := rP.below m1
      have sQ := sQ.below m1
      have rQ := rQ.below m1
      have sA := sA.below m1
      have bw := below_trans bw m1
      clear zP0 zP1 zP2 zQ0 zQ1 zQ2 zA0 zA1 zA2 rr1 bb1 bx1 m1
      generalize q1.alloc (.cells #[.int .i64 0, .int .i64 0, .slice a1 ([] : List Int).length l1] 28) = V1 at sP sQ sA s1 rP rQ r1 bw ⊢
      have zQ0 := sQ.cell 0 _ rfl
      have zQ1 := sQ.cell 1 _ rfl
      have zQ2 := sQ.cell 2 _ rfl
      have zA0 := sA.cell 0 _ rfl
      have zA1 := sA.cell 1 _ rfl
      have zA2 := sA.cell 2 _ rfl
      go_upto_region 5 with (first | (go_at_call 16; refine (c2 _ _ ⟨_, rfl, rQ⟩).mono ?_; rintro e q2 ⟨v2, rfl, ⟨vp2, rfl, rr2⟩, bb2⟩; obtain ⟨a2, l2, rfl⟩ := rd_slice rr2) | fail)
      have bx2 := box_below q2 (.cells #[.int .i64 0, .int .i64 0, .slice a2 ([] : List Int).length l2] 28)
      have s2 := stands_new q2 #[.int .i64 0, .int .i64 0, .slice a2 ([] : List Int).length l2] 28
      have m2 := below_trans bb2 bx2
      have r2 : Rd .u8 _ (.slice a2 ([] : List Int).length l2) ([] : List Int) := rr2.below bx2
      have sP := sP.below m2
      have rP := rP.below m2
      have sQ := sQ.below m2
      have rQ := rQ.below m2
      have sA := sA.below m2
      have s1 := s1.below m2
      have r1 := r1.below m2
      have bw := below_trans bw m2
      clear zQ0 zQ1 zQ2 zA0 zA1 zA2 rr2 bb2 bx2 m2
      generalize q2.alloc (.cells #[.int .i64 0, .int .i64 0, .slice a2 ([] : List Int).length l2] 28) = V2 at sP sQ sA s1 s2 rP rQ r1 r2 bw ⊢
      have zP0 := sP.cell 0 _ rfl
      have zP1 := sP.cell 1 _ rfl
      have zP2 := sP.cell 2 _ rfl
      have z20 := s2.cell 0 _ rfl
      have z21 := s2.cell 1 _ rfl
      have z22 := s2.cell 2 _ rfl
      have zA0 := sA.cell 0 _ rfl
      have zA1 := sA.cell 1 _ rfl
      have zA2 := sA.cell 2 _ rfl
      go_upto_region 6 with (first | (go_at_call 24; refine (c3 _ _ _ ⟨_, rfl, rP⟩ ⟨_, rfl, r2⟩).mono ?_; rintro e q3 ⟨v3, rfl, ⟨vp3, rfl, rr3⟩, bb3⟩; obtain ⟨a3, l3, rfl⟩ := rd_slice rr3) | fail)
      have bx3 := box_below q3 (.cells #[.int .i64 X3, .int .i64 Y3, .slice a3 P3.length l3] 28)
      have s3 := stands_new q3 #[.int .i64 X3, .int .i64 Y3, .slice a3 P3.length l3] 28
      have m3 := below_trans bb3 bx3
      have r3 : Rd .u8 _ (.slice a3 P3.length l3) P3 := rr3.below bx3
      have sP := sP.below m3
      have rP := rP.below m3
      have sQ := sQ.below m3
      have rQ := rQ.below m3
      have sA := sA.below m3
      have s1 := s1.below m3
      have r1 := r1.below m3
      have s2 := s2.below m3
      have r2 := r2.below m3
      have bw := below_trans bw m3
      clear zP0 zP1 zP2 z20 z21 z22 zA0 zA1 zA2 rr3 bb3 bx3 m3
      generalize q3.alloc (.cells #[.int .i64 X3, .int .i64 Y3, .slice a3 P3.length l3] 28) = V3 at sP sQ sA s1 s2 s3 rP rQ r1 r2 r3 bw ⊢
      go_wp2_with fail
      go_ret
      exact ⟨ret_b (by simp), bw⟩
    · have hE : ∃ z, tnI (M, N, Q) q 1 = (z, 0) ∧ fmI z = true := by
        obtain ⟨f1, f2, f3⟩ := fm_toP ht
        unfold tnI
        rw [if_pos ht]
        exact ⟨_, rfl, fm_ofP (pcT_f f1 _) (pcS_T f2 _)⟩
      obtain ⟨⟨X2, Y2, P2⟩, hz, hf⟩ := hE
      have g2 := tnI_g gq q 1
      rw [hz] at g2
      simp only [hz] at c2
      have c3 := fun u v w h h2 => w_pdraw22 u v (X, Y, P) (X2, Y2, P2) x y 0 w h h2 g0 g2 bx by' (by omega)
      rw [drI_bad (by rw [hf]; rw [ht] at hc; exact hc)] at c3
      simp only [noP] at c3
      clear hz hf hc ht
      have zP0 := sP.cell 0 _ rfl
      have zP1 := sP.cell 1 _ rfl
      have zP2 := sP.cell 2 _ rfl
      have zQ0 := sQ.cell 0 _ rfl
      have zQ1 := sQ.cell 1 _ rfl
      have zQ2 := sQ.cell 2 _ rfl
      have zA0 := sA.cell 0 _ rfl
      have zA1 := sA.cell 1 _ rfl
      have zA2 := sA.cell 2 _ rfl
      go_upto_region 4 with (first | (go_at_call 24; refine (c1 _ _ _ ⟨_, rfl, rP⟩ ⟨_, rfl, rQ⟩).mono ?_; rintro e q1 ⟨v1, rfl, ⟨vp1, rfl, rr1⟩, bb1⟩; obtain ⟨a1, l1, rfl⟩ := rd_slice rr1) | fail)
      have bx1 := box_below q1 (.cells #[.int .i64 0, .int .i64 0, .slice a1 ([] : List Int).length l1] 28)
      have s1 := stands_new q1 #[.int .i64 0, .int .i64 0, .slice a1 ([] : List Int).length l1] 28
      have m1 := below_trans bb1 bx1
      have r1 : Rd .u8 _ (.slice a1 ([] : List Int).length l1) ([] : List Int) := rr1.below bx1
      have sP := sP.below m1
      have rP := rP.below m1
      have sQ := sQ.below m1
      have rQ := rQ.below m1
      have sA := sA.below m1
      have bw := below_trans bw m1
      clear zP0 zP1 zP2 zQ0 zQ1 zQ2 zA0 zA1 zA2 rr1 bb1 bx1 m1
      generalize q1.alloc (.cells #[.int .i64 0, .int .i64 0, .slice a1 ([] : List Int).length l1] 28) = V1 at sP sQ sA s1 rP rQ r1 bw ⊢
      have zQ0 := sQ.cell 0 _ rfl
      have zQ1 := sQ.cell 1 _ rfl
      have zQ2 := sQ.cell 2 _ rfl
      have zA0 := sA.cell 0 _ rfl
      have zA1 := sA.cell 1 _ rfl
      have zA2 := sA.cell 2 _ rfl
      go_upto_region 5 with (first | (go_at_call 16; refine (c2 _ _ ⟨_, rfl, rQ⟩).mono ?_; rintro e q2 ⟨v2, rfl, ⟨vp2, rfl, rr2⟩, bb2⟩; obtain ⟨a2, l2, rfl⟩ := rd_slice rr2) | fail)
      have bx2 := box_below q2 (.cells #[.int .i64 X2, .int .i64 Y2, .slice a2 P2.length l2] 28)
      have s2 := stands_new q2 #[.int .i64 X2, .int .i64 Y2, .slice a2 P2.length l2] 28
      have m2 := below_trans bb2 bx2
      have r2 : Rd .u8 _ (.slice a2 P2.length l2) P2 := rr2.below bx2
      have sP := sP.below m2
      have rP := rP.below m2
      have sQ := sQ.below m2
      have rQ := rQ.below m2
      have sA := sA.below m2
      have s1 := s1.below m2
      have r1 := r1.below m2
      have bw := below_trans bw m2
      clear zQ0 zQ1 zQ2 zA0 zA1 zA2 rr2 bb2 bx2 m2
      generalize q2.alloc (.cells #[.int .i64 X2, .int .i64 Y2, .slice a2 P2.length l2] 28) = V2 at sP sQ sA s1 s2 rP rQ r1 r2 bw ⊢
      have zP0 := sP.cell 0 _ rfl
      have zP1 := sP.cell 1 _ rfl
      have zP2 := sP.cell 2 _ rfl
      have z20 := s2.cell 0 _ rfl
      have z21 := s2.cell 1 _ rfl
      have z22 := s2.cell 2 _ rfl
      have zA0 := sA.cell 0 _ rfl
      have zA1 := sA.cell 1 _ rfl
      have zA2 := sA.cell 2 _ rfl
      go_upto_region 6 with (first | (go_at_call 24; refine (c3 _ _ _ ⟨_, rfl, rP⟩ ⟨_, rfl, r2⟩).mono ?_; rintro e q3 ⟨v3, rfl, ⟨vp3, rfl, rr3⟩, bb3⟩; obtain ⟨a3, l3, rfl⟩ := rd_slice rr3) | fail)
      have bx3 := box_below q3 (.cells #[.int .i64 0, .int .i64 0, .slice a3 ([] : List Int).length l3] 28)
      have s3 := stands_new q3 #[.int .i64 0, .int .i64 0, .slice a3 ([] : List Int).length l3] 28
      have m3 := below_trans bb3 bx3
      have r3 : Rd .u8 _ (.slice a3 ([] : List Int).length l3) ([] : List Int) := rr3.below bx3
      have sP := sP.below m3
      have rP := rP.below m3
      have sQ := sQ.below m3
      have rQ := rQ.below m3
      have sA := sA.below m3
      have s1 := s1.below m3
      have r1 := r1.below m3
      have s2 := s2.below m3
      have r2 := r2.below m3
      have bw := below_trans bw m3
      clear zP0 zP1 zP2 z20 z21 z22 zA0 zA1 zA2 rr3 bb3 bx3 m3
      generalize q3.alloc (.cells #[.int .i64 0, .int .i64 0, .slice a3 ([] : List Int).length l3] 28) = V3 at sP sQ sA s1 s2 s3 rP rQ r1 r2 r3 bw ⊢
      go_wp2_with fail
      go_ret
      exact ⟨ret_b (by simp), bw⟩
  · have hc2 := hc
    simp only [Bool.and_eq_true, decide_eq_true_eq] at hc2
    obtain ⟨⟨⟨⟨⟨h1, h2⟩, h3⟩, h4⟩, h5⟩, h6⟩ := hc2
    obtain ⟨⟨X1, Y1, P1⟩, ⟨X2, Y2, P2⟩, e1, fa, e2, fu, e3, hlg, e4⟩ := dr_law x y q 1 h1 h2 ⟨h3, h4⟩ ⟨h5, h6⟩
    have g1 := drI_g g0 gq x y q 1
    rw [e1] at g1
    have g2 := tnI_g gq q 1
    rw [e2] at g2
    have c3 := fun u v w h h2 => w_pdraw22 u v (X, Y, P) (X2, Y2, P2) x y 0 w h h2 g0 g2 bx by' (by omega)
    have c4 := fun u v w h h2 => w_pdraw22 u v (X1, Y1, P1) (M, N, Q) x y q w h h2 g1 gq bx by' bq
    simp only [e1] at c1
    simp only [e2] at c2
    simp only [e3] at c3
    simp only [e4] at c4
    simp only at g1 g2 hlg
    clear hc h1 h2 h3 h4 h5 h6 e1 e2 e3 e4 fa fu
    have zP0 := sP.cell 0 _ rfl
    have zP1 := sP.cell 1 _ rfl
    have zP2 := sP.cell 2 _ rfl
    have zQ0 := sQ.cell 0 _ rfl
    have zQ1 := sQ.cell 1 _ rfl
    have zQ2 := sQ.cell 2 _ rfl
    have zA0 := sA.cell 0 _ rfl
    have zA1 := sA.cell 1 _ rfl
    have zA2 := sA.cell 2 _ rfl
    go_upto_region 4 with (first | (go_at_call 24; refine (c1 _ _ _ ⟨_, rfl, rP⟩ ⟨_, rfl, rQ⟩).mono ?_; rintro e q1 ⟨v1, rfl, ⟨vp1, rfl, rr1⟩, bb1⟩; obtain ⟨a1, l1, rfl⟩ := rd_slice rr1) | fail)
    have bx1 := box_below q1 (.cells #[.int .i64 X1, .int .i64 Y1, .slice a1 P1.length l1] 28)
    have s1 := stands_new q1 #[.int .i64 X1, .int .i64 Y1, .slice a1 P1.length l1] 28
    have m1 := below_trans bb1 bx1
    have r1 : Rd .u8 _ (.slice a1 P1.length l1) P1 := rr1.below bx1
    have sP := sP.below m1
    have rP := rP.below m1
    have sQ := sQ.below m1
    have rQ := rQ.below m1
    have sA := sA.below m1
    have bw := below_trans bw m1
    clear zP0 zP1 zP2 zQ0 zQ1 zQ2 zA0 zA1 zA2 rr1 bb1 bx1 m1
    generalize q1.alloc (.cells #[.int .i64 X1, .int .i64 Y1, .slice a1 P1.length l1] 28) = V1 at sP sQ sA s1 rP rQ r1 bw ⊢
    have zQ0 := sQ.cell 0 _ rfl
    have zQ1 := sQ.cell 1 _ rfl
    have zQ2 := sQ.cell 2 _ rfl
    have zA0 := sA.cell 0 _ rfl
    have zA1 := sA.cell 1 _ rfl
    have zA2 := sA.cell 2 _ rfl
    go_upto_region 5 with (first | (go_at_call 16; refine (c2 _ _ ⟨_, rfl, rQ⟩).mono ?_; rintro e q2 ⟨v2, rfl, ⟨vp2, rfl, rr2⟩, bb2⟩; obtain ⟨a2, l2, rfl⟩ := rd_slice rr2) | fail)
    have bx2 := box_below q2 (.cells #[.int .i64 X2, .int .i64 Y2, .slice a2 P2.length l2] 28)
    have s2 := stands_new q2 #[.int .i64 X2, .int .i64 Y2, .slice a2 P2.length l2] 28
    have m2 := below_trans bb2 bx2
    have r2 : Rd .u8 _ (.slice a2 P2.length l2) P2 := rr2.below bx2
    have sP := sP.below m2
    have rP := rP.below m2
    have sQ := sQ.below m2
    have rQ := rQ.below m2
    have sA := sA.below m2
    have s1 := s1.below m2
    have r1 := r1.below m2
    have bw := below_trans bw m2
    clear zQ0 zQ1 zQ2 zA0 zA1 zA2 rr2 bb2 bx2 m2
    generalize q2.alloc (.cells #[.int .i64 X2, .int .i64 Y2, .slice a2 P2.length l2] 28) = V2 at sP sQ sA s1 s2 rP rQ r1 r2 bw ⊢
    have zP0 := sP.cell 0 _ rfl
    have zP1 := sP.cell 1 _ rfl
    have zP2 := sP.cell 2 _ rfl
    have z20 := s2.cell 0 _ rfl
    have z21 := s2.cell 1 _ rfl
    have z22 := s2.cell 2 _ rfl
    have zA0 := sA.cell 0 _ rfl
    have zA1 := sA.cell 1 _ rfl
    have zA2 := sA.cell 2 _ rfl
    go_upto_region 6 with (first | (go_at_call 24; refine (c3 _ _ _ ⟨_, rfl, rP⟩ ⟨_, rfl, r2⟩).mono ?_; rintro e q3 ⟨v3, rfl, ⟨vp3, rfl, rr3⟩, bb3⟩; obtain ⟨a3, l3, rfl⟩ := rd_slice rr3) | fail)
    have bx3 := box_below q3 (.cells #[.int .i64 X1, .int .i64 Y1, .slice a3 P1.length l3] 28)
    have s3 := stands_new q3 #[.int .i64 X1, .int .i64 Y1, .slice a3 P1.length l3] 28
    have m3 := below_trans bb3 bx3
    have r3 : Rd .u8 _ (.slice a3 P1.length l3) P1 := rr3.below bx3
    have sP := sP.below m3
    have rP := rP.below m3
    have sQ := sQ.below m3
    have rQ := rQ.below m3
    have sA := sA.below m3
    have s1 := s1.below m3
    have r1 := r1.below m3
    have s2 := s2.below m3
    have r2 := r2.below m3
    have bw := below_trans bw m3
    clear zP0 zP1 zP2 z20 z21 z22 zA0 zA1 zA2 rr3 bb3 bx3 m3
    generalize q3.alloc (.cells #[.int .i64 X1, .int .i64 Y1, .slice a3 P1.length l3] 28) = V3 at sP sQ sA s1 s2 s3 rP rQ r1 r2 r3 bw ⊢
    go_upto_region 8 with fail
    have CS1 := hid (fun W9 (g : Below V3.heap.size V3 W9) => (w_rsame22 (.agg #[.int .i64 X1, .int .i64 Y1, .slice a1 P1.length l1]) (.agg #[.int .i64 X1, .int .i64 Y1, .slice a3 P1.length l3]) (X1, Y1, P1) (X1, Y1, P1) W9 ⟨_, rfl, r1.below g⟩ ⟨_, rfl, r3.below g⟩ g1.1 g1.1).mono (R' := fun e w' => e = .returned (.bool true) ∧ Below W9.heap.size W9 w') (fun e w' h => by rw [decide_eq_true rfl] at h; exact h))
    have cl1 := fun W9 (g : Below V3.heap.size V3 W9) => w_plight22 (.agg #[.int .i64 X1, .int .i64 Y1, .slice a1 P1.length l1]) (X1, Y1, P1) W9 ⟨_, rfl, r1.below g⟩ g1
    have cl2 := fun W9 (g : Below V3.heap.size V3 W9) => w_plight22 (.agg #[.int .i64 X, .int .i64 Y, .slice pa P.length pq]) (X, Y, P) W9 ⟨_, rfl, rP.below g⟩ g0
    obtain ⟨LA, hLA⟩ : ∃ n : Int, (lgF P1 : Int) = n := ⟨_, rfl⟩
    obtain ⟨LP, hLP⟩ : ∃ n : Int, (lgF P : Int) = n := ⟨_, rfl⟩
    simp only [hLA] at cl1
    simp only [hLP] at cl2
    have dl : decide (LA < LP) = false := decide_eq_false (by omega)
    have CL1 := hid cl1
    have CL2 := hid cl2
    clear cl1 cl2 hlg hLA hLP
    have HS : Hid (∀ W, Below V3.heap.size V3 W → (W.cell? ⟨w.heap.size, 0, none⟩ = some (.int .i64 X) ∧ W.cell? ⟨w.heap.size, 1, none⟩ = some (.int .i64 Y) ∧ W.cell? ⟨w.heap.size, 2, none⟩ = some (.slice pa P.length pq) ∧ W.cell? ⟨q1.heap.size, 0, none⟩ = some (.int .i64 X1) ∧ W.cell? ⟨q1.heap.size, 1, none⟩ = some (.int .i64 Y1) ∧ W.cell? ⟨q1.heap.size, 2, none⟩ = some (.slice a1 P1.length l1) ∧ W.cell? ⟨q3.heap.size, 0, none⟩ = some (.int .i64 X1) ∧ W.cell? ⟨q3.heap.size, 1, none⟩ = some (.int .i64 Y1) ∧ W.cell? ⟨q3.heap.size, 2, none⟩ = some (.slice a3 P1.length l3))) := fun W g => ⟨(sP.below g).cell 0 _ rfl, (sP.below g).cell 1 _ rfl, (sP.below g).cell 2 _ rfl, (s1.below g).cell 0 _ rfl, (s1.below g).cell 1 _ rfl, (s1.below g).cell 2 _ rfl, (s3.below g).cell 0 _ rfl, (s3.below g).cell 1 _ rfl, (s3.below g).cell 2 _ rfl⟩
    refine wp_region_held_drew (S := fun W => W.cell? ⟨w.heap.size, 0, none⟩ = some (.int .i64 X) ∧ W.cell? ⟨w.heap.size, 1, none⟩ = some (.int .i64 Y) ∧ W.cell? ⟨w.heap.size, 2, none⟩ = some (.slice pa P.length pq) ∧ W.cell? ⟨q1.heap.size, 0, none⟩ = some (.int .i64 X1) ∧ W.cell? ⟨q1.heap.size, 1, none⟩ = some (.int .i64 Y1) ∧ W.cell? ⟨q1.heap.size, 2, none⟩ = some (.slice a1 P1.length l1) ∧ W.cell? ⟨q3.heap.size, 0, none⟩ = some (.int .i64 X1) ∧ W.cell? ⟨q3.heap.size, 1, none⟩ = some (.int .i64 Y1) ∧ W.cell? ⟨q3.heap.size, 2, none⟩ = some (.slice a3 P1.length l3)) (by kernel_rfl) (HS.out _ (bd0 _)) (fun hHeld => ?_)
    refine wpAnyH_take (i := 0) (v := ?v1) rfl (by kernel_rfl) (by kernel_rfl) (by kernel_rfl) (fun _ _ _ h => h) (Or.inl ⟨by kernel_rfl, ?h1⟩) hHeld ?r1
    case h1 => intro W hSw; (try dsimp only at hSw); obtain ⟨t0, t1, t2, t3, t4, t5, t6, t7, t8⟩ := hSw; go_simp; try with_reducible rfl
    simp only [Act.put, List.setIfInBounds_toArray, List.set_cons_zero, List.set_cons_succ]
    refine wpAnyH_take (i := 1) (v := ?v2) rfl (by kernel_rfl) (by kernel_rfl) (by kernel_rfl) (fun _ _ _ h => h) (Or.inl ⟨by kernel_rfl, ?h2⟩) hHeld ?r2
    case h2 => intro W hSw; (try dsimp only at hSw); obtain ⟨t0, t1, t2, t3, t4, t5, t6, t7, t8⟩ := hSw; go_simp; try with_reducible rfl
    simp only [Act.put, List.setIfInBounds_toArray, List.set_cons_zero, List.set_cons_succ]
    refine wpAnyH_take (i := 2) (v := ?v3) rfl (by kernel_rfl) (by kernel_rfl) (by kernel_rfl) (fun _ _ _ h => h) (Or.inl ⟨by kernel_rfl, ?h3⟩) hHeld ?r3
    case h3 => intro W hSw; (try dsimp only at hSw); obtain ⟨t0, t1, t2, t3, t4, t5, t6, t7, t8⟩ := hSw; go_simp; try with_reducible rfl
    simp only [Act.put, List.setIfInBounds_toArray, List.set_cons_zero, List.set_cons_succ]
    refine wpAnyH_take (i := 3) (v := ?v4) rfl (by kernel_rfl) (by kernel_rfl) (by kernel_rfl) (fun _ _ _ h => h) (Or.inl ⟨by kernel_rfl, ?h4⟩) hHeld ?r4
    case h4 => intro W hSw; (try dsimp only at hSw); obtain ⟨t0, t1, t2, t3, t4, t5, t6, t7, t8⟩ := hSw; go_simp; try with_reducible rfl
    simp only [Act.put, List.setIfInBounds_toArray, List.set_cons_zero, List.set_cons_succ]
    refine wpAnyH_take (i := 4) (v := ?v5) rfl (by kernel_rfl) (by kernel_rfl) (by kernel_rfl) (fun _ _ _ h => h) (Or.inl ⟨by kernel_rfl, ?h5⟩) hHeld ?r5
    case h5 => intro W hSw; (try dsimp only at hSw); obtain ⟨t0, t1, t2, t3, t4, t5, t6, t7, t8⟩ := hSw; go_simp; try with_reducible rfl
    simp only [Act.put, List.setIfInBounds_toArray, List.set_cons_zero, List.set_cons_succ]
    refine wpAnyH_take (i := 5) (v := ?v6) rfl (by kernel_rfl) (by kernel_rfl) (by kernel_rfl) (fun _ _ _ h => h) (Or.inl ⟨by kernel_rfl, ?h6⟩) hHeld ?r6
    case h6 => intro W hSw; (try dsimp only at hSw); obtain ⟨t0, t1, t2, t3, t4, t5, t6, t7, t8⟩ := hSw; go_simp; try with_reducible rfl
    simp only [Act.put, List.setIfInBounds_toArray, List.set_cons_zero, List.set_cons_succ]
    refine wpAnyH_take (i := 6) (v := ?v7) rfl (by kernel_rfl) (by kernel_rfl) (by kernel_rfl) (fun _ _ _ h => h) (Or.inl ⟨by kernel_rfl, ?h7⟩) hHeld ?r7
    case h7 => intro W hSw; (try dsimp only at hSw); obtain ⟨t0, t1, t2, t3, t4, t5, t6, t7, t8⟩ := hSw; go_simp; try with_reducible rfl
    simp only [Act.put, List.setIfInBounds_toArray, List.set_cons_zero, List.set_cons_succ]
    refine wpAnyH_take (i := 7) (v := ?v8) rfl (by kernel_rfl) (by kernel_rfl) (by kernel_rfl) (fun _ _ _ h => h) (Or.inl ⟨by kernel_rfl, ?h8⟩) hHeld ?r8
    case h8 => intro W hSw; (try dsimp only at hSw); obtain ⟨t0, t1, t2, t3, t4, t5, t6, t7, t8⟩ := hSw; go_simp; try with_reducible rfl
    simp only [Act.put, List.setIfInBounds_toArray, List.set_cons_zero, List.set_cons_succ]
    refine wpAnyH_take (i := 8) (v := ?v9) rfl (by kernel_rfl) (by kernel_rfl) (by kernel_rfl) (fun _ _ _ h => h) (Or.inl ⟨by kernel_rfl, ?h9⟩) hHeld ?r9
    case h9 => intro W hSw; (try dsimp only at hSw); obtain ⟨t0, t1, t2, t3, t4, t5, t6, t7, t8⟩ := hSw; go_simp; try with_reducible rfl
    simp only [Act.put, List.setIfInBounds_toArray, List.set_cons_zero, List.set_cons_succ]
    refine wpAnyH_ready (rs := [9]) (by kernel_rfl) (by simp) ?_
    refine AllReadyH.cons rfl (fun K hK => ?_) AllReadyH.nil
    go_simp
    go_wp2_with (first | (go_at_call 14; refine (CS1.out _ (bd0 V3)).mono ?_; rintro e qs1 ⟨rfl, bb⟩; have RS1 : Hid (Below V3.heap.size V3 qs1) := below_trans (bd0 V3) bb))
    refine hK.out _ _ (HS.out _ RS1.out) (fun hHeld => ?_)
    clear hK K
    (try simp only [Act.put, List.setIfInBounds_toArray, List.set_cons_zero, List.set_cons_succ])
    refine wpAnyH_take (i := 10) (v := ?v10) rfl (by kernel_rfl) (by kernel_rfl) (by kernel_rfl) (fun _ _ _ h => h) (Or.inl ⟨by kernel_rfl, ?h10⟩) hHeld ?r10
    case h10 => intro W hSw; (try dsimp only at hSw); obtain ⟨t0, t1, t2, t3, t4, t5, t6, t7, t8⟩ := hSw; go_simp; try with_reducible rfl
    simp only [Act.put, List.setIfInBounds_toArray, List.set_cons_zero, List.set_cons_succ]
    refine wpAnyH_take (i := 11) (v := ?v11) rfl (by kernel_rfl) (by kernel_rfl) (by kernel_rfl) (fun _ _ _ h => h) (Or.inl ⟨by kernel_rfl, ?h11⟩) hHeld ?r11
    case h11 => intro W hSw; (try dsimp only at hSw); obtain ⟨t0, t1, t2, t3, t4, t5, t6, t7, t8⟩ := hSw; go_simp; try with_reducible rfl
    simp only [Act.put, List.setIfInBounds_toArray, List.set_cons_zero, List.set_cons_succ]
    refine wpAnyH_take (i := 12) (v := ?v12) rfl (by kernel_rfl) (by kernel_rfl) (by kernel_rfl) (fun _ _ _ h => h) (Or.inl ⟨by kernel_rfl, ?h12⟩) hHeld ?r12
    case h12 => intro W hSw; (try dsimp only at hSw); obtain ⟨t0, t1, t2, t3, t4, t5, t6, t7, t8⟩ := hSw; go_simp; try with_reducible rfl
    simp only [Act.put, List.setIfInBounds_toArray, List.set_cons_zero, List.set_cons_succ]
    refine wpAnyH_take (i := 13) (v := ?v13) rfl (by kernel_rfl) (by kernel_rfl) (by kernel_rfl) (fun _ _ _ h => h) (Or.inl ⟨by kernel_rfl, ?h13⟩) hHeld ?r13
    case h13 => intro W hSw; (try dsimp only at hSw); obtain ⟨t0, t1, t2, t3, t4, t5, t6, t7, t8⟩ := hSw; go_simp; try with_reducible rfl
    simp only [Act.put, List.setIfInBounds_toArray, List.set_cons_zero, List.set_cons_succ]
    refine wpAnyH_take (i := 15) (v := ?v14) rfl (by kernel_rfl) (by kernel_rfl) (by kernel_rfl) (fun _ _ _ h => h) (Or.inl ⟨by kernel_rfl, ?h14⟩) hHeld ?r14
    case h14 => intro W hSw; (try dsimp only at hSw); obtain ⟨t0, t1, t2, t3, t4, t5, t6, t7, t8⟩ := hSw; go_simp; try with_reducible rfl
    simp only [Act.put, List.setIfInBounds_toArray, List.set_cons_zero, List.set_cons_succ]
    refine wpAnyH_ready (rs := [14]) (by kernel_rfl) (by simp) ?_
    refine AllReadyH.cons rfl (fun K hK => ?_) AllReadyH.nil
    go_simp
    go_wp2_with (first | (go_at_call 22; refine (CL1.out _ RS1.out).mono ?_; rintro e qs2 ⟨rfl, bb⟩; have RS2 : Hid (Below V3.heap.size V3 qs2) := below_trans RS1.out bb))
    refine hK.out _ _ (HS.out _ RS2.out) (fun hHeld => ?_)
    clear hK K
    (try simp only [Act.put, List.setIfInBounds_toArray, List.set_cons_zero, List.set_cons_succ])
    refine wpAnyH_ready (rs := [16]) (by kernel_rfl) (by simp) ?_
    refine AllReadyH.cons rfl (fun K hK => ?_) AllReadyH.nil
    go_simp
    go_wp2_with (first | (go_at_call 22; refine (CL2.out _ RS2.out).mono ?_; rintro e qs3 ⟨rfl, bb⟩; have RS3 : Hid (Below V3.heap.size V3 qs3) := below_trans RS2.out bb))
    refine hK.out _ _ (HS.out _ RS3.out) (fun hHeld => ?_)
    clear hK K
    (try simp only [Act.put, List.setIfInBounds_toArray, List.set_cons_zero, List.set_cons_succ])
    refine wpAnyH_take (i := 17) (v := ?v15) rfl (by kernel_rfl) (by kernel_rfl) (by kernel_rfl) (fun _ _ _ h => h) (Or.inl ⟨by kernel_rfl, ?h15⟩) hHeld ?r15
    case h15 => intro W hSw; (try dsimp only at hSw); obtain ⟨t0, t1, t2, t3, t4, t5, t6, t7, t8⟩ := hSw; go_simp; try with_reducible rfl
    simp only [Act.put, List.setIfInBounds_toArray, List.set_cons_zero, List.set_cons_succ]
    refine wpAnyH_take (i := 18) (v := ?v16) rfl (by kernel_rfl) (by kernel_rfl) (by kernel_rfl) (fun _ _ _ h => h) (Or.inl ⟨by kernel_rfl, ?h16⟩) hHeld ?r16
    case h16 => intro W hSw; (try dsimp only at hSw); obtain ⟨t0, t1, t2, t3, t4, t5, t6, t7, t8⟩ := hSw; go_simp; try with_reducible rfl
    simp only [Act.put, List.setIfInBounds_toArray, List.set_cons_zero, List.set_cons_succ]
    refine wpAnyH_done (by kernel_rfl) ?_ _
    have RL := RS3.out
    clear HS CS1 CL1 CL2 dl
    have sP := sP.below RL
    have rP := rP.below RL
    have sQ := sQ.below RL
    have rQ := rQ.below RL
    have sA := sA.below RL
    have s1 := s1.below RL
    have r1 := r1.below RL
    have s2 := s2.below RL
    have r2 := r2.below RL
    have s3 := s3.below RL
    have r3 := r3.below RL
    have bw := below_trans bw RL
    clear RL
    have z10 := s1.cell 0 _ rfl
    have z11 := s1.cell 1 _ rfl
    have z12 := s1.cell 2 _ rfl
    have zQ0 := sQ.cell 0 _ rfl
    have zQ1 := sQ.cell 1 _ rfl
    have zQ2 := sQ.cell 2 _ rfl
    have zA0 := sA.cell 0 _ rfl
    have zA1 := sA.cell 1 _ rfl
    have zA2 := sA.cell 2 _ rfl
    go_upto_region 11 with (first | (go_at_call 24; refine (c4 _ _ _ ⟨_, rfl, r1⟩ ⟨_, rfl, rQ⟩).mono ?_; rintro e q4 ⟨v4, rfl, ⟨vp4, rfl, rr4⟩, bb4⟩; obtain ⟨a4, l4, rfl⟩ := rd_slice rr4) | fail)
    have bx4 := box_below q4 (.cells #[.int .i64 X1, .int .i64 Y1, .slice a4 P1.length l4] 28)
    have s4 := stands_new q4 #[.int .i64 X1, .int .i64 Y1, .slice a4 P1.length l4] 28
    have m4 := below_trans bb4 bx4
    have r4 : Rd .u8 _ (.slice a4 P1.length l4) P1 := rr4.below bx4
    have sP := sP.below m4
    have rP := rP.below m4
    have sQ := sQ.below m4
    have rQ := rQ.below m4
    have sA := sA.below m4
    have s1 := s1.below m4
    have r1 := r1.below m4
    have s2 := s2.below m4
    have r2 := r2.below m4
    have s3 := s3.below m4
    have r3 := r3.below m4
    have bw := below_trans bw m4
    clear z10 z11 z12 zQ0 zQ1 zQ2 zA0 zA1 zA2 rr4 bb4 bx4 m4
    generalize q4.alloc (.cells #[.int .i64 X1, .int .i64 Y1, .slice a4 P1.length l4] 28) = V4 at sP sQ sA s1 s2 s3 s4 rP rQ r1 r2 r3 r4 bw ⊢
    have z40 := s4.cell 0 _ rfl
    have z41 := s4.cell 1 _ rfl
    have z42 := s4.cell 2 _ rfl
    have z10 := s1.cell 0 _ rfl
    have z11 := s1.cell 1 _ rfl
    have z12 := s1.cell 2 _ rfl
    have CS2 := hid (fun W9 (g : Below V4.heap.size V4 W9) => (w_rsame22 (.agg #[.int .i64 X1, .int .i64 Y1, .slice a4 P1.length l4]) (.agg #[.int .i64 X1, .int .i64 Y1, .slice a1 P1.length l1]) (X1, Y1, P1) (X1, Y1, P1) W9 ⟨_, rfl, r4.below g⟩ ⟨_, rfl, r1.below g⟩ g1.1 g1.1).mono (R' := fun e w' => e = .returned (.bool true) ∧ Below W9.heap.size W9 w') (fun e w' h => by rw [decide_eq_true rfl] at h; exact h))
    go_wp2_with (go_at_call 14; refine (CS2.out _ (Below.refl _ V4)).mono ?_; rintro e qs5 ⟨rfl, bs5⟩)
    go_ret
    exact ⟨ret_b (by simp), below_trans bw bs5⟩

end Go.Proofs.Ythihkfimledccaa
