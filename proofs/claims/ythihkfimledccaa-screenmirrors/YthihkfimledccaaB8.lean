/-
  Texts of one proof, laid one behind the other: Stn Sdn.
-/
import Derived.Test.YthihkfimledccaaB7
namespace Go.Proofs.Ythihkfimledccaa
open Go.ChangeShapes Go.WideShapes Go.ChangeAt Go.RowKit
set_option linter.unusedVariables false
set_option linter.unusedSimpArgs false

/-
  The law ScreenTurns.
-/
/-- a box that holds a picture of any sides whose points are a row of the call's own -/
def BoxI (base : Nat) (w : World) (B : Nat) (W H : Int) (vZ : Value) (ys : List Int) : Prop :=
  Stands w B #[.int .i64 W, .int .i64 H, vZ] 28 ∧ Own8 base w vZ ys ∧ base ≤ B ∧ ∀ g, vZ.ownBlock = some g → g ≠ B

set_option maxHeartbeats 8000000 in
set_option maxRecDepth 100000 in
theorem w_screenTurns (X Y : Int) (P : List Int) (vP : Value) (q : Int) (w : World) (r0 : Rd .u8 w vP P) (g0 : gPc (X, Y, P)) (bq : -9223372036854775808 ≤ q ∧ q < 9223372036854775808) :
    Calls Try.prog 4 #[.agg #[.int .i64 X, .int .i64 Y, vP], .int .i64 q] w fun e w' => e = .returned (.bool true) ∧ Below w.heap.size w w' := by
  have bw := box_below w (.cells #[.int .i64 X, .int .i64 Y, vP] 28)
  have s0 := stands_new w #[.int .i64 X, .int .i64 Y, vP] 28
  obtain ⟨pa, pq, rfl⟩ := rd_slice r0
  have hz : P.length ≤ 140737488351232 := g0.2.1
  have gT := tnI_g g0 q 1
  have gM := miI_g g0 1
  have c1 := fun v w h => w_pturn22 v (X, Y, P) q w h g0 bq
  have c2 := fun v w h => w_rturn22 (X, Y, P) v q w h hz bq.1 bq.2
  have c3 := fun v w h => w_pmirror22 v (X, Y, P) w h g0
  have c4 := fun v w h => w_rmirror22 (X, Y, P) v w h hz
  obtain ⟨⟨⟨X1, Y1, P1⟩, E1⟩, hT⟩ : ∃ x, tnI (X, Y, P) q 1 = x := ⟨_, rfl⟩
  obtain ⟨⟨⟨X2, Y2, P2⟩, E2⟩, hM⟩ : ∃ x, miI (X, Y, P) 1 = x := ⟨_, rfl⟩
  rw [hT] at gT
  rw [hM] at gM
  simp only [hT] at c1 c2
  simp only [hM] at c3 c4
  simp only at gT gM
  clear hT hM
  go_enter Try.func4, Try.ntmps4
  go_upto_region 1 with fail
  generalize w.alloc (.cells #[.int .i64 X, .int .i64 Y, .slice pa P.length pq] 28) = W0 at bw s0 ⊢
  go_upto_region 3 with (first | (go_at_call 9; refine (w_alive22 _).mono ?_; rintro e q1 ⟨rfl, b1⟩) | fail)
  have bw1 := below_trans bw b1
  have rP1 := r0.below bw1
  have sA := s0.below b1
  have z0 := sA.cell 0 _ rfl
  have z1 := sA.cell 1 _ rfl
  have z2 := sA.cell 2 _ rfl
  have cP := fun W9 (g : Below q1.heap.size q1 W9) => w_rcopy _ P W9 (rP1.below g) (by omega)
  clear s0 bw b1 r0
  go_cut [5] (fun S wx => ∃ (B : Nat) (vZ : Value), S = .pointer (some ⟨B, 0, none⟩) ∧ BoxI q1.heap.size wx B X Y vZ P ∧ Below q1.heap.size q1 wx)
  case first =>
    clear c1 c2 c3 c4 rP1 sA
    have HS : Hid (∀ W9, Below q1.heap.size q1 W9 → (W9.cell? ⟨w.heap.size, 0, none⟩ = some (.int .i64 X) ∧ W9.cell? ⟨w.heap.size, 1, none⟩ = some (.int .i64 Y) ∧ W9.cell? ⟨w.heap.size, 2, none⟩ = some (.slice pa P.length pq))) := fun W9 g => ⟨below_cell g z0, below_cell g z1, below_cell g z2⟩
    have CU := hid (fun W9 (g : Below q1.heap.size q1 W9) => cP W9 g)
    clear z0 z1 z2 cP
    go_region_held (fun W9 => W9.cell? ⟨w.heap.size, 0, none⟩ = some (.int .i64 X) ∧ W9.cell? ⟨w.heap.size, 1, none⟩ = some (.int .i64 Y) ∧ W9.cell? ⟨w.heap.size, 2, none⟩ = some (.slice pa P.length pq)) (first | with_reducible exact HS.out _ (bd0 _) | with_reducible exact HS.out _ (bd1 _ _) | with_reducible exact HS.out _ RU.out | with_reducible exact HS.out _ (RU.out.alloc RU.out.size _) | with_reducible exact HS.out _ (below_set3 RU.out _ _ _ _ (Nat.le_refl _))) (first
      | (go_at_call 15; refine (CU.out _ (by first | with_reducible exact bd0 _ | with_reducible exact bd1 _ _)).mono ?_; rintro e qU ⟨vU, rfl, oU, bU⟩; obtain ⟨uo, ucap, rfl⟩ := own_form oU; have RU : Hid (Below q1.heap.size q1 qU) := below_trans (by first | with_reducible exact bd0 _ | with_reducible exact bd1 _ _) bU; (try (have stU : Stands qU q1.heap.size #[.int .i64 0, .int .i64 0, .slice none 0 0] 28 := (stands_one0 q1 #[.int .i64 0, .int .i64 0, .slice none 0 0] 28).below bU)); (try (have y0 := stU.cell 0 _ rfl; have y1 := stU.cell 1 _ rfl; have y2 := stU.cell 2 _ rfl; have yf := stU.free)); have OU := hid oU; clear oU bU))
    all_goals go_wp2_with fail
    · go_meet
      case rel => exact ⟨qU.heap.size, _, rfl, ⟨stands_new qU _ _, own8_below (own8_base OU.out (by first | exact (bd0 q1).size | exact (bd1 q1 _).size)) (box_below qU _), RU.out.size, fun g hg => by have := (own8_ltb OU.out hg); omega⟩, below_trans RU.out (box_below qU _)⟩
    · obtain ⟨k1, k2⟩ := set3q stU (.int .i64 X) (.int .i64 Y) (.slice uo P.length ucap)
      have K1 := hid k1
      have K2 := hid (k2 _ (own8_kept (by decide)) (show Own8 _ qU (.slice uo P.length ucap) P from OU.out))
      have K4 := hid (below_set3 RU.out q1.heap.size (.int .i64 X) (.int .i64 Y) (.slice uo P.length ucap) (Nat.le_refl _))
      clear k1 k2
      go_meet
      case rel => exact ⟨q1.heap.size, _, rfl, ⟨K1.out, own8_base K2.out (bd1 q1 _).size, Nat.le_refl _, fun g hg => by have h1 := own8_basel OU.out hg; have h2 := size_al q1 (.cells #[.int .i64 0, .int .i64 0, .slice none 0 0] 28); have h3 : (q1.alloc (.cells #[.int .i64 0, .int .i64 0, .slice none 0 0] 28)).drew.heap.size = q1.heap.size + 1 := h2; omega⟩, K4.out⟩
  case rest =>
    obtain ⟨B, vZ, rfl, bp, bc⟩ := hcut
    obtain ⟨oa, oq, hoz⟩ := own_form bp.2.1
    subst hoz
    have rP3 := rP1.below bc
    have s0 := sA.below bc
    have s1 := bp.1
    have rO3 : Rd .u8 wc (.slice oa P.length oq) P := (Rd_own bp.2.1).1
    have y0 := s1.cell 0 _ rfl
    have y1 := s1.cell 1 _ rfl
    have y2 := s1.cell 2 _ rfl
    have bw3 := below_trans bw1 bc
    clear cP z0 z1 z2 sA bp rP1 bw1 bc
    go_upto_region 5 with (first | (go_at_call 16; refine (c1 _ _ ⟨_, rfl, rO3⟩).mono ?_; rintro e q4 ⟨v4, rfl, ⟨vT, rfl, rT⟩, b4⟩; obtain ⟨ta, tq, rfl⟩ := rd_slice rT) | fail)
    have bx4 := box_below q4 (.cells #[.int .i64 X1, .int .i64 Y1, .slice ta P1.length tq] 28)
    have s2 := stands_new q4 #[.int .i64 X1, .int .i64 Y1, .slice ta P1.length tq] 28
    have m4 := below_trans b4 bx4
    have rT4 : Rd .u8 _ (.slice ta P1.length tq) P1 := rT.below bx4
    have rP4 := rP3.below m4
    have rO4 := rO3.below m4
    have s0 := s0.below m4
    have s1 := s1.below m4
    have bw4 := below_trans bw3 m4
    clear y0 y1 y2 rT b4 bx4 m4 rP3 rO3 bw3
    generalize q4.alloc (.cells #[.int .i64 X1, .int .i64 Y1, .slice ta P1.length tq] 28) = V4 at s2 rT4 rP4 rO4 s0 s1 bw4 ⊢
    have z0 := s0.cell 0 _ rfl
    have z1 := s0.cell 1 _ rfl
    have z2 := s0.cell 2 _ rfl
    go_upto_region 6 with (first | (go_at_call 17; refine (c2 _ _ ⟨_, rfl, rP4⟩).mono ?_; rintro e q5 ⟨v5, rfl, ⟨vU, rfl, oU⟩, b5⟩; obtain ⟨ua, uq, rfl⟩ := own_form oU) | fail)
    have bx5 := box_below q5 (.cells #[.int .i64 X1, .int .i64 Y1, .slice ua P1.length uq] 28)
    have s3 := stands_new q5 #[.int .i64 X1, .int .i64 Y1, .slice ua P1.length uq] 28
    have m5 := below_trans b5 bx5
    have rU5 := ((Rd_own oU).1 : Rd .u8 q5 (.slice ua P1.length uq) P1).below bx5
    have rT5 := rT4.below m5
    have rP5 := rP4.below m5
    have rO5 := rO4.below m5
    have s0 := s0.below m5
    have s1 := s1.below m5
    have s2 := s2.below m5
    have bw5 := below_trans bw4 m5
    clear z0 z1 z2 oU b5 bx5 m5 rT4 rP4 rO4 bw4
    generalize q5.alloc (.cells #[.int .i64 X1, .int .i64 Y1, .slice ua P1.length uq] 28) = V5 at s3 rU5 rT5 rP5 rO5 s0 s1 s2 bw5 ⊢
    have z0 := s1.cell 0 _ rfl
    have z1 := s1.cell 1 _ rfl
    have z2 := s1.cell 2 _ rfl
    go_upto_region 7 with (first | (go_at_call 18; refine (c3 _ _ ⟨_, rfl, rO5⟩).mono ?_; rintro e q6 ⟨v6, rfl, ⟨vM, rfl, rM⟩, b6⟩; obtain ⟨ma, mq, rfl⟩ := rd_slice rM) | fail)
    have bx6 := box_below q6 (.cells #[.int .i64 X2, .int .i64 Y2, .slice ma P2.length mq] 28)
    have s4 := stands_new q6 #[.int .i64 X2, .int .i64 Y2, .slice ma P2.length mq] 28
    have m6 := below_trans b6 bx6
    have rM6 : Rd .u8 _ (.slice ma P2.length mq) P2 := rM.below bx6
    have rU6 := rU5.below m6
    have rT6 := rT5.below m6
    have rP6 := rP5.below m6
    have rO6 := rO5.below m6
    have s0 := s0.below m6
    have s1 := s1.below m6
    have s2 := s2.below m6
    have s3 := s3.below m6
    have bw6 := below_trans bw5 m6
    clear z0 z1 z2 rM b6 bx6 m6 rU5 rT5 rP5 rO5 bw5
    generalize q6.alloc (.cells #[.int .i64 X2, .int .i64 Y2, .slice ma P2.length mq] 28) = V6 at s4 rM6 rU6 rT6 rP6 rO6 s0 s1 s2 s3 bw6 ⊢
    have z0 := s0.cell 0 _ rfl
    have z1 := s0.cell 1 _ rfl
    have z2 := s0.cell 2 _ rfl
    go_upto_region 8 with (first | (go_at_call 19; refine (c4 _ _ ⟨_, rfl, rP6⟩).mono ?_; rintro e q7 ⟨v7, rfl, ⟨vN, rfl, oN⟩, b7⟩; obtain ⟨na, nq, rfl⟩ := own_form oN) | fail)
    have bx7 := box_below q7 (.cells #[.int .i64 X2, .int .i64 Y2, .slice na P2.length nq] 28)
    have s5 := stands_new q7 #[.int .i64 X2, .int .i64 Y2, .slice na P2.length nq] 28
    have m7 := below_trans b7 bx7
    have rN7 := ((Rd_own oN).1 : Rd .u8 q7 (.slice na P2.length nq) P2).below bx7
    have rM7 := rM6.below m7
    have rU7 := rU6.below m7
    have rT7 := rT6.below m7
    have rP7 := rP6.below m7
    have rO7 := rO6.below m7
    have s0 := s0.below m7
    have s1 := s1.below m7
    have s2 := s2.below m7
    have s3 := s3.below m7
    have s4 := s4.below m7
    have bw7 := below_trans bw6 m7
    clear z0 z1 z2 oN b7 bx7 m7 rM6 rU6 rT6 rP6 rO6 bw6 c1 c2 c3 c4
    generalize q7.alloc (.cells #[.int .i64 X2, .int .i64 Y2, .slice na P2.length nq] 28) = V7 at s5 rN7 rM7 rU7 rT7 rP7 rO7 s0 s1 s2 s3 s4 bw7 ⊢
    have HS : Hid (∀ W, Below V7.heap.size V7 W → (W.cell? ⟨w.heap.size, 0, none⟩ = some (.int .i64 X) ∧ W.cell? ⟨w.heap.size, 1, none⟩ = some (.int .i64 Y) ∧ W.cell? ⟨w.heap.size, 2, none⟩ = some (.slice pa P.length pq) ∧ W.cell? ⟨B, 0, none⟩ = some (.int .i64 X) ∧ W.cell? ⟨B, 1, none⟩ = some (.int .i64 Y) ∧ W.cell? ⟨B, 2, none⟩ = some (.slice oa P.length oq) ∧ W.cell? ⟨q4.heap.size, 0, none⟩ = some (.int .i64 X1) ∧ W.cell? ⟨q4.heap.size, 1, none⟩ = some (.int .i64 Y1) ∧ W.cell? ⟨q4.heap.size, 2, none⟩ = some (.slice ta P1.length tq) ∧ W.cell? ⟨q5.heap.size, 0, none⟩ = some (.int .i64 X1) ∧ W.cell? ⟨q5.heap.size, 1, none⟩ = some (.int .i64 Y1) ∧ W.cell? ⟨q5.heap.size, 2, none⟩ = some (.slice ua P1.length uq) ∧ W.cell? ⟨q6.heap.size, 0, none⟩ = some (.int .i64 X2) ∧ W.cell? ⟨q6.heap.size, 1, none⟩ = some (.int .i64 Y2) ∧ W.cell? ⟨q6.heap.size, 2, none⟩ = some (.slice ma P2.length mq) ∧ W.cell? ⟨q7.heap.size, 0, none⟩ = some (.int .i64 X2) ∧ W.cell? ⟨q7.heap.size, 1, none⟩ = some (.int .i64 Y2) ∧ W.cell? ⟨q7.heap.size, 2, none⟩ = some (.slice na P2.length nq))) := fun W g => ⟨(s0.below g).cell 0 _ rfl, (s0.below g).cell 1 _ rfl, (s0.below g).cell 2 _ rfl, (s1.below g).cell 0 _ rfl, (s1.below g).cell 1 _ rfl, (s1.below g).cell 2 _ rfl, (s2.below g).cell 0 _ rfl, (s2.below g).cell 1 _ rfl, (s2.below g).cell 2 _ rfl, (s3.below g).cell 0 _ rfl, (s3.below g).cell 1 _ rfl, (s3.below g).cell 2 _ rfl, (s4.below g).cell 0 _ rfl, (s4.below g).cell 1 _ rfl, (s4.below g).cell 2 _ rfl, (s5.below g).cell 0 _ rfl, (s5.below g).cell 1 _ rfl, (s5.below g).cell 2 _ rfl⟩
    have CS1 := hid (fun W9 (g : Below V7.heap.size V7 W9) => (w_rsame22 (.agg #[.int .i64 X1, .int .i64 Y1, .slice ta P1.length tq]) (.agg #[.int .i64 X1, .int .i64 Y1, .slice ua P1.length uq]) (X1, Y1, P1) (X1, Y1, P1) W9 ⟨_, rfl, rT7.below g⟩ ⟨_, rfl, rU7.below g⟩ gT.1 gT.1).mono (R' := fun e w' => e = .returned (.bool true) ∧ Below W9.heap.size W9 w') (fun e w' h => by rw [decide_eq_true rfl] at h; exact h))
    have CS2 := hid (fun W9 (g : Below V7.heap.size V7 W9) => (w_rsame22 (.agg #[.int .i64 X2, .int .i64 Y2, .slice ma P2.length mq]) (.agg #[.int .i64 X2, .int .i64 Y2, .slice na P2.length nq]) (X2, Y2, P2) (X2, Y2, P2) W9 ⟨_, rfl, rM7.below g⟩ ⟨_, rfl, rN7.below g⟩ gM.1 gM.1).mono (R' := fun e w' => e = .returned (.bool true) ∧ Below W9.heap.size W9 w') (fun e w' h => by rw [decide_eq_true rfl] at h; exact h))
    have CS3 := hid (fun W9 (g : Below V7.heap.size V7 W9) => (w_rsame22 (.agg #[.int .i64 X, .int .i64 Y, .slice oa P.length oq]) (.agg #[.int .i64 X, .int .i64 Y, .slice pa P.length pq]) (X, Y, P) (X, Y, P) W9 ⟨_, rfl, rO7.below g⟩ ⟨_, rfl, rP7.below g⟩ g0.1 g0.1).mono (R' := fun e w' => e = .returned (.bool true) ∧ Below W9.heap.size W9 w') (fun e w' h => by rw [decide_eq_true rfl] at h; exact h))
    obtain ⟨F, hF⟩ : ∃ F, fmI (X, Y, P) = F := ⟨_, rfl⟩
    have cf1 := fun W9 (g : Below V7.heap.size V7 W9) => w_pformed22 (.agg #[.int .i64 X, .int .i64 Y, .slice pa P.length pq]) (X, Y, P) W9 ⟨_, rfl, rP7.below g⟩ g0
    have cf2 := fun W9 (g : Below V7.heap.size V7 W9) => w_rformed22 X Y _ P W9 (rP7.below g) hz
    have cl1 := fun W9 (g : Below V7.heap.size V7 W9) => w_plight22 (.agg #[.int .i64 X, .int .i64 Y, .slice pa P.length pq]) (X, Y, P) W9 ⟨_, rfl, rP7.below g⟩ g0
    have cl2 := fun W9 (g : Below V7.heap.size V7 W9) => w_rlight22 (.agg #[.int .i64 X, .int .i64 Y, .slice pa P.length pq]) (X, Y, P) W9 ⟨_, rfl, rP7.below g⟩ hz
    simp only [hF] at cf1 cf2
    obtain ⟨L, hL⟩ : ∃ L, (lgF P : Int) = L := ⟨_, rfl⟩
    simp only [hL] at cl1 cl2
    have CF1 := hid cf1
    have CF2 := hid cf2
    have CL1 := hid cl1
    have CL2 := hid cl2
    clear cf1 cf2 cl1 cl2 hF hL s0 s1 s2 s3 s4 s5 rN7 rM7 rU7 rT7 rP7 rO7
    refine wp_region_held_drew (S := fun W => W.cell? ⟨w.heap.size, 0, none⟩ = some (.int .i64 X) ∧ W.cell? ⟨w.heap.size, 1, none⟩ = some (.int .i64 Y) ∧ W.cell? ⟨w.heap.size, 2, none⟩ = some (.slice pa P.length pq) ∧ W.cell? ⟨B, 0, none⟩ = some (.int .i64 X) ∧ W.cell? ⟨B, 1, none⟩ = some (.int .i64 Y) ∧ W.cell? ⟨B, 2, none⟩ = some (.slice oa P.length oq) ∧ W.cell? ⟨q4.heap.size, 0, none⟩ = some (.int .i64 X1) ∧ W.cell? ⟨q4.heap.size, 1, none⟩ = some (.int .i64 Y1) ∧ W.cell? ⟨q4.heap.size, 2, none⟩ = some (.slice ta P1.length tq) ∧ W.cell? ⟨q5.heap.size, 0, none⟩ = some (.int .i64 X1) ∧ W.cell? ⟨q5.heap.size, 1, none⟩ = some (.int .i64 Y1) ∧ W.cell? ⟨q5.heap.size, 2, none⟩ = some (.slice ua P1.length uq) ∧ W.cell? ⟨q6.heap.size, 0, none⟩ = some (.int .i64 X2) ∧ W.cell? ⟨q6.heap.size, 1, none⟩ = some (.int .i64 Y2) ∧ W.cell? ⟨q6.heap.size, 2, none⟩ = some (.slice ma P2.length mq) ∧ W.cell? ⟨q7.heap.size, 0, none⟩ = some (.int .i64 X2) ∧ W.cell? ⟨q7.heap.size, 1, none⟩ = some (.int .i64 Y2) ∧ W.cell? ⟨q7.heap.size, 2, none⟩ = some (.slice na P2.length nq)) (by kernel_rfl) (HS.out _ (bd0 _)) (fun hHeld => ?_)
    refine wpAnyH_take (i := 0) (v := ?v1) rfl (by kernel_rfl) (by kernel_rfl) (by kernel_rfl) (fun _ _ _ h => h) (Or.inl ⟨by kernel_rfl, ?h1⟩) hHeld ?r1
    case h1 => intro W hSw; (try dsimp only at hSw); obtain ⟨t0, t1, t2, t3, t4, t5, t6, t7, t8, t9, t10, t11, t12, t13, t14, t15, t16, t17⟩ := hSw; go_simp; try with_reducible rfl
    simp only [Act.put, List.setIfInBounds_toArray, List.set_cons_zero, List.set_cons_succ]
    refine wpAnyH_take (i := 1) (v := ?v2) rfl (by kernel_rfl) (by kernel_rfl) (by kernel_rfl) (fun _ _ _ h => h) (Or.inl ⟨by kernel_rfl, ?h2⟩) hHeld ?r2
    case h2 => intro W hSw; (try dsimp only at hSw); obtain ⟨t0, t1, t2, t3, t4, t5, t6, t7, t8, t9, t10, t11, t12, t13, t14, t15, t16, t17⟩ := hSw; go_simp; try with_reducible rfl
    simp only [Act.put, List.setIfInBounds_toArray, List.set_cons_zero, List.set_cons_succ]
    refine wpAnyH_ready (rs := [2]) (by kernel_rfl) (by simp) ?_
    refine AllReadyH.cons rfl (fun K hK => ?_) AllReadyH.nil
    go_simp
    go_wp2_with (first | (go_at_call 14; refine (CS1.out _ (bd0 V7)).mono ?_; rintro e qs1 ⟨rfl, bb⟩; have RS1 : Hid (Below V7.heap.size V7 qs1) := below_trans (bd0 V7) bb))
    refine hK.out _ _ (HS.out _ RS1.out) (fun hHeld => ?_)
    clear hK K
    (try simp only [Act.put, List.setIfInBounds_toArray, List.set_cons_zero, List.set_cons_succ])
    refine wpAnyH_take (i := 3) (v := ?v3) rfl (by kernel_rfl) (by kernel_rfl) (by kernel_rfl) (fun _ _ _ h => h) (Or.inl ⟨by kernel_rfl, ?h3⟩) hHeld ?r3
    case h3 => intro W hSw; (try dsimp only at hSw); obtain ⟨t0, t1, t2, t3, t4, t5, t6, t7, t8, t9, t10, t11, t12, t13, t14, t15, t16, t17⟩ := hSw; go_simp; try with_reducible rfl
    simp only [Act.put, List.setIfInBounds_toArray, List.set_cons_zero, List.set_cons_succ]
    refine wpAnyH_take (i := 4) (v := ?v4) rfl (by kernel_rfl) (by kernel_rfl) (by kernel_rfl) (fun _ _ _ h => h) (Or.inl ⟨by kernel_rfl, ?h4⟩) hHeld ?r4
    case h4 => intro W hSw; (try dsimp only at hSw); obtain ⟨t0, t1, t2, t3, t4, t5, t6, t7, t8, t9, t10, t11, t12, t13, t14, t15, t16, t17⟩ := hSw; go_simp; try with_reducible rfl
    simp only [Act.put, List.setIfInBounds_toArray, List.set_cons_zero, List.set_cons_succ]
    refine wpAnyH_take (i := 5) (v := ?v5) rfl (by kernel_rfl) (by kernel_rfl) (by kernel_rfl) (fun _ _ _ h => h) (Or.inl ⟨by kernel_rfl, ?h5⟩) hHeld ?r5
    case h5 => intro W hSw; (try dsimp only at hSw); obtain ⟨t0, t1, t2, t3, t4, t5, t6, t7, t8, t9, t10, t11, t12, t13, t14, t15, t16, t17⟩ := hSw; go_simp; try with_reducible rfl
    simp only [Act.put, List.setIfInBounds_toArray, List.set_cons_zero, List.set_cons_succ]
    refine wpAnyH_take (i := 6) (v := ?v6) rfl (by kernel_rfl) (by kernel_rfl) (by kernel_rfl) (fun _ _ _ h => h) (Or.inl ⟨by kernel_rfl, ?h6⟩) hHeld ?r6
    case h6 => intro W hSw; (try dsimp only at hSw); obtain ⟨t0, t1, t2, t3, t4, t5, t6, t7, t8, t9, t10, t11, t12, t13, t14, t15, t16, t17⟩ := hSw; go_simp; try with_reducible rfl
    simp only [Act.put, List.setIfInBounds_toArray, List.set_cons_zero, List.set_cons_succ]
    refine wpAnyH_take (i := 7) (v := ?v7) rfl (by kernel_rfl) (by kernel_rfl) (by kernel_rfl) (fun _ _ _ h => h) (Or.inl ⟨by kernel_rfl, ?h7⟩) hHeld ?r7
    case h7 => intro W hSw; (try dsimp only at hSw); obtain ⟨t0, t1, t2, t3, t4, t5, t6, t7, t8, t9, t10, t11, t12, t13, t14, t15, t16, t17⟩ := hSw; go_simp; try with_reducible rfl
    simp only [Act.put, List.setIfInBounds_toArray, List.set_cons_zero, List.set_cons_succ]
    refine wpAnyH_take (i := 8) (v := ?v8) rfl (by kernel_rfl) (by kernel_rfl) (by kernel_rfl) (fun _ _ _ h => h) (Or.inl ⟨by kernel_rfl, ?h8⟩) hHeld ?r8
    case h8 => intro W hSw; (try dsimp only at hSw); obtain ⟨t0, t1, t2, t3, t4, t5, t6, t7, t8, t9, t10, t11, t12, t13, t14, t15, t16, t17⟩ := hSw; go_simp; try with_reducible rfl
    simp only [Act.put, List.setIfInBounds_toArray, List.set_cons_zero, List.set_cons_succ]
    refine wpAnyH_take (i := 9) (v := ?v9) rfl (by kernel_rfl) (by kernel_rfl) (by kernel_rfl) (fun _ _ _ h => h) (Or.inl ⟨by kernel_rfl, ?h9⟩) hHeld ?r9
    case h9 => intro W hSw; (try dsimp only at hSw); obtain ⟨t0, t1, t2, t3, t4, t5, t6, t7, t8, t9, t10, t11, t12, t13, t14, t15, t16, t17⟩ := hSw; go_simp; try with_reducible rfl
    simp only [Act.put, List.setIfInBounds_toArray, List.set_cons_zero, List.set_cons_succ]
    refine wpAnyH_take (i := 10) (v := ?v10) rfl (by kernel_rfl) (by kernel_rfl) (by kernel_rfl) (fun _ _ _ h => h) (Or.inl ⟨by kernel_rfl, ?h10⟩) hHeld ?r10
    case h10 => intro W hSw; (try dsimp only at hSw); obtain ⟨t0, t1, t2, t3, t4, t5, t6, t7, t8, t9, t10, t11, t12, t13, t14, t15, t16, t17⟩ := hSw; go_simp; try with_reducible rfl
    simp only [Act.put, List.setIfInBounds_toArray, List.set_cons_zero, List.set_cons_succ]
    refine wpAnyH_ready (rs := [11]) (by kernel_rfl) (by simp) ?_
    refine AllReadyH.cons rfl (fun K hK => ?_) AllReadyH.nil
    go_simp
    go_wp2_with (first | (go_at_call 14; refine (CS2.out _ RS1.out).mono ?_; rintro e qs2 ⟨rfl, bb⟩; have RS2 : Hid (Below V7.heap.size V7 qs2) := below_trans RS1.out bb))
    refine hK.out _ _ (HS.out _ RS2.out) (fun hHeld => ?_)
    clear hK K
    (try simp only [Act.put, List.setIfInBounds_toArray, List.set_cons_zero, List.set_cons_succ])
    refine wpAnyH_take (i := 12) (v := ?v11) rfl (by kernel_rfl) (by kernel_rfl) (by kernel_rfl) (fun _ _ _ h => h) (Or.inl ⟨by kernel_rfl, ?h11⟩) hHeld ?r11
    case h11 => intro W hSw; (try dsimp only at hSw); obtain ⟨t0, t1, t2, t3, t4, t5, t6, t7, t8, t9, t10, t11, t12, t13, t14, t15, t16, t17⟩ := hSw; go_simp; try with_reducible rfl
    simp only [Act.put, List.setIfInBounds_toArray, List.set_cons_zero, List.set_cons_succ]
    refine wpAnyH_take (i := 13) (v := ?v12) rfl (by kernel_rfl) (by kernel_rfl) (by kernel_rfl) (fun _ _ _ h => h) (Or.inl ⟨by kernel_rfl, ?h12⟩) hHeld ?r12
    case h12 => intro W hSw; (try dsimp only at hSw); obtain ⟨t0, t1, t2, t3, t4, t5, t6, t7, t8, t9, t10, t11, t12, t13, t14, t15, t16, t17⟩ := hSw; go_simp; try with_reducible rfl
    simp only [Act.put, List.setIfInBounds_toArray, List.set_cons_zero, List.set_cons_succ]
    refine wpAnyH_take (i := 14) (v := ?v13) rfl (by kernel_rfl) (by kernel_rfl) (by kernel_rfl) (fun _ _ _ h => h) (Or.inl ⟨by kernel_rfl, ?h13⟩) hHeld ?r13
    case h13 => intro W hSw; (try dsimp only at hSw); obtain ⟨t0, t1, t2, t3, t4, t5, t6, t7, t8, t9, t10, t11, t12, t13, t14, t15, t16, t17⟩ := hSw; go_simp; try with_reducible rfl
    simp only [Act.put, List.setIfInBounds_toArray, List.set_cons_zero, List.set_cons_succ]
    refine wpAnyH_take (i := 15) (v := ?v14) rfl (by kernel_rfl) (by kernel_rfl) (by kernel_rfl) (fun _ _ _ h => h) (Or.inl ⟨by kernel_rfl, ?h14⟩) hHeld ?r14
    case h14 => intro W hSw; (try dsimp only at hSw); obtain ⟨t0, t1, t2, t3, t4, t5, t6, t7, t8, t9, t10, t11, t12, t13, t14, t15, t16, t17⟩ := hSw; go_simp; try with_reducible rfl
    simp only [Act.put, List.setIfInBounds_toArray, List.set_cons_zero, List.set_cons_succ]
    refine wpAnyH_take (i := 16) (v := ?v15) rfl (by kernel_rfl) (by kernel_rfl) (by kernel_rfl) (fun _ _ _ h => h) (Or.inl ⟨by kernel_rfl, ?h15⟩) hHeld ?r15
    case h15 => intro W hSw; (try dsimp only at hSw); obtain ⟨t0, t1, t2, t3, t4, t5, t6, t7, t8, t9, t10, t11, t12, t13, t14, t15, t16, t17⟩ := hSw; go_simp; try with_reducible rfl
    simp only [Act.put, List.setIfInBounds_toArray, List.set_cons_zero, List.set_cons_succ]
    refine wpAnyH_take (i := 17) (v := ?v16) rfl (by kernel_rfl) (by kernel_rfl) (by kernel_rfl) (fun _ _ _ h => h) (Or.inl ⟨by kernel_rfl, ?h16⟩) hHeld ?r16
    case h16 => intro W hSw; (try dsimp only at hSw); obtain ⟨t0, t1, t2, t3, t4, t5, t6, t7, t8, t9, t10, t11, t12, t13, t14, t15, t16, t17⟩ := hSw; go_simp; try with_reducible rfl
    simp only [Act.put, List.setIfInBounds_toArray, List.set_cons_zero, List.set_cons_succ]
    refine wpAnyH_take (i := 18) (v := ?v17) rfl (by kernel_rfl) (by kernel_rfl) (by kernel_rfl) (fun _ _ _ h => h) (Or.inl ⟨by kernel_rfl, ?h17⟩) hHeld ?r17
    case h17 => intro W hSw; (try dsimp only at hSw); obtain ⟨t0, t1, t2, t3, t4, t5, t6, t7, t8, t9, t10, t11, t12, t13, t14, t15, t16, t17⟩ := hSw; go_simp; try with_reducible rfl
    simp only [Act.put, List.setIfInBounds_toArray, List.set_cons_zero, List.set_cons_succ]
    refine wpAnyH_take (i := 19) (v := ?v18) rfl (by kernel_rfl) (by kernel_rfl) (by kernel_rfl) (fun _ _ _ h => h) (Or.inl ⟨by kernel_rfl, ?h18⟩) hHeld ?r18
    case h18 => intro W hSw; (try dsimp only at hSw); obtain ⟨t0, t1, t2, t3, t4, t5, t6, t7, t8, t9, t10, t11, t12, t13, t14, t15, t16, t17⟩ := hSw; go_simp; try with_reducible rfl
    simp only [Act.put, List.setIfInBounds_toArray, List.set_cons_zero, List.set_cons_succ]
    refine wpAnyH_take (i := 20) (v := ?v19) rfl (by kernel_rfl) (by kernel_rfl) (by kernel_rfl) (fun _ _ _ h => h) (Or.inl ⟨by kernel_rfl, ?h19⟩) hHeld ?r19
    case h19 => intro W hSw; (try dsimp only at hSw); obtain ⟨t0, t1, t2, t3, t4, t5, t6, t7, t8, t9, t10, t11, t12, t13, t14, t15, t16, t17⟩ := hSw; go_simp; try with_reducible rfl
    simp only [Act.put, List.setIfInBounds_toArray, List.set_cons_zero, List.set_cons_succ]
    refine wpAnyH_ready (rs := [21]) (by kernel_rfl) (by simp) ?_
    refine AllReadyH.cons rfl (fun K hK => ?_) AllReadyH.nil
    go_simp
    go_wp2_with (first | (go_at_call 14; refine (CS3.out _ RS2.out).mono ?_; rintro e qs3 ⟨rfl, bb⟩; have RS3 : Hid (Below V7.heap.size V7 qs3) := below_trans RS2.out bb))
    refine hK.out _ _ (HS.out _ RS3.out) (fun hHeld => ?_)
    clear hK K
    (try simp only [Act.put, List.setIfInBounds_toArray, List.set_cons_zero, List.set_cons_succ])
    refine wpAnyH_take (i := 22) (v := ?v20) rfl (by kernel_rfl) (by kernel_rfl) (by kernel_rfl) (fun _ _ _ h => h) (Or.inl ⟨by kernel_rfl, ?h20⟩) hHeld ?r20
    case h20 => intro W hSw; (try dsimp only at hSw); obtain ⟨t0, t1, t2, t3, t4, t5, t6, t7, t8, t9, t10, t11, t12, t13, t14, t15, t16, t17⟩ := hSw; go_simp; try with_reducible rfl
    simp only [Act.put, List.setIfInBounds_toArray, List.set_cons_zero, List.set_cons_succ]
    refine wpAnyH_take (i := 23) (v := ?v21) rfl (by kernel_rfl) (by kernel_rfl) (by kernel_rfl) (fun _ _ _ h => h) (Or.inl ⟨by kernel_rfl, ?h21⟩) hHeld ?r21
    case h21 => intro W hSw; (try dsimp only at hSw); obtain ⟨t0, t1, t2, t3, t4, t5, t6, t7, t8, t9, t10, t11, t12, t13, t14, t15, t16, t17⟩ := hSw; go_simp; try with_reducible rfl
    simp only [Act.put, List.setIfInBounds_toArray, List.set_cons_zero, List.set_cons_succ]
    refine wpAnyH_take (i := 24) (v := ?v22) rfl (by kernel_rfl) (by kernel_rfl) (by kernel_rfl) (fun _ _ _ h => h) (Or.inl ⟨by kernel_rfl, ?h22⟩) hHeld ?r22
    case h22 => intro W hSw; (try dsimp only at hSw); obtain ⟨t0, t1, t2, t3, t4, t5, t6, t7, t8, t9, t10, t11, t12, t13, t14, t15, t16, t17⟩ := hSw; go_simp; try with_reducible rfl
    simp only [Act.put, List.setIfInBounds_toArray, List.set_cons_zero, List.set_cons_succ]
    refine wpAnyH_take (i := 26) (v := ?v23) rfl (by kernel_rfl) (by kernel_rfl) (by kernel_rfl) (fun _ _ _ h => h) (Or.inl ⟨by kernel_rfl, ?h23⟩) hHeld ?r23
    case h23 => intro W hSw; (try dsimp only at hSw); obtain ⟨t0, t1, t2, t3, t4, t5, t6, t7, t8, t9, t10, t11, t12, t13, t14, t15, t16, t17⟩ := hSw; go_simp; try with_reducible rfl
    simp only [Act.put, List.setIfInBounds_toArray, List.set_cons_zero, List.set_cons_succ]
    refine wpAnyH_ready (rs := [25]) (by kernel_rfl) (by simp) ?_
    refine AllReadyH.cons rfl (fun K hK => ?_) AllReadyH.nil
    go_simp
    go_wp2_with (first | (go_at_call 20; refine (CF1.out _ RS3.out).mono ?_; rintro e qs4 ⟨rfl, bb⟩; have RS4 : Hid (Below V7.heap.size V7 qs4) := below_trans RS3.out bb))
    refine hK.out _ _ (HS.out _ RS4.out) (fun hHeld => ?_)
    clear hK K
    (try simp only [Act.put, List.setIfInBounds_toArray, List.set_cons_zero, List.set_cons_succ])
    refine wpAnyH_ready (rs := [27]) (by kernel_rfl) (by simp) ?_
    refine AllReadyH.cons rfl (fun K hK => ?_) AllReadyH.nil
    go_simp
    go_wp2_with (first | (go_at_call 21; refine (CF2.out _ RS4.out).mono ?_; rintro e qs5 ⟨rfl, bb⟩; have RS5 : Hid (Below V7.heap.size V7 qs5) := below_trans RS4.out bb))
    refine hK.out _ _ (HS.out _ RS5.out) (fun hHeld => ?_)
    clear hK K
    (try simp only [Act.put, List.setIfInBounds_toArray, List.set_cons_zero, List.set_cons_succ])
    refine wpAnyH_take (i := 28) (v := ?v24) rfl (by kernel_rfl) (by kernel_rfl) (by kernel_rfl) (fun _ _ _ h => h) (Or.inl ⟨by kernel_rfl, ?h24⟩) hHeld ?r24
    case h24 => intro W hSw; (try dsimp only at hSw); obtain ⟨t0, t1, t2, t3, t4, t5, t6, t7, t8, t9, t10, t11, t12, t13, t14, t15, t16, t17⟩ := hSw; go_simp; try with_reducible rfl
    simp only [Act.put, List.setIfInBounds_toArray, List.set_cons_zero, List.set_cons_succ]
    refine wpAnyH_take (i := 29) (v := ?v25) rfl (by kernel_rfl) (by kernel_rfl) (by kernel_rfl) (fun _ _ _ h => h) (Or.inl ⟨by kernel_rfl, ?h25⟩) hHeld ?r25
    case h25 => intro W hSw; (try dsimp only at hSw); obtain ⟨t0, t1, t2, t3, t4, t5, t6, t7, t8, t9, t10, t11, t12, t13, t14, t15, t16, t17⟩ := hSw; go_simp; try with_reducible rfl
    simp only [Act.put, List.setIfInBounds_toArray, List.set_cons_zero, List.set_cons_succ]
    refine wpAnyH_take (i := 30) (v := ?v26) rfl (by kernel_rfl) (by kernel_rfl) (by kernel_rfl) (fun _ _ _ h => h) (Or.inl ⟨by kernel_rfl, ?h26⟩) hHeld ?r26
    case h26 => intro W hSw; (try dsimp only at hSw); obtain ⟨t0, t1, t2, t3, t4, t5, t6, t7, t8, t9, t10, t11, t12, t13, t14, t15, t16, t17⟩ := hSw; go_simp; try with_reducible rfl
    simp only [Act.put, List.setIfInBounds_toArray, List.set_cons_zero, List.set_cons_succ]
    refine wpAnyH_take (i := 31) (v := ?v27) rfl (by kernel_rfl) (by kernel_rfl) (by kernel_rfl) (fun _ _ _ h => h) (Or.inl ⟨by kernel_rfl, ?h27⟩) hHeld ?r27
    case h27 => intro W hSw; (try dsimp only at hSw); obtain ⟨t0, t1, t2, t3, t4, t5, t6, t7, t8, t9, t10, t11, t12, t13, t14, t15, t16, t17⟩ := hSw; go_simp; try with_reducible rfl
    simp only [Act.put, List.setIfInBounds_toArray, List.set_cons_zero, List.set_cons_succ]
    refine wpAnyH_take (i := 33) (v := ?v28) rfl (by kernel_rfl) (by kernel_rfl) (by kernel_rfl) (fun _ _ _ h => h) (Or.inl ⟨by kernel_rfl, ?h28⟩) hHeld ?r28
    case h28 => intro W hSw; (try dsimp only at hSw); obtain ⟨t0, t1, t2, t3, t4, t5, t6, t7, t8, t9, t10, t11, t12, t13, t14, t15, t16, t17⟩ := hSw; go_simp; try with_reducible rfl
    simp only [Act.put, List.setIfInBounds_toArray, List.set_cons_zero, List.set_cons_succ]
    refine wpAnyH_ready (rs := [32]) (by kernel_rfl) (by simp) ?_
    refine AllReadyH.cons rfl (fun K hK => ?_) AllReadyH.nil
    go_simp
    go_wp2_with (first | (go_at_call 22; refine (CL1.out _ RS5.out).mono ?_; rintro e qs6 ⟨rfl, bb⟩; have RS6 : Hid (Below V7.heap.size V7 qs6) := below_trans RS5.out bb))
    refine hK.out _ _ (HS.out _ RS6.out) (fun hHeld => ?_)
    clear hK K
    (try simp only [Act.put, List.setIfInBounds_toArray, List.set_cons_zero, List.set_cons_succ])
    refine wpAnyH_ready (rs := [34]) (by kernel_rfl) (by simp) ?_
    refine AllReadyH.cons rfl (fun K hK => ?_) AllReadyH.nil
    go_simp
    go_wp2_with (first | (go_at_call 23; refine (CL2.out _ RS6.out).mono ?_; rintro e qs7 ⟨rfl, bb⟩; have RS7 : Hid (Below V7.heap.size V7 qs7) := below_trans RS6.out bb))
    refine hK.out _ _ (HS.out _ RS7.out) (fun hHeld => ?_)
    clear hK K
    (try simp only [Act.put, List.setIfInBounds_toArray, List.set_cons_zero, List.set_cons_succ])
    refine wpAnyH_take (i := 35) (v := ?v29) rfl (by kernel_rfl) (by kernel_rfl) (by kernel_rfl) (fun _ _ _ h => h) (Or.inl ⟨by kernel_rfl, ?h29⟩) hHeld ?r29
    case h29 => intro W hSw; (try dsimp only at hSw); obtain ⟨t0, t1, t2, t3, t4, t5, t6, t7, t8, t9, t10, t11, t12, t13, t14, t15, t16, t17⟩ := hSw; go_simp; try with_reducible rfl
    simp only [Act.put, List.setIfInBounds_toArray, List.set_cons_zero, List.set_cons_succ]
    refine wpAnyH_take (i := 36) (v := ?v30) rfl (by kernel_rfl) (by kernel_rfl) (by kernel_rfl) (fun _ _ _ h => h) (Or.inl ⟨by kernel_rfl, ?h30⟩) hHeld ?r30
    case h30 => intro W hSw; (try dsimp only at hSw); obtain ⟨t0, t1, t2, t3, t4, t5, t6, t7, t8, t9, t10, t11, t12, t13, t14, t15, t16, t17⟩ := hSw; go_simp; try with_reducible rfl
    simp only [Act.put, List.setIfInBounds_toArray, List.set_cons_zero, List.set_cons_succ]
    refine wpAnyH_ready (rs := [37]) (by kernel_rfl) (by simp) ?_
    refine AllReadyH.cons rfl (fun K hK => ?_) AllReadyH.nil
    go_simp
    refine hK.out _ _ (HS.out _ RS7.out) (fun hHeld => ?_)
    clear hK K
    (try simp only [Act.put, List.setIfInBounds_toArray, List.set_cons_zero, List.set_cons_succ])
    refine wpAnyH_done (by kernel_rfl) ?_ _
    go_wp2_with fail
    go_ret
    exact ⟨rfl, below_trans bw7 RS7.out⟩

/-
  The law ScreenDraws.
-/
set_option maxHeartbeats 8000000 in
set_option maxRecDepth 100000 in
theorem w_screenDraws (X Y : Int) (P : List Int) (vP : Value) (M N : Int) (Q : List Int) (vQ : Value) (x y q : Int) (w : World) (r0 : Rd .u8 w vP P) (g0 : gPc (X, Y, P)) (rq : Rd .u8 w vQ Q) (gq : gPc (M, N, Q)) (bx : -9223372036854775808 ≤ x ∧ x < 9223372036854775808) (by' : -9223372036854775808 ≤ y ∧ y < 9223372036854775808) (bq : -9223372036854775808 ≤ q ∧ q < 9223372036854775808) :
    Calls Try.prog 5 #[.agg #[.int .i64 X, .int .i64 Y, vP], .agg #[.int .i64 M, .int .i64 N, vQ], .agg #[.int .i64 x, .int .i64 y, .int .i64 q]] w fun e w' => e = .returned (.bool true) ∧ Below w.heap.size w w' := by
  obtain ⟨pa, pq, rfl⟩ := rd_slice r0
  obtain ⟨qa, qq, rfl⟩ := rd_slice rq
  have bw : Below w.heap.size w (((w.alloc (.cells #[.int .i64 X, .int .i64 Y, .slice pa P.length pq] 28)).alloc (.cells #[.int .i64 M, .int .i64 N, .slice qa Q.length qq] 28)).alloc (.cells #[.int .i64 x, .int .i64 y, .int .i64 q] 40)) := below_trans (box_below w _) (below_trans (box_below _ _) (box_below _ _))
  have sP := ((stands_new w #[.int .i64 X, .int .i64 Y, .slice pa P.length pq] 28).below (box_below _ (.cells #[.int .i64 M, .int .i64 N, .slice qa Q.length qq] 28))).below (box_below _ (.cells #[.int .i64 x, .int .i64 y, .int .i64 q] 40))
  have sQ := (stands_new (w.alloc (.cells #[.int .i64 X, .int .i64 Y, .slice pa P.length pq] 28)) #[.int .i64 M, .int .i64 N, .slice qa Q.length qq] 28).below (box_below _ (.cells #[.int .i64 x, .int .i64 y, .int .i64 q] 40))
  have sA := stands_new ((w.alloc (.cells #[.int .i64 X, .int .i64 Y, .slice pa P.length pq] 28)).alloc (.cells #[.int .i64 M, .int .i64 N, .slice qa Q.length qq] 28)) #[.int .i64 x, .int .i64 y, .int .i64 q] 40
  rw [size_al] at sQ
  rw [size_al, size_al] at sA
  have hz : P.length ≤ 140737488351232 := g0.2.1
  have gD := drI_g g0 gq x y q 1
  have c1 := fun u v w h h2 => w_pdraw22 u v (X, Y, P) (M, N, Q) x y q w h h2 g0 gq bx by' bq
  have c2 := fun u v w h h2 => w_rdraw22 u v (X, Y, P) (M, N, Q) x y q w h h2 hz gq.2.1 bq.1 bq.2
  obtain ⟨⟨⟨X1, Y1, P1⟩, E1⟩, hT⟩ : ∃ z, drI (X, Y, P) (M, N, Q) x y q 1 = z := ⟨_, rfl⟩
  rw [hT] at gD
  simp only [hT] at c1 c2
  simp only at gD
  clear hT
  go_enter Try.func5, Try.ntmps5
  go_upto_region 1 with fail
  generalize ((w.alloc (.cells #[.int .i64 X, .int .i64 Y, .slice pa P.length pq] 28)).alloc (.cells #[.int .i64 M, .int .i64 N, .slice qa Q.length qq] 28)).alloc (.cells #[.int .i64 x, .int .i64 y, .int .i64 q] 40) = W0 at bw sP sQ sA ⊢
  go_upto_region 3 with (first | (go_at_call 9; refine (w_alive22 _).mono ?_; rintro e q1 ⟨rfl, b1⟩) | fail)
  have bw := below_trans bw b1
  have rP := r0.below bw
  have rQ := rq.below bw
  have sP := sP.below b1
  have sQ := sQ.below b1
  have sA := sA.below b1
  have z0 := sP.cell 0 _ rfl
  have z1 := sP.cell 1 _ rfl
  have z2 := sP.cell 2 _ rfl
  have cP := fun W9 (g : Below q1.heap.size q1 W9) => w_rcopy _ P W9 (rP.below g) (by omega)
  clear b1 r0 rq
  go_cut [7] (fun S wx => ∃ (B : Nat) (vZ : Value), S = .pointer (some ⟨B, 0, none⟩) ∧ BoxI q1.heap.size wx B X Y vZ P ∧ Below q1.heap.size q1 wx)
  case first =>
    clear c1 c2 rP rQ sP sQ sA
    have HS : Hid (∀ W9, Below q1.heap.size q1 W9 → (W9.cell? ⟨w.heap.size, 0, none⟩ = some (.int .i64 X) ∧ W9.cell? ⟨w.heap.size, 1, none⟩ = some (.int .i64 Y) ∧ W9.cell? ⟨w.heap.size, 2, none⟩ = some (.slice pa P.length pq))) := fun W9 g => ⟨below_cell g z0, below_cell g z1, below_cell g z2⟩
    have CU := hid (fun W9 (g : Below q1.heap.size q1 W9) => cP W9 g)
    clear z0 z1 z2 cP
    go_region_held (fun W9 => W9.cell? ⟨w.heap.size, 0, none⟩ = some (.int .i64 X) ∧ W9.cell? ⟨w.heap.size, 1, none⟩ = some (.int .i64 Y) ∧ W9.cell? ⟨w.heap.size, 2, none⟩ = some (.slice pa P.length pq)) (first | with_reducible exact HS.out _ (bd0 _) | with_reducible exact HS.out _ (bd1 _ _) | with_reducible exact HS.out _ RU.out | with_reducible exact HS.out _ (RU.out.alloc RU.out.size _) | with_reducible exact HS.out _ (below_set3 RU.out _ _ _ _ (Nat.le_refl _))) (first
      | (go_at_call 15; refine (CU.out _ (by first | with_reducible exact bd0 _ | with_reducible exact bd1 _ _)).mono ?_; rintro e qU ⟨vU, rfl, oU, bU⟩; obtain ⟨uo, ucap, rfl⟩ := own_form oU; have RU : Hid (Below q1.heap.size q1 qU) := below_trans (by first | with_reducible exact bd0 _ | with_reducible exact bd1 _ _) bU; (try (have stU : Stands qU q1.heap.size #[.int .i64 0, .int .i64 0, .slice none 0 0] 28 := (stands_one0 q1 #[.int .i64 0, .int .i64 0, .slice none 0 0] 28).below bU)); (try (have y0 := stU.cell 0 _ rfl; have y1 := stU.cell 1 _ rfl; have y2 := stU.cell 2 _ rfl; have yf := stU.free)); have OU := hid oU; clear oU bU))
    all_goals go_wp2_with fail
    · go_meet
      case rel => exact ⟨qU.heap.size, _, rfl, ⟨stands_new qU _ _, own8_below (own8_base OU.out (by first | exact (bd0 q1).size | exact (bd1 q1 _).size)) (box_below qU _), RU.out.size, fun g hg => by have := (own8_ltb OU.out hg); omega⟩, below_trans RU.out (box_below qU _)⟩
    · obtain ⟨k1, k2⟩ := set3q stU (.int .i64 X) (.int .i64 Y) (.slice uo P.length ucap)
      have K1 := hid k1
      have K2 := hid (k2 _ (own8_kept (by decide)) (show Own8 _ qU (.slice uo P.length ucap) P from OU.out))
      have K4 := hid (below_set3 RU.out q1.heap.size (.int .i64 X) (.int .i64 Y) (.slice uo P.length ucap) (Nat.le_refl _))
      clear k1 k2
      go_meet
      case rel => exact ⟨q1.heap.size, _, rfl, ⟨K1.out, own8_base K2.out (bd1 q1 _).size, Nat.le_refl _, fun g hg => by have h1 := own8_basel OU.out hg; have h2 := size_al q1 (.cells #[.int .i64 0, .int .i64 0, .slice none 0 0] 28); have h3 : (q1.alloc (.cells #[.int .i64 0, .int .i64 0, .slice none 0 0] 28)).drew.heap.size = q1.heap.size + 1 := h2; omega⟩, K4.out⟩
  case rest =>
    obtain ⟨B, vZ, rfl, bp, bc⟩ := hcut
    obtain ⟨oa, oq, hoz⟩ := own_form bp.2.1
    subst hoz
    have sO := bp.1
    have rO : Rd .u8 wc (.slice oa P.length oq) P := (Rd_own bp.2.1).1
    have rP := rP.below bc
    have rQ := rQ.below bc
    have sP := sP.below bc
    have sQ := sQ.below bc
    have sA := sA.below bc
    have bw := below_trans bw bc
    clear cP z0 z1 z2 bp bc
    have zO0 := sO.cell 0 _ rfl
    have zO1 := sO.cell 1 _ rfl
    have zO2 := sO.cell 2 _ rfl
    have zQ0 := sQ.cell 0 _ rfl
    have zQ1 := sQ.cell 1 _ rfl
    have zQ2 := sQ.cell 2 _ rfl
    have zA0 := sA.cell 0 _ rfl
    have zA1 := sA.cell 1 _ rfl
    have zA2 := sA.cell 2 _ rfl
    go_upto_region 5 with (first | (go_at_call 24; refine (c1 _ _ _ ⟨_, rfl, rO⟩ ⟨_, rfl, rQ⟩).mono ?_; rintro e q1 ⟨v1, rfl, ⟨vp1, rfl, rr1⟩, bb1⟩; obtain ⟨a1, l1, rfl⟩ := rd_slice rr1) | fail)
    have bx1 := box_below q1 (.cells #[.int .i64 X1, .int .i64 Y1, .slice a1 P1.length l1] 28)
    have s1 := stands_new q1 #[.int .i64 X1, .int .i64 Y1, .slice a1 P1.length l1] 28
    have m1 := below_trans bb1 bx1
    have r1 : Rd .u8 _ (.slice a1 P1.length l1) P1 := rr1.below bx1
    have sP := sP.below m1
    have rP := rP.below m1
    have sQ := sQ.below m1
    have rQ := rQ.below m1
    have sA := sA.below m1
    have sO := sO.below m1
    have rO := rO.below m1
    have bw := below_trans bw m1
    clear zO0 zO1 zO2 zQ0 zQ1 zQ2 zA0 zA1 zA2 rr1 bb1 bx1 m1
    generalize q1.alloc (.cells #[.int .i64 X1, .int .i64 Y1, .slice a1 P1.length l1] 28) = V1 at sP sQ sA sO s1 rP rQ rO r1 bw ⊢
    have zP0 := sP.cell 0 _ rfl
    have zP1 := sP.cell 1 _ rfl
    have zP2 := sP.cell 2 _ rfl
    have zQ0 := sQ.cell 0 _ rfl
    have zQ1 := sQ.cell 1 _ rfl
    have zQ2 := sQ.cell 2 _ rfl
    have zA0 := sA.cell 0 _ rfl
    have zA1 := sA.cell 1 _ rfl
    have zA2 := sA.cell 2 _ rfl
    go_upto_region 6 with (first | (go_at_call 25; refine (c2 _ _ _ ⟨_, rfl, rP⟩ ⟨_, rfl, rQ⟩).mono ?_; rintro e q2 ⟨v2, rfl, ⟨vp2, rfl, rr2⟩, bb2⟩; obtain ⟨a2, l2, rfl⟩ := own_form rr2) | fail)
    have bx2 := box_below q2 (.cells #[.int .i64 X1, .int .i64 Y1, .slice a2 P1.length l2] 28)
    have s2 := stands_new q2 #[.int .i64 X1, .int .i64 Y1, .slice a2 P1.length l2] 28
    have m2 := below_trans bb2 bx2
    have r2 := ((Rd_own rr2).1 : Rd .u8 q2 (.slice a2 P1.length l2) P1).below bx2
    have sP := sP.below m2
    have rP := rP.below m2
    have sQ := sQ.below m2
    have rQ := rQ.below m2
    have sA := sA.below m2
    have sO := sO.below m2
    have rO := rO.below m2
    have s1 := s1.below m2
    have r1 := r1.below m2
    have bw := below_trans bw m2
    clear zP0 zP1 zP2 zQ0 zQ1 zQ2 zA0 zA1 zA2 rr2 bb2 bx2 m2
    generalize q2.alloc (.cells #[.int .i64 X1, .int .i64 Y1, .slice a2 P1.length l2] 28) = V2 at sP sQ sA sO s1 s2 rP rQ rO r1 r2 bw ⊢
    have z10 := s1.cell 0 _ rfl
    have z11 := s1.cell 1 _ rfl
    have z12 := s1.cell 2 _ rfl
    have z20 := s2.cell 0 _ rfl
    have z21 := s2.cell 1 _ rfl
    have z22 := s2.cell 2 _ rfl
    have zO0 := sO.cell 0 _ rfl
    have zO1 := sO.cell 1 _ rfl
    have zO2 := sO.cell 2 _ rfl
    have zP0 := sP.cell 0 _ rfl
    have zP1 := sP.cell 1 _ rfl
    have zP2 := sP.cell 2 _ rfl
    have cs1 := (w_rsame22 (.agg #[.int .i64 X1, .int .i64 Y1, .slice a1 P1.length l1]) (.agg #[.int .i64 X1, .int .i64 Y1, .slice a2 P1.length l2]) (X1, Y1, P1) (X1, Y1, P1) _ ⟨_, rfl, r1⟩ ⟨_, rfl, r2⟩ gD.1 gD.1).mono (R' := fun e w' => e = .returned (.bool true) ∧ Below V2.heap.size V2 w') (fun e w' h => by rw [decide_eq_true rfl] at h; exact h)
    have cs2 := fun W9 (g : Below V2.heap.size V2 W9) => (w_rsame22 (.agg #[.int .i64 X, .int .i64 Y, .slice oa P.length oq]) (.agg #[.int .i64 X, .int .i64 Y, .slice pa P.length pq]) (X, Y, P) (X, Y, P) W9 ⟨_, rfl, rO.below g⟩ ⟨_, rfl, rP.below g⟩ g0.1 g0.1).mono (R' := fun e w' => e = .returned (.bool true) ∧ Below W9.heap.size W9 w') (fun e w' h => by rw [decide_eq_true rfl] at h; exact h)
    go_wp2_with (first
      | (go_at_call_of 14 a1; refine cs1.mono ?_; rintro e qs1 ⟨rfl, bs1⟩; have zO0 := below_cell bs1 zO0; have zO1 := below_cell bs1 zO1; have zO2 := below_cell bs1 zO2; have zP0 := below_cell bs1 zP0; have zP1 := below_cell bs1 zP1; have zP2 := below_cell bs1 zP2)
      | (go_at_call_of 14 oa; refine (cs2 _ bs1).mono ?_; rintro e qs2 ⟨rfl, bs2⟩))
    go_ret
    exact ⟨ret_b (by simp), below_trans bw (below_trans bs1 bs2)⟩

end Go.Proofs.Ythihkfimledccaa
