/-
  Texts of one proof, laid one behind the other: Sr8 Pc5 Scw Cx0 Cx1 Cx2 Cx3.
-/
import Derived.Test.YthihkfimledccaaB4
import Derived.Laws.ComplexQuo
import Derived.KernelRfl
namespace Go.Proofs.Ythihkfimledccaa
open Go.ChangeShapes Go.WideShapes Go.ChangeAt Go.RowKit
set_option linter.unusedVariables false
set_option linter.unusedSimpArgs false

/-
  Draw of the document's answer for layer 22, where it draws.
-/
set_option maxHeartbeats 4000000 in
set_option maxRecDepth 10000 in
theorem w_rdraw22_ok (va vb : Value) (p t : Pic) (x y q : Int) (w : World) (ha : RdPc w va (ofP p)) (hb : RdPc w vb (ofP t)) (hp : pcF p) (hps : pcS p) (ht : pcF t) (hts : pcS t) (x0 : -64 ≤ x) (x1 : x ≤ 64) (y0 : -64 ≤ y) (y1 : y ≤ 64) (q0 : -9223372036854775808 ≤ q) (q1 : q < 9223372036854775808) :
    Calls Try.prog 25 #[va, vb, .int .i64 x, .int .i64 y, .int .i64 q] w fun e w' => ∃ v', e = .returned (.tuple #[v', .int .i64 0]) ∧ OwPc w.heap.size w' v' (ofP (drF p (pcT (qtN q) t) x y)) ∧ Below w.heap.size w w' := by
  obtain ⟨v1, rfl, r1⟩ := ha
  obtain ⟨v2, rfl, r2⟩ := hb
  have fp := fm_ofP hp hps
  have ft := fm_ofP ht hts
  have hT1 : tnI (ofP t) q 1 = (ofP (pcT (qtN q) t), 0) := by unfold tnI; rw [if_pos ft]; rfl
  have htF := pcT_f ht (qtN q)
  have htS := pcS_T hts (qtN q)
  have cT := fun W9 (g : Below w.heap.size w W9) => w_rturn22 (ofP t) _ q W9 (RdPc.below ⟨v2, rfl, r2⟩ g) (by have := hts.1; have := hts.2; unfold pcF at ht; simp only [ofP]; have h5 := Nat.mul_le_mul hts.1 hts.2; omega) q0 q1
  rw [hT1] at cT
  obtain ⟨⟨tw, th, TP⟩, hTq⟩ : ∃ r, pcT (qtN q) t = r := ⟨_, rfl⟩
  rw [hTq] at cT htF htS ⊢
  clear hT1 hTq
  obtain ⟨m, n, P'⟩ := p
  obtain ⟨e, f, Q'⟩ := t
  obtain ⟨hW, hH⟩ := hps
  obtain ⟨hE, hF⟩ := hts
  obtain ⟨htw, hth⟩ := htS
  unfold pcF at hp ht htF
  simp only [ofP] at r1 r2 hp ht htF fp ft hW hH hE hF htw hth cT ⊢
  have hWH : m * n ≤ 4096 := Nat.le_trans (Nat.mul_le_mul hW hH) (by omega)
  have hEF : e * f ≤ 4096 := Nat.le_trans (Nat.mul_le_mul hE hF) (by omega)
  have hTT : tw * th ≤ 4096 := Nat.le_trans (Nat.mul_le_mul htw hth) (by omega)
  have hz : P'.length ≤ 140737488351232 := by omega
  have hz2 : Q'.length ≤ 140737488351232 := by omega
  obtain ⟨pa, pq, rfl⟩ := rd_slice r1
  obtain ⟨qa, qq, rfl⟩ := rd_slice r2
  have bw : Below w.heap.size w (((w.alloc (.cells #[.int .i64 (m : Int), .int .i64 (n : Int), .slice pa P'.length pq] 28)).alloc (.cells #[.int .i64 (e : Int), .int .i64 (f : Int), .slice qa Q'.length qq] 28)).alloc (.cells #[.int .i64 0, .int .i64 0, .slice none 0 0] 28)) := below_trans (box_below w _) (below_trans (box_below _ _) (box_below _ _))
  have s1 := ((stands_new w #[.int .i64 (m : Int), .int .i64 (n : Int), .slice pa P'.length pq] 28).below (box_below _ (.cells #[.int .i64 (e : Int), .int .i64 (f : Int), .slice qa Q'.length qq] 28))).below (box_below _ (.cells #[.int .i64 0, .int .i64 0, .slice none 0 0] 28))
  have s2 := (stands_new (w.alloc (.cells #[.int .i64 (m : Int), .int .i64 (n : Int), .slice pa P'.length pq] 28)) #[.int .i64 (e : Int), .int .i64 (f : Int), .slice qa Q'.length qq] 28).below (box_below _ (.cells #[.int .i64 0, .int .i64 0, .slice none 0 0] 28))
  have s3 := stands_new ((w.alloc (.cells #[.int .i64 (m : Int), .int .i64 (n : Int), .slice pa P'.length pq] 28)).alloc (.cells #[.int .i64 (e : Int), .int .i64 (f : Int), .slice qa Q'.length qq] 28)) #[.int .i64 0, .int .i64 0, .slice none 0 0] 28
  rw [size_al] at s2
  rw [size_al, size_al] at s3
  have cF := fun W9 (g : Below w.heap.size w W9) => w_rformed22 (m : Int) (n : Int) _ P' W9 (r1.below g) hz
  have cG := fun W9 (g : Below w.heap.size w W9) => w_rformed22 (e : Int) (f : Int) _ Q' W9 (r2.below g) hz2
  simp only [fp] at cF
  simp only [ft] at cG
  have HP := hid hp
  have HTF := hid htF
  have hTm : TP.length ≤ 4096 := by omega
  have hPm : P'.length ≤ 4096 := by omega
  clear fp ft hp ht htF hz hz2
  have d1 : decide (x < -64) = false := decide_eq_false (by omega)
  have d2 : decide (64 < x) = false := decide_eq_false (by omega)
  have d3 : decide (y < -64) = false := decide_eq_false (by omega)
  have d4 : decide (64 < y) = false := decide_eq_false (by omega)
  go_enter Try.func25, Try.ntmps25
  go_upto_region 1 with fail
  generalize ((w.alloc (.cells #[.int .i64 (m : Int), .int .i64 (n : Int), .slice pa P'.length pq] 28)).alloc (.cells #[.int .i64 (e : Int), .int .i64 (f : Int), .slice qa Q'.length qq] 28)).alloc (.cells #[.int .i64 0, .int .i64 0, .slice none 0 0] 28) = W0 at bw s1 s2 s3 ⊢
  have a0 := s1.cell 0 _ rfl
  have a1 := s1.cell 1 _ rfl
  have a2 := s1.cell 2 _ rfl
  have c0 := s2.cell 0 _ rfl
  have c1 := s2.cell 1 _ rfl
  have c2 := s2.cell 2 _ rfl
  have cf := cF W0 bw
  clear cF
  go_upto_region 4 with (first
    | (go_at_call_of 21 pa; refine cf.mono ?_; rintro e9 w1 ⟨rfl, b1⟩; have c0 := below_cell b1 c0; have c1 := below_cell b1 c1; have c2 := below_cell b1 c2)
    | (go_at_call_of 21 qa; refine (cG _ (below_trans bw b1)).mono ?_; rintro e9 w2 ⟨rfl, b2q⟩; have b2 := below_trans b1 b2q; have c0 := below_cell b2q c0; have c1 := below_cell b2q c1; have c2 := below_cell b2q c2)
    | (go_at_call 17; refine (cT _ (below_trans bw b2)).mono ?_; rintro e9 W1 ⟨v3, rfl, ⟨vT, rfl, oT⟩, b3⟩; obtain ⟨ta, tq, rfl⟩ := own_form oT; have b03 := below_trans b2 b3)
    | fail)
  have bx := box_below W1 (.cells #[.int .i64 (tw : Int), .int .i64 (th : Int), .slice ta TP.length tq] 28)
  have st := stands_new W1 #[.int .i64 (tw : Int), .int .i64 (th : Int), .slice ta TP.length tq] 28
  have b04 := below_trans b03 bx
  have rT := ((Rd_own oT).1 : Rd .u8 W1 (.slice ta TP.length tq) TP).below bx
  have z0 := below_cell b04 a0
  have z1 := below_cell b04 a1
  have z2 := below_cell b04 a2
  have SR := hid (s3.below b04)
  have bw4 := below_trans bw b04
  have r4 := r1.below bw4
  clear a0 a1 a2 c0 c1 c2 cf cG cT s1 s2 s3 b1 b2 b3 b03 b04 b2q bw r1 r2
  generalize W1.alloc (.cells #[.int .i64 (tw : Int), .int .i64 (th : Int), .slice ta TP.length tq] 28) = W2 at st bx rT z0 z1 z2 SR bw4 r4 ⊢
  have t0 := st.cell 0 _ rfl
  have t1 := st.cell 1 _ rfl
  have t2 := st.cell 2 _ rfl
  have cP := fun W9 (g : Below W2.heap.size W2 W9) => w_rcopy _ P' W9 (r4.below g) (by omega)
  have Z0 := hid (fun W9 (g : Below W2.heap.size W2 W9) => below_cell g z0)
  have Z1 := hid (fun W9 (g : Below W2.heap.size W2 W9) => below_cell g z1)
  have T0 := hid (fun W9 (g : Below W2.heap.size W2 W9) => below_cell g t0)
  have T1 := hid (fun W9 (g : Below W2.heap.size W2 W9) => below_cell g t1)
  have T2 := hid (fun W9 (g : Below W2.heap.size W2 W9) => below_cell g t2)
  clear t0 t1 t2 st bx oT
  go_cut [14] (fun S wx => ∃ (B : Nat) (vZ : Value), S = .pointer (some ⟨B, 0, none⟩) ∧ BoxP W2.heap.size wx B m n vZ P' ∧ Below W2.heap.size W2 wx)
  case first =>
    clear r4 rT
    have HS : Hid (∀ W9, Below W2.heap.size W2 W9 → (W9.cell? ⟨w.heap.size, 0, none⟩ = some (.int .i64 m) ∧ W9.cell? ⟨w.heap.size, 1, none⟩ = some (.int .i64 n) ∧ W9.cell? ⟨w.heap.size, 2, none⟩ = some (.slice pa P'.length pq))) := fun W9 g => ⟨below_cell g z0, below_cell g z1, below_cell g z2⟩
    have CU := hid (fun W9 (g : Below W2.heap.size W2 W9) => cP W9 g)
    clear z0 z1 z2 cP
    go_region_held (fun W9 => W9.cell? ⟨w.heap.size, 0, none⟩ = some (.int .i64 m) ∧ W9.cell? ⟨w.heap.size, 1, none⟩ = some (.int .i64 n) ∧ W9.cell? ⟨w.heap.size, 2, none⟩ = some (.slice pa P'.length pq)) (first | with_reducible exact HS.out _ (bd0 _) | with_reducible exact HS.out _ (bd1 _ _) | with_reducible exact HS.out _ RU.out | with_reducible exact HS.out _ (RU.out.alloc RU.out.size _) | with_reducible exact HS.out _ (below_set3 RU.out _ _ _ _ (Nat.le_refl _))) (first
      | (go_at_call 15; refine (CU.out _ (by first | with_reducible exact bd0 _ | with_reducible exact bd1 _ _)).mono ?_; rintro e qU ⟨vU, rfl, oU, bU⟩; obtain ⟨uo, ucap, rfl⟩ := own_form oU; have RU : Hid (Below W2.heap.size W2 qU) := below_trans (by first | with_reducible exact bd0 _ | with_reducible exact bd1 _ _) bU; (try (have stU : Stands qU W2.heap.size #[.int .i64 0, .int .i64 0, .slice none 0 0] 28 := (stands_one0 W2 #[.int .i64 0, .int .i64 0, .slice none 0 0] 28).below bU)); (try (have y0 := stU.cell 0 _ rfl; have y1 := stU.cell 1 _ rfl; have y2 := stU.cell 2 _ rfl; have yf := stU.free)); have OU := hid oU; clear oU bU))
    all_goals go_wp2_with fail
    · go_meet
      case rel => exact ⟨qU.heap.size, _, rfl, ⟨stands_new qU _ _, own8_below (own8_base OU.out (by first | exact (bd0 W2).size | exact (bd1 W2 _).size)) (box_below qU _), RU.out.size, fun g hg => by have := (own8_ltb OU.out hg); omega⟩, below_trans RU.out (box_below qU _)⟩
    · obtain ⟨k1, k2⟩ := set3q stU (.int .i64 m) (.int .i64 n) (.slice uo P'.length ucap)
      have K1 := hid k1
      have K2 := hid (k2 _ (own8_kept (by decide)) (show Own8 _ qU (.slice uo P'.length ucap) P' from OU.out))
      have K4 := hid (below_set3 RU.out W2.heap.size (.int .i64 m) (.int .i64 n) (.slice uo P'.length ucap) (Nat.le_refl _))
      clear k1 k2
      go_meet
      case rel => exact ⟨W2.heap.size, _, rfl, ⟨K1.out, own8_base K2.out (bd1 W2 _).size, Nat.le_refl _, fun g hg => by have h1 := own8_basel OU.out hg; have h2 := size_al W2 (.cells #[.int .i64 0, .int .i64 0, .slice none 0 0] 28); have h3 : (W2.alloc (.cells #[.int .i64 0, .int .i64 0, .slice none 0 0] 28)).drew.heap.size = W2.heap.size + 1 := h2; omega⟩, K4.out⟩
  case rest =>
    obtain ⟨B, vZ, rfl, bp, bc⟩ := hcut
    have d0 := dF_0 (p := (m, n, P')) HP.out (tw, th, TP) x y
    simp only at d0
    rw [← d0] at bp
    clear d0 cP z0 z1 z2
    go_wp2_with fail
    go_loopw [15] (fun J wx => ∃ j : Nat, j ≤ n ∧ J = .int .i64 j ∧ BoxP W2.heap.size wx B m n vZ (dF (m, n, P') (tw, th, TP) x y (j * m)) ∧ Below W2.heap.size W2 wx) (fun J _ => (n - intOf J).toNat)
    case atStart => exact ⟨0, by omega, rfl, by rw [Nat.zero_mul]; exact bp, bc⟩
    case round =>
      clear bp bc
      obtain ⟨j, hj, rfl, bp, bc⟩ := hrel
      have z1 := Z1.out wr bc
      by_cases hlt : (j : Int) < n
      · have hjn : j < n := by omega
        go_upto_region 9 with fail
        go_loopw [16] (fun I wx => ∃ i : Nat, i ≤ m ∧ I = .int .i64 i ∧ BoxP W2.heap.size wx B m n vZ (dF (m, n, P') (tw, th, TP) x y (j * m + i)) ∧ Below W2.heap.size W2 wx) (fun I _ => (m - intOf I).toNat)
        case atStart => exact ⟨0, by omega, rfl, bp, bc⟩
        case round =>
          clear bp bc z1
          obtain ⟨i, hi, rfl, bp, bc⟩ := hrel
          have z0 := Z0.out wr bc
          by_cases hli : (i : Int) < m
          · have him : i < m := by omega
            have t0 := T0.out wr bc
            have t1 := T1.out wr bc
            have t2 := T2.out wr bc
            obtain ⟨u, hu⟩ : ∃ u, (i : Int) - x = u := ⟨_, rfl⟩
            obtain ⟨v, hv⟩ : ∃ v, (j : Int) - y = v := ⟨_, rfl⟩
            have e1 : IntKind.i64.wrap ((i : Int) - x) = u := by rw [hu, IntKind.wrap_i64]; omega
            have e2 : IntKind.i64.wrap ((j : Int) - y) = v := by rw [hv, IntKind.wrap_i64]; omega
            have hdr : drA (m, n, P') (tw, th, TP) x y i j = if 0 ≤ u ∧ u < tw ∧ 0 ≤ v ∧ v < th ∧ ¬ pxA tw TP u.toNat v.toNat = 0 then pxA tw TP u.toNat v.toNat else pxA m P' i j := by unfold drA; simp only [hu, hv]
            have SAME : drA (m, n, P') (tw, th, TP) x y i j = pxA m P' i j → Hid (dF (m, n, P') (tw, th, TP) x y (j * m + (i + 1)) = dF (m, n, P') (tw, th, TP) x y (j * m + i)) := fun h => hid (dF_same (m, n, P') (tw, th, TP) x y (j := j) him h).symm
            have ub : -200 ≤ u ∧ u ≤ 200 := by omega
            have vb : -200 ≤ v ∧ v ≤ 200 := by omega
            clear hu hv
            by_cases h1 : 0 ≤ u
            · by_cases h2 : u < tw
              · by_cases h3 : 0 ≤ v
                · by_cases h4 : v < th
                  · have hI1 : v.toNat * tw + u.toNat < tw * th := px_lt (by omega) (by omega)
                    have hI2 : j * m + i < m * n := px_lt him hjn
                    obtain ⟨U, hU⟩ : ∃ U : Nat, u.toNat = U := ⟨_, rfl⟩
                    obtain ⟨V, hV⟩ : ∃ U : Nat, v.toNat = U := ⟨_, rfl⟩
                    rw [hU, hV] at hI1 hdr
                    have hUu : u = (U : Int) := by omega
                    have hVv : v = (V : Int) := by omega
                    subst hUu
                    subst hVv
                    obtain ⟨A1, hA1⟩ : ∃ A, V * tw = A := ⟨_, rfl⟩
                    have e3 : IntKind.i64.wrap ((V : Int) * (tw : Int)) = (A1 : Int) := by rw [← hA1]; exact wr_mul V tw (by omega)
                    rw [hA1] at hI1
                    obtain ⟨I1, hi1⟩ : ∃ k, A1 + U = k := ⟨_, rfl⟩
                    have e4 : IntKind.i64.wrap ((A1 : Int) + (U : Int)) = (I1 : Int) := by rw [IntKind.wrap_i64]; omega
                    rw [hi1] at hI1
                    have hP1 : I1 < TP.length := by rw [HTF.out]; exact hI1
                    obtain ⟨ad, j1, j2⟩ := rd_idx rT uB zB (I1 : Int) (by omega) (by omega)
                    obtain ⟨C, hC⟩ : ∃ C, TP.getD I1 0 = C := ⟨_, rfl⟩
                    rw [Int.toNat_natCast, hC] at j2
                    have hpx : pxA tw TP U V = C := by unfold pxA; rw [hA1, hi1]; exact hC
                    rw [hpx] at hdr
                    have j3 := below_cell bc j2
                    by_cases hc0 : C = 0
                    · have SM := SAME (by rw [hdr, if_neg (fun z => z.2.2.2.2 hc0)])
                      have hq : (C != 0) = false := by simp [hc0]
                      clear hdr SAME hU hV hA1 hi1 hC hpx hc0 hI2
                      go_wp2_with fail
                      go_roundw
                      case rel => exact ⟨i + 1, by omega, by go_num, by rw [SM.out]; exact bp, bc⟩
                      case measure => simp [intOf]; omega
                    · have hq : (C != 0) = true := by simpa using hc0
                      have hds := dF_set (m, n, P') (tw, th, TP) x y (j := j) him hjn
                      rw [hdr, if_pos ⟨by omega, by omega, by omega, by omega, hc0⟩] at hds
                      simp only at hds
                      obtain ⟨A2, hA2⟩ : ∃ A, j * m = A := ⟨_, rfl⟩
                      have e5 : IntKind.i64.wrap ((j : Int) * (m : Int)) = (A2 : Int) := by rw [← hA2]; exact wr_mul j m (by omega)
                      obtain ⟨I2, hi2⟩ : ∃ k, A2 + i = k := ⟨_, rfl⟩
                      have e6 : IntKind.i64.wrap ((A2 : Int) + (i : Int)) = (I2 : Int) := by rw [IntKind.wrap_i64]; omega
                      obtain ⟨a, g1, g2, g3, g4, g5⟩ := (bp.below (bd0 wr)).set ((j * m + i : Nat) : Int) (by omega) (by rw [dF_len]; simp only; omega)
                      have bp2 := g5 C
                      rw [Int.toNat_natCast, hds] at bp2
                      rw [hA2, hi2] at g1 g2
                      have bcs := (below_drewN bc 1).setCell g4 (.int .u8 C)
                      have ZA := hid (fun W9 (g : Below W2.heap.size W2 W9) => below_cell g j2)
                      have BPC := hid bp
                      have HS : Hid (∀ W, Below wr.heap.size wr W → (W.cell? ⟨w.heap.size, 0, none⟩ = some (.int .i64 m) ∧ W.cell? ⟨B, 2, none⟩ = some vZ ∧ W.cell? ⟨W1.heap.size, 0, none⟩ = some (.int .i64 tw) ∧ W.cell? ⟨W1.heap.size, 2, none⟩ = some (.slice ta TP.length tq) ∧ W.cell? ad = some (.int .u8 C))) := fun W g => ⟨Z0.out W (below_trans bc g), (BPC.out.1.below g).cell 2 _ rfl, T0.out W (below_trans bc g), T2.out W (below_trans bc g), ZA.out W (below_trans bc g)⟩
                      have KS : Hid ((wr.drew.setCell a (.int .u8 C)).cell? ⟨w.heap.size, 0, none⟩ = some (.int .i64 m) ∧ (wr.drew.setCell a (.int .u8 C)).cell? ⟨B, 2, none⟩ = some vZ ∧ (wr.drew.setCell a (.int .u8 C)).cell? ⟨W1.heap.size, 0, none⟩ = some (.int .i64 tw) ∧ (wr.drew.setCell a (.int .u8 C)).cell? ⟨W1.heap.size, 2, none⟩ = some (.slice ta TP.length tq) ∧ (wr.drew.setCell a (.int .u8 C)).cell? ad = some (.int .u8 C)) := ⟨Z0.out _ bcs, bp2.1.cell 2 _ rfl, T0.out _ bcs, T2.out _ bcs, ZA.out _ bcs⟩
                      have BP2 := hid bp2
                      have BCS := hid bcs
                      clear hdr SAME hU hV hA1 hi1 hC hpx hc0 hI2 hds hA2 hi2 g5 bp2 bcs bp
                      go_upto_region 13 with fail
                      refine wp_region_held_drew (S := fun W => W.cell? ⟨w.heap.size, 0, none⟩ = some (.int .i64 m) ∧ W.cell? ⟨B, 2, none⟩ = some vZ ∧ W.cell? ⟨W1.heap.size, 0, none⟩ = some (.int .i64 tw) ∧ W.cell? ⟨W1.heap.size, 2, none⟩ = some (.slice ta TP.length tq) ∧ W.cell? ad = some (.int .u8 C)) (by kernel_rfl) (HS.out _ (bd0 _)) (fun hHeld => ?_)
                      refine wpAnyH_take (i := 0) (v := ?v1) rfl (by kernel_rfl) (by kernel_rfl) (by kernel_rfl) (fun _ _ _ h => h) (Or.inl ⟨by kernel_rfl, ?h1⟩) hHeld ?r1
                      case h1 => intro W hSw; (try dsimp only at hSw); obtain ⟨t0, t1, t2, t3, t4⟩ := hSw; go_simp; try with_reducible rfl
                      simp only [Act.put, List.setIfInBounds_toArray, List.set_cons_zero, List.set_cons_succ]
                      refine wpAnyH_take (i := 1) (v := ?v2) rfl (by kernel_rfl) (by kernel_rfl) (by kernel_rfl) (fun _ _ _ h => h) (Or.inl ⟨by kernel_rfl, ?h2⟩) hHeld ?r2
                      case h2 => intro W hSw; (try dsimp only at hSw); obtain ⟨t0, t1, t2, t3, t4⟩ := hSw; go_simp; try with_reducible rfl
                      simp only [Act.put, List.setIfInBounds_toArray, List.set_cons_zero, List.set_cons_succ]
                      refine wpAnyH_take (i := 2) (v := ?v3) rfl (by kernel_rfl) (by kernel_rfl) (by kernel_rfl) (fun _ _ _ h => h) (Or.inl ⟨by kernel_rfl, ?h3⟩) hHeld ?r3
                      case h3 => intro W hSw; (try dsimp only at hSw); obtain ⟨t0, t1, t2, t3, t4⟩ := hSw; go_simp; try with_reducible rfl
                      simp only [Act.put, List.setIfInBounds_toArray, List.set_cons_zero, List.set_cons_succ]
                      refine wpAnyH_take (i := 3) (v := ?v4) rfl (by kernel_rfl) (by kernel_rfl) (by kernel_rfl) (fun _ _ _ h => h) (Or.inl ⟨by kernel_rfl, ?h4⟩) hHeld ?r4
                      case h4 => intro W hSw; (try dsimp only at hSw); obtain ⟨t0, t1, t2, t3, t4⟩ := hSw; go_simp; try with_reducible rfl
                      simp only [Act.put, List.setIfInBounds_toArray, List.set_cons_zero, List.set_cons_succ]
                      refine wpAnyH_take (i := 4) (v := ?v5) rfl (by kernel_rfl) (by kernel_rfl) (by kernel_rfl) (fun _ _ _ h => h) (Or.inl ⟨by kernel_rfl, ?h5⟩) hHeld ?r5
                      case h5 => intro W hSw; (try dsimp only at hSw); obtain ⟨t0, t1, t2, t3, t4⟩ := hSw; go_simp; try with_reducible rfl
                      simp only [Act.put, List.setIfInBounds_toArray, List.set_cons_zero, List.set_cons_succ]
                      refine wpAnyH_take (i := 5) (v := ?v6) rfl (by kernel_rfl) (by kernel_rfl) (by kernel_rfl) (fun _ _ _ h => h) (Or.inl ⟨by kernel_rfl, ?h6⟩) hHeld ?r6
                      case h6 => intro W hSw; (try dsimp only at hSw); obtain ⟨t0, t1, t2, t3, t4⟩ := hSw; go_simp; try with_reducible rfl
                      simp only [Act.put, List.setIfInBounds_toArray, List.set_cons_zero, List.set_cons_succ]
                      refine wpAnyH_take (i := 6) (v := ?v7) rfl (by kernel_rfl) (by kernel_rfl) (by kernel_rfl) (fun _ _ _ h => h) (Or.inl ⟨by kernel_rfl, ?h7⟩) hHeld ?r7
                      case h7 => intro W hSw; (try dsimp only at hSw); obtain ⟨t0, t1, t2, t3, t4⟩ := hSw; go_simp; try with_reducible rfl
                      simp only [Act.put, List.setIfInBounds_toArray, List.set_cons_zero, List.set_cons_succ]
                      refine wpAnyH_take (i := 7) (v := ?v8) rfl (by kernel_rfl) (by kernel_rfl) (by kernel_rfl) (fun _ _ _ h => h) (Or.inl ⟨by kernel_rfl, ?h8⟩) hHeld ?r8
                      case h8 => intro W hSw; (try dsimp only at hSw); obtain ⟨t0, t1, t2, t3, t4⟩ := hSw; go_simp; try with_reducible rfl
                      simp only [Act.put, List.setIfInBounds_toArray, List.set_cons_zero, List.set_cons_succ]
                      refine wpAnyH_take (i := 8) (v := ?v9) rfl (by kernel_rfl) (by kernel_rfl) (by kernel_rfl) (fun _ _ _ h => h) (Or.inl ⟨by kernel_rfl, ?h9⟩) hHeld ?r9
                      case h9 => intro W hSw; (try dsimp only at hSw); obtain ⟨t0, t1, t2, t3, t4⟩ := hSw; go_simp; try with_reducible rfl
                      simp only [Act.put, List.setIfInBounds_toArray, List.set_cons_zero, List.set_cons_succ]
                      refine wpAnyH_take (i := 9) (v := ?v10) rfl (by kernel_rfl) (by kernel_rfl) (by kernel_rfl) (fun _ _ _ h => h) (Or.inl ⟨by kernel_rfl, ?h10⟩) hHeld ?r10
                      case h10 => intro W hSw; (try dsimp only at hSw); obtain ⟨t0, t1, t2, t3, t4⟩ := hSw; go_simp; try with_reducible rfl
                      simp only [Act.put, List.setIfInBounds_toArray, List.set_cons_zero, List.set_cons_succ]
                      refine wpAnyH_take (i := 10) (v := ?v11) rfl (by kernel_rfl) (by kernel_rfl) (by kernel_rfl) (fun _ _ _ h => h) (Or.inl ⟨by kernel_rfl, ?h11⟩) hHeld ?r11
                      case h11 => intro W hSw; (try dsimp only at hSw); obtain ⟨t0, t1, t2, t3, t4⟩ := hSw; go_simp; try with_reducible rfl
                      simp only [Act.put, List.setIfInBounds_toArray, List.set_cons_zero, List.set_cons_succ]
                      refine wpAnyH_take (i := 11) (v := ?v12) rfl (by kernel_rfl) (by kernel_rfl) (by kernel_rfl) (fun _ _ _ h => h) (Or.inl ⟨by kernel_rfl, ?h12⟩) hHeld ?r12
                      case h12 => intro W hSw; (try dsimp only at hSw); obtain ⟨t0, t1, t2, t3, t4⟩ := hSw; go_simp; try with_reducible rfl
                      simp only [Act.put, List.setIfInBounds_toArray, List.set_cons_zero, List.set_cons_succ]
                      refine wpAnyH_take (i := 12) (v := ?v13) rfl (by kernel_rfl) (by kernel_rfl) (by kernel_rfl) (fun _ _ _ h => h) (Or.inl ⟨by kernel_rfl, ?h13⟩) hHeld ?r13
                      case h13 => intro W hSw; (try dsimp only at hSw); obtain ⟨t0, t1, t2, t3, t4⟩ := hSw; go_simp; try with_reducible rfl
                      simp only [Act.put, List.setIfInBounds_toArray, List.set_cons_zero, List.set_cons_succ]
                      refine wpAnyH_take (i := 13) (v := ?v14) rfl (by kernel_rfl) (by kernel_rfl) (by kernel_rfl) (fun _ _ _ h => h) (Or.inl ⟨by kernel_rfl, ?h14⟩) hHeld ?r14
                      case h14 => intro W hSw; (try dsimp only at hSw); obtain ⟨t0, t1, t2, t3, t4⟩ := hSw; go_simp; try with_reducible rfl
                      simp only [Act.put, List.setIfInBounds_toArray, List.set_cons_zero, List.set_cons_succ]
                      refine wpAnyH_take (i := 14) (v := ?v15) rfl (by kernel_rfl) (by kernel_rfl) (by kernel_rfl) (fun _ _ _ h => h) (Or.inl ⟨by kernel_rfl, ?h15⟩) hHeld ?r15
                      case h15 => intro W hSw; (try dsimp only at hSw); obtain ⟨t0, t1, t2, t3, t4⟩ := hSw; go_simp; try with_reducible rfl
                      simp only [Act.put, List.setIfInBounds_toArray, List.set_cons_zero, List.set_cons_succ]
                      refine wpAnyH_take (i := 15) (v := ?v16) rfl (by kernel_rfl) (by kernel_rfl) (by kernel_rfl) (fun _ _ _ h => h) (Or.inl ⟨by kernel_rfl, ?h16⟩) hHeld ?r16
                      case h16 => intro W hSw; (try dsimp only at hSw); obtain ⟨t0, t1, t2, t3, t4⟩ := hSw; go_simp; try with_reducible rfl
                      simp only [Act.put, List.setIfInBounds_toArray, List.set_cons_zero, List.set_cons_succ]
                      refine wpAnyH_take (i := 16) (v := ?v17) rfl (by kernel_rfl) (by kernel_rfl) (by kernel_rfl) (fun _ _ _ h => h) (Or.inl ⟨by kernel_rfl, ?h17⟩) hHeld ?r17
                      case h17 => intro W hSw; (try dsimp only at hSw); obtain ⟨t0, t1, t2, t3, t4⟩ := hSw; go_simp; try with_reducible rfl
                      simp only [Act.put, List.setIfInBounds_toArray, List.set_cons_zero, List.set_cons_succ]
                      refine wpAnyH_take (i := 17) (v := ?v18) rfl (by kernel_rfl) (by kernel_rfl) (by kernel_rfl) (fun _ _ _ h => h) (Or.inl ⟨by kernel_rfl, ?h18⟩) hHeld ?r18
                      case h18 => intro W hSw; (try dsimp only at hSw); obtain ⟨t0, t1, t2, t3, t4⟩ := hSw; go_simp; try with_reducible rfl
                      simp only [Act.put, List.setIfInBounds_toArray, List.set_cons_zero, List.set_cons_succ]
                      refine wpAnyH_take (i := 18) (v := ?v19) rfl (by kernel_rfl) (by kernel_rfl) (by kernel_rfl) (fun _ _ _ h => h) (Or.inl ⟨by kernel_rfl, ?h19⟩) hHeld ?r19
                      case h19 => intro W hSw; (try dsimp only at hSw); obtain ⟨t0, t1, t2, t3, t4⟩ := hSw; go_simp; try with_reducible rfl
                      simp only [Act.put, List.setIfInBounds_toArray, List.set_cons_zero, List.set_cons_succ]
                      refine wpAnyH_ready (rs := [19]) (by kernel_rfl) (by simp) ?_
                      refine AllReadyH.cons rfl (fun K hK => ?_) AllReadyH.nil
                      go_simp
                      refine hK.out _ _ (KS.out) (fun hHeld => ?_)
                      clear hK K
                      (try simp only [Act.put, List.setIfInBounds_toArray, List.set_cons_zero, List.set_cons_succ])
                      refine wpAnyH_done (by kernel_rfl) ?_ _
                      go_wp2_with fail
                      go_roundw
                      case rel => exact ⟨i + 1, by omega, by go_num, BP2.out, BCS.out⟩
                      case measure => simp [intOf]; omega
                  · have SM := SAME (by rw [hdr, if_neg (by omega)])
                    clear hdr SAME
                    go_wp2_with fail
                    go_roundw
                    case rel => exact ⟨i + 1, by omega, by go_num, by rw [SM.out]; exact bp, bc⟩
                    case measure => simp [intOf]; omega
                · have SM := SAME (by rw [hdr, if_neg (by omega)])
                  clear hdr SAME
                  go_wp2_with fail
                  go_roundw
                  case rel => exact ⟨i + 1, by omega, by go_num, by rw [SM.out]; exact bp, bc⟩
                  case measure => simp [intOf]; omega
              · have SM := SAME (by rw [hdr, if_neg (by omega)])
                clear hdr SAME
                go_wp2_with fail
                go_roundw
                case rel => exact ⟨i + 1, by omega, by go_num, by rw [SM.out]; exact bp, bc⟩
                case measure => simp [intOf]; omega
            · have SM := SAME (by rw [hdr, if_neg (by omega)])
              clear hdr SAME
              go_wp2_with fail
              go_roundw
              case rel => exact ⟨i + 1, by omega, by go_num, by rw [SM.out]; exact bp, bc⟩
              case measure => simp [intOf]; omega
          · obtain rfl : i = m := by omega
            go_wp2_with fail
            go_roundw
            case rel => exact ⟨j + 1, by omega, by go_num, by rw [Nat.succ_mul]; exact bp, bc⟩
            case measure => simp [intOf]; omega
      · obtain rfl : j = n := by omega
        have qa := dF_all (m, j, P') (tw, th, TP) x y
        simp only at qa
        rw [Nat.mul_comm j m, qa] at bp
        have t0 := bp.1.cell 0 _ rfl
        have t1 := bp.1.cell 1 _ rfl
        have t2 := bp.1.cell 2 _ rfl
        have SQ := SR.out.below bc
        have u0 := SQ.cell 0 _ rfl
        have u1 := SQ.cell 1 _ rfl
        have u2 := SQ.cell 2 _ rfl
        have uf := SQ.free
        obtain ⟨R, hQ⟩ : ∃ Q, (drF (m, j, P') (tw, th, TP) x y).2.2 = Q := ⟨_, rfl⟩
        rw [hQ] at bp
        have HQ := hid hQ
        have oy := bp.2.1
        obtain ⟨ya, yq, rfl⟩ := own_form oy
        clear qa hQ
        go_wp2_with fail
        obtain ⟨k1, k2⟩ := set3q SQ (.int .i64 (m : Int)) (.int .i64 (j : Int)) (.slice ya R.length yq)
        have J7 := below_set3 (below_trans bw4 bc) (w.heap.size + 2) (.int .i64 (m : Int)) (.int .i64 (j : Int)) (.slice ya R.length yq) (by omega)
        (try simp only [Exit.inBlock, Exit.then])
        refine bodyPost_ret (res_row2 rfl _ _ (w.heap.size + 2) 28 _ (0, 0) _ rfl k1 Try.underlying28 rfl infoPc) rfl ?_
        refine ⟨_, rfl, ⟨_, rfl, ?_⟩, J7⟩
        show Own8 _ _ _ (drF (m, j, P') (tw, th, TP) x y).2.2
        rw [HQ.out]
        exact own8_base (k2 _ (own8_kept (by decide)) (show Own8 _ wr (.slice ya R.length yq) R from oy)) bw4.size

theorem w_rdraw22 (va vb : Value) (p t : PicI) (x y q : Int) (w : World) (ha : RdPc w va p) (hb : RdPc w vb t) (hz : p.2.2.length ≤ 140737488351232) (hz2 : t.2.2.length ≤ 140737488351232) (q0 : -9223372036854775808 ≤ q) (q1 : q < 9223372036854775808) :
    Calls Try.prog 25 #[va, vb, .int .i64 x, .int .i64 y, .int .i64 q] w fun e w' => ∃ v', e = .returned (.tuple #[v', .int .i64 (drI p t x y q 1).2]) ∧ OwPc w.heap.size w' v' (drI p t x y q 1).1 ∧ Below w.heap.size w w' := by
  cases hc : (fmI p && fmI t && decide (-64 ≤ x) && decide (x ≤ 64) && decide (-64 ≤ y) && decide (y ≤ 64))
  · rw [drI_bad hc]
    exact w_rdraw22_no va vb p t x y q w ha hb hz hz2 hc
  · have e : drI p t x y q 1 = (ofP (drF (toP p) (pcT (qtN q) (toP t)) x y), 0) := by unfold drI; rw [if_pos hc]
    rw [e]
    simp only [Bool.and_eq_true, decide_eq_true_eq] at hc
    obtain ⟨⟨⟨⟨⟨h1, h2⟩, h3⟩, h4⟩, h5⟩, h6⟩ := hc
    obtain ⟨f1, f2, f3⟩ := fm_toP h1
    obtain ⟨g1, g2, g3⟩ := fm_toP h2
    exact w_rdraw22_ok va vb (toP p) (toP t) x y q w (by rw [f3]; exact ha) (by rw [g3]; exact hb) f1 f2 g1 g2 h3 h4 h5 h6 q0 q1

/-
  A picture's points brought to new places one by one: what a turned and a mirrored picture hold. No Go text in sight.
-/
/-- points of an m by n picture come to places of an a by b one: u, v tell the new place, o tells the old one's number again, g what then stands there -/
structure MvOK (m n a b : Nat) (P : List Int) (u v : Nat → Nat → Nat) (o : Nat → Nat → Nat) (g : Nat → Nat → Int) : Prop where
  area : a * b = m * n
  inu : ∀ x y, x < m → y < n → u x y < a
  inv : ∀ x y, x < m → y < n → v x y < b
  back : ∀ x y, x < m → y < n → o (u x y) (v x y) = y * m + x
  inj : ∀ X Y x y, X < a → Y < b → x < m → y < n → o X Y = y * m + x → X = u x y ∧ Y = v x y
  top : ∀ X Y, X < a → Y < b → o X Y < m * n
  keep : ∀ x y, x < m → y < n → g (u x y) (v x y) = pxA m P x y
def mvF (a b : Nat) (o : Nat → Nat → Nat) (g : Nat → Nat → Int) (k : Nat) : List Int := flF a b o g (fun _ _ => 0) k
theorem mvF_len (a b : Nat) (o : Nat → Nat → Nat) (g : Nat → Nat → Int) (k : Nat) : (mvF a b o g k).length = a * b := fl_len _ _ _ _ _ _
theorem mvF_0 (a b : Nat) (o : Nat → Nat → Nat) (g : Nat → Nat → Int) : mvF a b o g 0 = List.replicate (a * b) 0 := by unfold mvF; rw [fl_0, mkP_zero]
theorem MvOK.all {m n a b : Nat} {P : List Int} {u v : Nat → Nat → Nat} {o : Nat → Nat → Nat} {g : Nat → Nat → Int} (h : MvOK m n a b P u v o g) : mvF a b o g (m * n) = mkP a b g := fl_all _ _ h.top
theorem MvOK.set {m n a b : Nat} {P : List Int} {u v : Nat → Nat → Nat} {o : Nat → Nat → Nat} {g : Nat → Nat → Int} (h : MvOK m n a b P u v o g) {x y : Nat} (hx : x < m) (hy : y < n) :
    (mvF a b o g (y * m + x)).set (v x y * a + u x y) (pxA m P x y) = mvF a b o g (y * m + x + 1) := by
  have := fl_set g (fun _ _ => 0) (h.inu x y hx hy) (h.inv x y hx hy) (h.back x y hx hy) (fun X Y hX hY e => h.inj X Y x y hX hY hx hy e)
  rw [h.keep x y hx hy] at this
  exact this
/-- the k-th point's step -/
theorem MvOK.step {m n a b : Nat} {P : List Int} {u v : Nat → Nat → Nat} {o : Nat → Nat → Nat} {g : Nat → Nat → Int} (h : MvOK m n a b P u v o g) {k : Nat} (hk : k < m * n) :
    v (k % m) (k / m) * a + u (k % m) (k / m) < a * b ∧ (mvF a b o g k).set (v (k % m) (k / m) * a + u (k % m) (k / m)) (P.getD k 0) = mvF a b o g (k + 1) := by
  obtain ⟨h1, h2, h3⟩ := px_split hk
  refine ⟨px_lt (h.inu _ _ h1 h2) (h.inv _ _ h1 h2), ?_⟩
  have := h.set h1 h2
  unfold pxA at this
  rw [h3] at this
  exact this

theorem plS_add : ∀ (a b : Nat) (s : Nat × Nat × Nat × Nat), plS a (plS b s) = plS (a + b) s
  | 0, b, s => by rw [Nat.zero_add]; rfl
  | a + 1, b, s => by
    rw [show a + 1 + b = (a + b) + 1 by omega]
    simp only [plS]
    rw [plS_add a b s]
/-- the sides behind so many quarters -/
def sdF (Q m n : Nat) : Nat × Nat := if Q % 2 = 0 then (m, n) else (n, m)
theorem plS_sd (m n x y : Nat) : ∀ Q, ((plS Q (m, n, x, y)).1, (plS Q (m, n, x, y)).2.1) = sdF Q m n
  | 0 => rfl
  | Q + 1 => by
    have h := plS_sd m n x y Q
    unfold sdF at h ⊢
    show ((plS Q (m, n, x, y)).2.1, (plS Q (m, n, x, y)).1) = _
    by_cases e : Q % 2 = 0
    · rw [if_pos e] at h
      rw [if_neg (by omega)]
      injection h with h1 h2
      rw [h1, h2]
    · rw [if_neg e] at h
      rw [if_pos (by omega)]
      injection h with h1 h2
      rw [h1, h2]
theorem pcT_sd (m n : Nat) (P : List Int) : ∀ Q, ((pcT Q (m, n, P)).1, (pcT Q (m, n, P)).2.1) = sdF Q m n
  | 0 => rfl
  | Q + 1 => by
    have h := pcT_sd m n P Q
    unfold sdF at h ⊢
    show ((pcT Q (m, n, P)).2.1, (pcT Q (m, n, P)).1) = _
    by_cases e : Q % 2 = 0
    · rw [if_pos e] at h
      rw [if_neg (by omega)]
      injection h with h1 h2
      rw [h1, h2]
    · rw [if_neg e] at h
      rw [if_pos (by omega)]
      injection h with h1 h2
      rw [h1, h2]
/-- where a point comes to -/
def tuF (Q m n x y : Nat) : Nat := (plS Q (m, n, x, y)).2.2.1
def tvF (Q m n x y : Nat) : Nat := (plS Q (m, n, x, y)).2.2.2
/-- where it came from, as a number -/
def toF (Q m n X Y : Nat) : Nat := (plS (4 - Q) ((sdF Q m n).1, (sdF Q m n).2, X, Y)).2.2.2 * m + (plS (4 - Q) ((sdF Q m n).1, (sdF Q m n).2, X, Y)).2.2.1
def tgF (Q : Nat) (p : Pic) (X Y : Nat) : Int := pxA (pcT Q p).1 (pcT Q p).2.2 X Y
theorem pl_whole (Q m n x y : Nat) : plS Q (m, n, x, y) = ((sdF Q m n).1, (sdF Q m n).2, tuF Q m n x y, tvF Q m n x y) := by
  have h := plS_sd m n x y Q
  rw [← h]
  rfl
theorem sd_back {Q : Nat} (hQ : Q < 4) (m n : Nat) : sdF (4 - Q) (sdF Q m n).1 (sdF Q m n).2 = (m, n) := by
  unfold sdF
  by_cases e : Q % 2 = 0
  · rw [if_pos e, if_pos (by omega)]
  · rw [if_neg e, if_neg (by omega)]
theorem mv_turn (m n : Nat) (P : List Int) (hP : P.length = m * n) (Q : Nat) (hQ : Q < 4) : MvOK m n (sdF Q m n).1 (sdF Q m n).2 P (tuF Q m n) (tvF Q m n) (toF Q m n) (tgF Q (m, n, P)) := by
  have hin : ∀ x y, x < m → y < n → tuF Q m n x y < (sdF Q m n).1 ∧ tvF Q m n x y < (sdF Q m n).2 := by
    intro x y hx hy
    have h := plS_in hx hy Q
    rw [pl_whole] at h
    exact h
  have hbk : ∀ x y, x < m → y < n → plS (4 - Q) ((sdF Q m n).1, (sdF Q m n).2, tuF Q m n x y, tvF Q m n x y) = (m, n, x, y) := by
    intro x y hx hy
    rw [← pl_whole, plS_add, show 4 - Q + Q = 4 by omega, plS_4 hx hy]
  have hfw : ∀ X Y, X < (sdF Q m n).1 → Y < (sdF Q m n).2 → ∃ x y, x < m ∧ y < n ∧ plS (4 - Q) ((sdF Q m n).1, (sdF Q m n).2, X, Y) = (m, n, x, y) ∧ X = tuF Q m n x y ∧ Y = tvF Q m n x y := by
    intro X Y hX hY
    have h1 := plS_in hX hY (4 - Q)
    have h2 := plS_sd (sdF Q m n).1 (sdF Q m n).2 X Y (4 - Q)
    rw [sd_back hQ] at h2
    obtain ⟨⟨e, f, x, y⟩, hr⟩ : ∃ r, plS (4 - Q) ((sdF Q m n).1, (sdF Q m n).2, X, Y) = r := ⟨_, rfl⟩
    rw [hr] at h1 h2 ⊢
    injection h2 with h2 h3
    simp only at h1 h2 h3
    subst h2 h3
    refine ⟨x, y, h1.1, h1.2, rfl, ?_⟩
    have h4 := plS_4 hX hY
    rw [show 4 = Q + (4 - Q) by omega, ← plS_add, hr, pl_whole] at h4
    injection h4 with _ h4
    injection h4 with _ h4
    injection h4 with h4 h5
    exact ⟨h4.symm, h5.symm⟩
  refine ⟨?_, fun x y hx hy => (hin x y hx hy).1, fun x y hx hy => (hin x y hx hy).2, ?_, ?_, ?_, ?_⟩
  · unfold sdF
    split
    · rfl
    · exact Nat.mul_comm _ _
  · intro x y hx hy
    unfold toF
    rw [hbk x y hx hy]
  · intro X Y x y hX hY hx hy e
    obtain ⟨x', y', hx', hy', h1, h2, h3⟩ := hfw X Y hX hY
    unfold toF at e
    rw [h1] at e
    obtain ⟨rfl, rfl⟩ := px_inj hx' hx e
    exact ⟨h2, h3⟩
  · intro X Y hX hY
    obtain ⟨x', y', hx', hy', h1, h2, h3⟩ := hfw X Y hX hY
    unfold toF
    rw [h1]
    exact px_lt hx' hy'
  · intro x y hx hy
    obtain ⟨h1, h2, h3⟩ := plS_px (m, n, P) hx hy Q
    exact h3
/-- all points brought there: the picture turned -/
theorem mv_turned (m n : Nat) (P : List Int) (hP : P.length = m * n) (Q : Nat) : ((sdF Q m n).1, (sdF Q m n).2, mkP (sdF Q m n).1 (sdF Q m n).2 (tgF Q (m, n, P))) = pcT Q (m, n, P) := by
  have h := pcT_sd m n P Q
  have hf := pcT_f (p := (m, n, P)) hP Q
  unfold tgF
  rw [← h]
  exact Prod.ext rfl (Prod.ext rfl (mkP_self hf))
theorem mv_mirror (m n : Nat) (P : List Int) : MvOK m n m n P (fun x y => m - 1 - x) (fun x y => y) (fun X Y => Y * m + (m - 1 - X)) (fun X Y => pxA m P (m - 1 - X) Y) := by
  refine ⟨rfl, fun x y hx hy => by show m - 1 - x < m; omega, fun x y hx hy => hy, ?_, ?_, ?_, ?_⟩
  · intro x y hx hy
    show y * m + (m - 1 - (m - 1 - x)) = _
    rw [show m - 1 - (m - 1 - x) = x by omega]
  · intro X Y x y hX hY hx hy e
    obtain ⟨h1, h2⟩ := px_inj (show m - 1 - X < m by omega) hx e
    exact ⟨by show X = m - 1 - x; omega, h2⟩
  · intro X Y hX hY
    exact px_lt (show m - 1 - X < m by omega) hY
  · intro x y hx hy
    show pxA m P (m - 1 - (m - 1 - x)) y = _
    rw [show m - 1 - (m - 1 - x) = x by omega]

/-
  Package screen's sized, near, within, Formed, New, Light.
-/
theorem w_psized22 (W H : Int) (w : World) : Calls Try.prog 26 #[.int .i64 W, .int .i64 H] w fun e w' => e = .returned (.bool (szI W H)) ∧ w' = w := by
  unfold szI
  by_cases h1 : 0 ≤ W
  · by_cases h2 : W ≤ 64
    · by_cases h3 : 0 ≤ H
      · by_cases h4 : H ≤ 64
        · simp only [h1, h2, h3, h4, decide_true, Bool.and_true]
          go_enter Try.func26, Try.ntmps26
          go_wp2_with fail
          go_ret
          exact ⟨rfl, rfl⟩
        · simp only [h1, h2, h3, h4, decide_true, decide_false, Bool.and_true, Bool.and_false]
          go_enter Try.func26, Try.ntmps26
          go_wp2_with fail
          go_ret
          exact ⟨rfl, rfl⟩
      · simp only [h1, h2, h3, decide_true, decide_false, Bool.and_true, Bool.and_false, Bool.false_and]
        go_enter Try.func26, Try.ntmps26
        go_wp2_with fail
        go_ret
        exact ⟨rfl, rfl⟩
    · simp only [h1, h2, decide_true, decide_false, Bool.and_false, Bool.false_and]
      go_enter Try.func26, Try.ntmps26
      go_wp2_with fail
      go_ret
      exact ⟨rfl, rfl⟩
  · simp only [h1, decide_false, Bool.false_and]
    go_enter Try.func26, Try.ntmps26
    go_wp2_with fail
    go_ret
    exact ⟨rfl, rfl⟩

theorem w_pnear22 (x : Int) (w : World) : Calls Try.prog 36 #[.int .i64 x] w fun e w' => e = .returned (.bool (decide (-64 ≤ x) && decide (x ≤ 64))) ∧ w' = w := by
  by_cases h1 : -64 ≤ x
  · by_cases h2 : x ≤ 64
    · simp only [h1, h2, decide_true, Bool.and_true]
      go_enter Try.func36, Try.ntmps36
      go_wp2_with fail
      go_ret
      exact ⟨rfl, rfl⟩
    · simp only [h1, h2, decide_true, decide_false, Bool.and_false]
      go_enter Try.func36, Try.ntmps36
      go_wp2_with fail
      go_ret
      exact ⟨rfl, rfl⟩
  · simp only [h1, decide_false, Bool.false_and]
    go_enter Try.func36, Try.ntmps36
    go_wp2_with fail
    go_ret
    exact ⟨rfl, rfl⟩

theorem w_pwithin22 (W H x y : Int) (w : World) : Calls Try.prog 27 #[.int .i64 W, .int .i64 H, .int .i64 x, .int .i64 y] w fun e w' => e = .returned (.bool (decide (0 ≤ x) && decide (x < W) && decide (0 ≤ y) && decide (y < H))) ∧ w' = w := by
  by_cases h1 : 0 ≤ x
  · by_cases h2 : x < W
    · by_cases h3 : 0 ≤ y
      · by_cases h4 : y < H
        · simp only [h1, h2, h3, h4, decide_true, Bool.and_true]
          go_enter Try.func27, Try.ntmps27
          go_wp2_with fail
          go_ret
          exact ⟨rfl, rfl⟩
        · simp only [h1, h2, h3, h4, decide_true, decide_false, Bool.and_true, Bool.and_false, Bool.false_and]
          go_enter Try.func27, Try.ntmps27
          go_wp2_with fail
          go_ret
          exact ⟨rfl, rfl⟩
      · simp only [h1, h2, h3, decide_true, decide_false, Bool.and_true, Bool.and_false, Bool.false_and]
        go_enter Try.func27, Try.ntmps27
        go_wp2_with fail
        go_ret
        exact ⟨rfl, rfl⟩
    · simp only [h1, h2, decide_true, decide_false, Bool.and_true, Bool.and_false, Bool.false_and]
      go_enter Try.func27, Try.ntmps27
      go_wp2_with fail
      go_ret
      exact ⟨rfl, rfl⟩
  · simp only [h1, decide_true, decide_false, Bool.and_true, Bool.and_false, Bool.false_and]
    go_enter Try.func27, Try.ntmps27
    go_wp2_with fail
    go_ret
    exact ⟨rfl, rfl⟩

set_option maxHeartbeats 1000000 in
theorem w_pformed22a (W H : Int) (v : Value) (P : List Int) (w : World) (h : Rd .u8 w v P) (hz : P.length ≤ 140737488351232) :
    Calls Try.prog 20 #[.agg #[.int .i64 W, .int .i64 H, v]] w fun e w' => e = .returned (.bool (fmI (W, H, P))) ∧ Below w.heap.size w w' := by
  have BX := box_below w (.cells #[.int .i64 W, .int .i64 H, v] 28)
  have hlen := rd_len h uB (P := Try.prog)
  have cs := w_psized22 W H
  have hf : fmI (W, H, P) = (szI W H && decide ((P.length : Int) = W * H)) := rfl
  rw [hf]
  by_cases h1 : szI W H = true
  · obtain ⟨a, b, c, d⟩ := (szI_iff W H).1 h1
    have m0 : 0 ≤ W * H := Int.mul_nonneg a c
    have m1 : W * H ≤ 4096 := by
      have := Int.mul_le_mul b d c (show (0 : Int) ≤ 64 by omega)
      omega
    rw [h1] at cs ⊢
    have wm : IntKind.i64.wrap (W * H) = W * H := by rw [IntKind.wrap_i64]; omega
    by_cases h2 : (P.length : Int) = W * H
    · have hq : ((P.length : Int) == W * H) = true := by rw [beq_iff_eq]; exact h2
      rw [decide_eq_true h2]
      clear h2 h1 hf
      go_enter Try.func20, Try.ntmps20
      go_wp2_with (go_at_call 26; refine (cs _).mono ?_; rintro e w1 ⟨rfl, rfl⟩)
      go_ret
      exact ⟨rfl, BX⟩
    · have hq : ((P.length : Int) == W * H) = false := by rw [beq_eq_false_iff_ne]; exact h2
      rw [decide_eq_false h2]
      clear h2 h1 hf
      go_enter Try.func20, Try.ntmps20
      go_wp2_with (go_at_call 26; refine (cs _).mono ?_; rintro e w1 ⟨rfl, rfl⟩)
      go_ret
      exact ⟨rfl, BX⟩
  · have h1 : szI W H = false := by simpa using h1
    rw [h1] at cs ⊢
    clear h1 hf
    go_enter Try.func20, Try.ntmps20
    go_wp2_with (go_at_call 26; refine (cs _).mono ?_; rintro e w1 ⟨rfl, rfl⟩)
    go_ret
    exact ⟨rfl, BX⟩

set_option maxHeartbeats 1000000 in
theorem w_pnew22a (W H : Int) (w : World) :
    Calls Try.prog 12 #[.int .i64 W, .int .i64 H] w fun e w' => ∃ v, e = .returned (.tuple #[v, .int .i64 (nwI W H 1).2]) ∧ OwPc w.heap.size w' v (nwI W H 1).1 ∧ Below w.heap.size w w' := by
  have cs := w_psized22 W H
  have s0 := stands_new w #[.int .i64 0, .int .i64 0, .slice none 0 0] 28
  have bw := box_below w (.cells #[.int .i64 0, .int .i64 0, .slice none 0 0] 28)
  unfold nwI
  by_cases h1 : szI W H = true
  · rw [if_pos h1]
    obtain ⟨a, b, c, d⟩ := (szI_iff W H).1 h1
    rw [h1] at cs
    have m0 : 0 ≤ W * H := Int.mul_nonneg a c
    have m1 : W * H ≤ 4096 := by
      have := Int.mul_le_mul b d c (show (0 : Int) ≤ 64 by omega)
      omega
    obtain ⟨M, hM⟩ : ∃ M, W * H = M := ⟨_, rfl⟩
    rw [hM] at m0 m1 ⊢
    have wm : IntKind.i64.wrap (W * H) = M := by rw [hM, IntKind.wrap_i64]; omega
    have hmk := fun w => mk_zero M M.toNat (by omega) (by omega) w
    have hon := fun w => own_zero M.toNat (by unfold maxLen; omega) w
    have hbz := fun w : World => box_below w (.cells (madeCells #[.int .u8 0] M.toNat) 5)
    obtain ⟨n, hn⟩ : ∃ n, M.toNat = n := ⟨_, rfl⟩
    simp only [hn] at hmk hon hbz ⊢
    obtain ⟨Z, hZ⟩ : ∃ Z, madeCells #[.int .u8 0] n = Z := ⟨_, rfl⟩
    simp only [hZ] at hmk hon hbz
    clear h1 hM hn hZ
    go_enter Try.func12, Try.ntmps12
    go_upto_region 3 with (first | (go_at_call 26; refine (cs _).mono ?_; rintro e w1 ⟨rfl, hw⟩; obtain rfl := hw.symm) | fail)
    generalize w.alloc (.cells #[.int .i64 0, .int .i64 0, .slice none 0 0] 28) = W0 at s0 bw ⊢
    have s1 := s0.below (hbz W0)
    have zz0 := s1.cell 0 _ rfl
    have zz1 := s1.cell 1 _ rfl
    have zz2 := s1.cell 2 _ rfl
    have zf := s1.free
    go_wp2_with fail
    obtain ⟨g1, g2⟩ := set3q s1 (.int .i64 W) (.int .i64 H) (.slice (some ⟨W0.heap.size, 0, none⟩) n n)
    have J7 := below_set3 (below_trans bw (hbz W0)) w.heap.size (.int .i64 W) (.int .i64 H) (.slice (some ⟨W0.heap.size, 0, none⟩) n n) (Nat.le_refl _)
    (try simp only [Exit.inBlock, Exit.then])
    refine bodyPost_ret (res_row2 rfl _ _ w.heap.size 28 _ (0, 0) _ rfl g1 Try.underlying28 rfl infoPc) rfl ?_
    exact ⟨_, rfl, ⟨_, rfl, own8_base (g2 _ (own8_kept (by decide)) (hon W0)) bw.size⟩, J7⟩
  · have h1' : szI W H = false := by simpa using h1
    rw [if_neg h1]
    rw [h1'] at cs
    clear h1 h1'
    go_enter Try.func12, Try.ntmps12
    go_upto_region 2 with (first | (go_at_call 26; refine (cs _).mono ?_; rintro e w1 ⟨rfl, hw⟩; obtain rfl := hw.symm) | fail)
    generalize w.alloc (.cells #[.int .i64 0, .int .i64 0, .slice none 0 0] 28) = W0 at s0 bw ⊢
    have zz0 := s0.cell 0 _ rfl
    have zz1 := s0.cell 1 _ rfl
    have zz2 := s0.cell 2 _ rfl
    have zf := s0.free
    go_wp2_with fail
    obtain ⟨g1, g2⟩ := set3q s0 (.int .i64 0) (.int .i64 0) (.slice none 0 0)
    have J7 := below_set3 bw w.heap.size (.int .i64 0) (.int .i64 0) (.slice none 0 0) (Nat.le_refl _)
    (try simp only [Exit.inBlock, Exit.then])
    refine bodyPost_ret (res_row2 rfl _ _ w.heap.size 28 _ (0, 0) _ rfl g1 Try.underlying28 rfl infoPc) rfl ?_
    exact ⟨_, rfl, ⟨_, rfl, own8_nil _ _⟩, J7⟩

set_option maxHeartbeats 1000000 in
theorem w_plight22a (v : Value) (p : PicI) (w : World) (h : RdPc w v p) (hz : p.2.2.length ≤ 140737488351232) :
    Calls Try.prog 22 #[v] w fun e w' => e = .returned (.int .i64 (lgF p.2.2)) ∧ Below w.heap.size w w' := by
  obtain ⟨vP, rfl, r⟩ := h
  obtain ⟨W, H, P⟩ := p
  simp only at r hz ⊢
  have bx := box_below w (.cells #[.int .i64 W, .int .i64 H, vP] 28)
  have s0 := stands_new w #[.int .i64 W, .int .i64 H, vP] 28
  have z2 := s0.cell 2 _ rfl
  have hlen := rd_len r uB (P := Try.prog)
  have r1 := r.below bx
  clear r
  go_enter Try.func22, Try.ntmps22
  go_upto_region 1 with fail
  generalize w.alloc (.cells #[.int .i64 W, .int .i64 H, vP] 28) = W0 at bx z2 r1 ⊢
  clear s0
  go_wp2_with fail
  go_loopw [3, 5, 9] (fun N V I wx => ∃ k n : Nat, (k : Int) ≤ P.length ∧ I = .int .i64 k ∧ N = .int .i64 n ∧ n ≤ k ∧ Hid (lgF (P.take k) = n) ∧ wx = W0) (fun _ _ I _ => (P.length - intOf I).toNat)
  case atStart => exact ⟨0, 0, by omega, rfl, rfl, Nat.le_refl _, hid rfl, rfl⟩
  case round =>
    obtain ⟨k, n, hk, rfl, rfl, hnk, hn, hw0⟩ := hrel
    obtain rfl := hw0.symm
    by_cases hlt : (k : Int) < P.length
    · obtain ⟨a, i1, i2⟩ := rd_idx r1 uB zB k (by omega) hlt
      have hst := lg_take P (show k < P.length by omega)
      rw [hn.out] at hst
      rw [Int.toNat_natCast] at i2
      obtain ⟨c, hc⟩ : ∃ c, P.getD k 0 = c := ⟨_, rfl⟩
      rw [hc] at i2 hst
      clear hc
      unfold bL at hst
      by_cases hz0 : c = 0
      · rw [if_pos hz0] at hst
        have hst := hid hst
        subst hz0
        go_wp2_with fail
        go_roundw
        case rel => exact ⟨k + 1, n, by omega, by go_num, rfl, by omega, hst, trivial⟩
        case measure => simp [intOf]; omega
      · rw [if_neg hz0] at hst
        have hst := hid hst
        have hq : (c != 0) = true := by simpa using hz0
        clear hz0
        go_wp2_with fail
        go_roundw
        case rel => exact ⟨k + 1, n + 1, by omega, by go_num, by go_num, by omega, hst, trivial⟩
        case measure => simp [intOf]; omega
    · have hk2 : P.take k = P := List.take_of_length_le (by omega)
      have hR : Hid (lgF P = n) := by have := hn.out; rw [hk2] at this; exact this
      clear hn hk2
      go_wp2_with fail
      go_ret
      exact ⟨ret_i (by rw [hR.out]), bx⟩

/-
  Halves as floating-point numbers: sums, differences, products by powers of i, and the quotient by two, over few numbers and by kernel computation alone. No Go text in sight.
-/
/-- the bits of m halves -/
def hbN (m : Int) : Nat := FloatKind.f64.encode (.number (decide (m < 0)) m.natAbs (-1))
/-- the bits of a zero below -/
def nzN : Nat := 9223372036854775808
/-- bits that stand for m halves: of no halves there are two zeros -/
def vsN (m : Int) : List Nat := if m = 0 then [hbN 0, nzN] else [hbN m]
def okN (o : Option Nat) (m : Int) : Bool := match o with | some r => (vsN m).contains r | none => false
def rgN (lo : Int) (n : Nat) : List Int := (List.range n).map fun i : Nat => lo + (i : Int)
theorem rg_mem {lo m : Int} {n : Nat} (h1 : lo ≤ m) (h2 : m < lo + n) : m ∈ rgN lo n := by
  unfold rgN
  rw [List.mem_map]
  exact ⟨(m - lo).toNat, List.mem_range.2 (by omega), by omega⟩
theorem ok_some {o : Option Nat} {m : Int} (h : okN o m = true) : ∃ r, o = some r ∧ r ∈ vsN m := by
  unfold okN at h
  split at h
  · rename_i r
    exact ⟨r, rfl, by simpa using h⟩
  · cases h
theorem vs_self (m : Int) : hbN m ∈ vsN m := by
  unfold vsN
  split
  · rename_i h
    subst h
    exact List.mem_cons_self
  · exact List.mem_singleton.2 rfl

abbrev fq6 := FloatKind.f64.format
theorem k_int : (rgN (-1) 66).all (fun m => floatOfInt .f64 m == hbN (2 * m)) = true := by decide +kernel
theorem k_mul : (rgN (-64) 129).all (fun p => (rgN (-1) 3).all fun c => (vsN (2 * c)).all fun b => okN (fq6.mul (hbN p) b) (p * c)) = true := by decide +kernel
theorem k_out : (rgN 0 65).all (fun m => floatToIntVal .f64 (hbN (2 * m)) .i64 == some m) = true := by decide +kernel
theorem k_qu1 : absGe (hbN 4) 0 = true ∧ fq6.div 0 (hbN 4) = some 0 ∧ fq6.mul 0 0 = some 0 ∧ fq6.add (hbN 4) 0 = some (hbN 4) := by decide +kernel
theorem k_qu2 : (rgN (-1) 66).all (fun a => okN (fq6.mul (hbN (2 * a)) 0) 0 && (vsN 0).all (fun z => fq6.add (hbN (2 * a)) z == some (hbN (2 * a)) && fq6.sub (hbN (2 * a)) z == some (hbN (2 * a))) && fq6.div (hbN (2 * a)) (hbN 4) == some (hbN a) && !Op.Complex.isNaN (hbN a)) = true := by decide +kernel
theorem k_neg : (rgN (-64) 129).all (fun p => (vsN (-p)).contains (Op.negFloat .f64 (hbN p))) = true := by decide +kernel
/-- the powers of i, as bits -/
def pwN : Nat → Nat × Nat
  | 0 => (4607182418800017408, 0)
  | 1 => (0, 4607182418800017408)
  | 2 => (13830554455654793216, 0)
  | _ => (9223372036854775808, 13830554455654793216)
theorem k_pw : cMulBits (pwN 0).1 (pwN 0).2 0 4607182418800017408 = some (pwN 1) ∧ cMulBits (pwN 1).1 (pwN 1).2 0 4607182418800017408 = some (pwN 2) ∧ cMulBits (pwN 2).1 (pwN 2).2 0 4607182418800017408 = some (pwN 3) := by decide +kernel
theorem k_two : hbN 4 = 4611686018427387904 := by decide +kernel

/-
  Differences of halves, by kernel computation. No Go text in sight.
-/
theorem k_sub : (rgN 0 64).all (fun x => (rgN (-1) 65).all fun n => fq6.sub (hbN (2 * x)) (hbN n) == some (hbN (2 * x - n))) = true := by decide +kernel

/-
  Sums of halves, by kernel computation. No Go text in sight.
-/
theorem k_add : (rgN (-64) 129).all (fun p => (vsN p).all fun a => (rgN (-1) 65).all fun n => fq6.add a (hbN n) == some (hbN (p + n))) = true := by decide +kernel

/-
  Halves and zeros, by kernel computation. No Go text in sight.
-/
theorem k_dif : (rgN (-64) 129).all (fun p => (vsN p).all fun a => (vsN 0).all fun b => okN (fq6.sub a b) p && okN (fq6.sub b a) (-p) && okN (fq6.add a b) p && okN (fq6.add b a) p) = true := by decide +kernel

end Go.Proofs.Ythihkfimledccaa
