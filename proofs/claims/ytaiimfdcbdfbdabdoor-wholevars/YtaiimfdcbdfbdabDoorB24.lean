/-
  Texts of one proof, laid one behind the other: Vwv.
-/
import Derived.Test.YtaiimfdcbdfbdabDoorB23
import Derived.Deep.RegionHeld2
namespace Go.Proofs.YtaiimfdcbdfbdabDoor
open Go.ChangeShapes Go.WideShapes Go.ChangeAt Go.RowKit
set_option linter.unusedVariables false
set_option linter.unusedSimpArgs false

/-
  The law WholeVars.
-/
set_option maxRecDepth 100000

set_option maxHeartbeats 4000000 in
set_option maxRecDepth 100000 in
theorem w_wholeVars (v0 v1 v2 : Value) (x0 : List Int) (x1 : List Stt) (x2 : List Int) (w : World) (hT : Tab w) (r0 : Rd .u8 w v0 x0) (r1 : SlR 2 stR w v1 x1) (r2 : Rd .i64 w v2 x2) (hb0 : bytesL x0) (zz : x0.length ≤ 140737488351232) (hb2 : ∀ n ∈ x2, -9223372036854775808 ≤ n ∧ n < 9223372036854775808) :
    Calls Tryd.prog 5 #[v0, v1, v2] w fun e w' => e = .returned (.bool true) ∧ Below w.heap.size w w' := by
  have hl1 := slr_len r1 uSt (P := Tryd.prog)
  have hl2 := rd_len r2 uI (P := Tryd.prog)
  by_cases hm : (30 : Int) < x1.length
  · go_enter Tryd.func5, Tryd.ntmps5
    go_wp2_with (go_at_call 15; refine (w_keeps19 _ hT).mono ?_; rintro e q1 ⟨rfl, b1⟩)
    go_ret
    exact ⟨rfl, b1⟩
  · have cL0 := fun w hT h => w_pload19 v0 x0 w hT h hb0 zz
    go_enter Tryd.func5, Tryd.ntmps5
    go_wp2_with (first
      | (go_at_call 15; refine (w_keeps19 _ hT).mono ?_; rintro e q1 ⟨rfl, b1⟩)
      | (go_at_call 11; refine (cL0 _ (hT.below b1) (r0.below b1)).mono ?_; rintro e q2 ⟨v3, rfl, r3, b2⟩; have b12 := below_trans b1 b2))
    go_loopw [0, 7, 8] (fun V0 V7 I wx => ∃ (k : Nat) (N : List Int) (L : List Stt), k ≤ x1.length ∧ I = .int .i64 k ∧ bytesL N ∧ Hid (N.length = x0.length) ∧ Rd .u8 wx V0 N ∧ SlR 2 stR wx V7 L ∧ Hid ((vaDe (rcvF N).1).1 = L) ∧ Below w.heap.size w wx) (fun _ _ I _ => (x1.length - intOf I).toNat)
    case atStart => exact ⟨0, x0, _, by omega, rfl, hb0, hid rfl, r0.below b12, r3, hid rfl, b12⟩
    case round =>
      clear cL0 r3 b12 b1 b2
      obtain ⟨k, N, L, hk, rfl, hNb, hNl, rN, rL, hNL, hg⟩ := hrel
      by_cases hlt : (k : Int) < x1.length
      · obtain ⟨zb, zo, A, V, ri, e0, e1, _, zA, zV⟩ := st_at r1 k (by omega)
        have E0 := hid (fun W (h : Below w.heap.size w W) => below_cell h e0)
        have E1 := hid (fun W (h : Below w.heap.size w W) => below_cell h e1)
        have cS := fun vl w hT h => w_pset19 vl L A V w hT h zV
        have cV := fun vn vl w hT h hl => w_psave19 vn vl N (vaS L A V).1 w hT h hNb hl (by have := hNl.out; omega)
        by_cases hE : (vaS L A V).2 = 0
        · obtain ⟨⟨M, E⟩, hM⟩ : ∃ m, vaS L A V = m := ⟨_, rfl⟩
          simp only [hM] at cS cV hE
          subst hE
          clear hM
          by_cases hF : (vaSv N M).2 = 0
          · obtain ⟨R, hR, ⟨_, hRl, h512⟩, hA, hN, hO⟩ := sv_cut hNb hF
            simp only [hR] at cV
            clear hR hF
            by_cases hc : (k : Int) < x2.length
            · obtain ⟨ac, j1, j2⟩ := rd_idx r2 uI zI k (by omega) hc
              obtain ⟨C, hC⟩ : ∃ C, x2.getD (k : Int).toNat 0 = C := ⟨_, rfl⟩
              have hCb := hb2 C (by rw [← hC, List.getD_eq_getElem?_getD, List.getElem?_eq_getElem (by omega)]; simp)
              rw [hC] at j2
              obtain ⟨C0, C1⟩ := hCb
              clear hC
              by_cases hn : (R.length : Int) ≤ C
              · skip
                have cA := fun vn v3 w h rl => w_papply18 vn v3 N R C w h rl (by omega) (by omega) (by omega)
                obtain ⟨aL, aB⟩ := hA C
                have cL := fun v w hT h => w_pload19 v (aplF N R C) w hT h aB (by rw [aL]; decide)
                rw [hN C (by omega)] at cL
                have hnl : Hid ((vaDe (rcvF (aplF N R C)).1).1 = M) := hN C (by omega)
                obtain ⟨Q, hQ⟩ : ∃ Q, aplF N R C = Q := ⟨_, rfl⟩
                rw [hQ] at aL aB hnl
                simp only [hQ] at cA cL
                have AL : Hid (Q.length = x0.length) := aL.trans (h512.symm.trans hNl.out)
                clear hQ hA hN hO aL
                have jy := hid (fun W (g : Below w.heap.size w W) => below_cell g j2)
                have HS : Hid (∀ W, Below wr.heap.size wr W → (W.cell? ⟨zb, zo, none⟩ = some (.string A) ∧ W.cell? ⟨zb, zo + 1, none⟩ = some (.string V))) := fun W g => ⟨E0.out _ (below_trans hg g), E1.out _ (below_trans hg g)⟩
                have hrd : Hid (Below wr.heap.size wr wr.drew) := below_drewN (Below.refl _ _) 1
                have RL := hid rL
                have RN := hid rN
                have CS := hid cS
                clear cS rL rN e0 e1
                go_upto_region 9 with fail
                refine wp_region_held_drew (S := fun W => W.cell? ⟨zb, zo, none⟩ = some (.string A) ∧ W.cell? ⟨zb, zo + 1, none⟩ = some (.string V)) (by kernel_rfl) (HS.out _ hrd.out) (fun hHeld => ?_)
                refine wpAnyH_take (i := 0) (v := ?v1) rfl (by kernel_rfl) (by kernel_rfl) (by kernel_rfl) (fun _ _ _ h => h) (Or.inl ⟨by kernel_rfl, ?h1⟩) hHeld ?r1
                case h1 => intro W hSw; (try dsimp only at hSw); obtain ⟨z1, z2⟩ := hSw; go_simp; try with_reducible rfl
                simp only [Act.put, List.setIfInBounds_toArray, List.set_cons_zero, List.set_cons_succ]
                refine wpAnyH_take (i := 1) (v := ?v2) rfl (by kernel_rfl) (by kernel_rfl) (by kernel_rfl) (fun _ _ _ h => h) (Or.inl ⟨by kernel_rfl, ?h2⟩) hHeld ?r2
                case h2 => intro W hSw; (try dsimp only at hSw); obtain ⟨z1, z2⟩ := hSw; go_simp; try with_reducible rfl
                simp only [Act.put, List.setIfInBounds_toArray, List.set_cons_zero, List.set_cons_succ]
                refine wpAnyH_take (i := 2) (v := ?v3) rfl (by kernel_rfl) (by kernel_rfl) (by kernel_rfl) (fun _ _ _ h => h) (Or.inl ⟨by kernel_rfl, ?h3⟩) hHeld ?r3
                case h3 => intro W hSw; (try dsimp only at hSw); obtain ⟨z1, z2⟩ := hSw; go_simp; try with_reducible rfl
                simp only [Act.put, List.setIfInBounds_toArray, List.set_cons_zero, List.set_cons_succ]
                refine wpAnyH_take (i := 3) (v := ?v4) rfl (by kernel_rfl) (by kernel_rfl) (by kernel_rfl) (fun _ _ _ h => h) (Or.inl ⟨by kernel_rfl, ?h4⟩) hHeld ?r4
                case h4 => intro W hSw; (try dsimp only at hSw); obtain ⟨z1, z2⟩ := hSw; go_simp; try with_reducible rfl
                simp only [Act.put, List.setIfInBounds_toArray, List.set_cons_zero, List.set_cons_succ]
                refine wpAnyH_take (i := 4) (v := ?v5) rfl (by kernel_rfl) (by kernel_rfl) (by kernel_rfl) (fun _ _ _ h => h) (Or.inl ⟨by kernel_rfl, ?h5⟩) hHeld ?r5
                case h5 => intro W hSw; (try dsimp only at hSw); obtain ⟨z1, z2⟩ := hSw; go_simp; try with_reducible rfl
                simp only [Act.put, List.setIfInBounds_toArray, List.set_cons_zero, List.set_cons_succ]
                refine wpAnyH_take (i := 5) (v := ?v6) rfl (by kernel_rfl) (by kernel_rfl) (by kernel_rfl) (fun _ _ _ h => h) (Or.inl ⟨by kernel_rfl, ?h6⟩) hHeld ?r6
                case h6 => intro W hSw; (try dsimp only at hSw); obtain ⟨z1, z2⟩ := hSw; go_simp; try with_reducible rfl
                simp only [Act.put, List.setIfInBounds_toArray, List.set_cons_zero, List.set_cons_succ]
                refine wpAnyH_take (i := 6) (v := ?v7) rfl (by kernel_rfl) (by kernel_rfl) (by kernel_rfl) (fun _ _ _ h => h) (Or.inl ⟨by kernel_rfl, ?h7⟩) hHeld ?r7
                case h7 => intro W hSw; (try dsimp only at hSw); obtain ⟨z1, z2⟩ := hSw; go_simp; try with_reducible rfl
                simp only [Act.put, List.setIfInBounds_toArray, List.set_cons_zero, List.set_cons_succ]
                refine wpAnyH_take (i := 7) (v := ?v8) rfl (by kernel_rfl) (by kernel_rfl) (by kernel_rfl) (fun _ _ _ h => h) (Or.inl ⟨by kernel_rfl, ?h8⟩) hHeld ?r8
                case h8 => intro W hSw; (try dsimp only at hSw); obtain ⟨z1, z2⟩ := hSw; go_simp; try with_reducible rfl
                simp only [Act.put, List.setIfInBounds_toArray, List.set_cons_zero, List.set_cons_succ]
                refine wpAnyH_take (i := 8) (v := ?v9) rfl (by kernel_rfl) (by kernel_rfl) (by kernel_rfl) (fun _ _ _ h => h) (Or.inl ⟨by kernel_rfl, ?h9⟩) hHeld ?r9
                case h9 => intro W hSw; (try dsimp only at hSw); obtain ⟨z1, z2⟩ := hSw; go_simp; try with_reducible rfl
                simp only [Act.put, List.setIfInBounds_toArray, List.set_cons_zero, List.set_cons_succ]
                refine wpAnyH_take (i := 9) (v := ?v10) rfl (by kernel_rfl) (by kernel_rfl) (by kernel_rfl) (fun _ _ _ h => h) (Or.inl ⟨by kernel_rfl, ?h10⟩) hHeld ?r10
                case h10 => intro W hSw; (try dsimp only at hSw); obtain ⟨z1, z2⟩ := hSw; go_simp; try with_reducible rfl
                simp only [Act.put, List.setIfInBounds_toArray, List.set_cons_zero, List.set_cons_succ]
                refine wpAnyH_take (i := 10) (v := ?v11) rfl (by kernel_rfl) (by kernel_rfl) (by kernel_rfl) (fun _ _ _ h => h) (Or.inl ⟨by kernel_rfl, ?h11⟩) hHeld ?r11
                case h11 => intro W hSw; (try dsimp only at hSw); obtain ⟨z1, z2⟩ := hSw; go_simp; try with_reducible rfl
                simp only [Act.put, List.setIfInBounds_toArray, List.set_cons_zero, List.set_cons_succ]
                refine wpAnyH_ready (rs := [11]) (by kernel_rfl) (by simp) ?_
                refine AllReadyH.cons rfl (fun K hK => ?_) AllReadyH.nil
                go_simp
                go_wp2_with (first | (go_at_call 16; refine (CS.out _ _ (hT.below (below_trans hg hrd.out)) (RL.out.below hrd.out stR_below)).mono ?_; rintro e w9 ⟨v9, rfl, r9, b9⟩; have R9 : Hid (Below wr.heap.size wr w9) := below_trans hrd.out b9))
                refine hK.out _ _ (HS.out _ R9.out) (fun hHeld => ?_)
                clear hK K
                (try simp only [Act.put, List.setIfInBounds_toArray, List.set_cons_zero, List.set_cons_succ])
                refine wpAnyH_take (i := 12) (v := ?v12) rfl (by kernel_rfl) (by kernel_rfl) (by kernel_rfl) (fun _ _ _ h => h) (Or.inl ⟨by kernel_rfl, ?h12⟩) hHeld ?r12
                case h12 => intro W hSw; (try dsimp only at hSw); obtain ⟨z1, z2⟩ := hSw; go_simp; try with_reducible rfl
                simp only [Act.put, List.setIfInBounds_toArray, List.set_cons_zero, List.set_cons_succ]
                refine wpAnyH_take (i := 13) (v := ?v13) rfl (by kernel_rfl) (by kernel_rfl) (by kernel_rfl) (fun _ _ _ h => h) (Or.inl ⟨by kernel_rfl, ?h13⟩) hHeld ?r13
                case h13 => intro W hSw; (try dsimp only at hSw); obtain ⟨z1, z2⟩ := hSw; go_simp; try with_reducible rfl
                simp only [Act.put, List.setIfInBounds_toArray, List.set_cons_zero, List.set_cons_succ]
                refine wpAnyH_take (i := 14) (v := ?v14) rfl (by kernel_rfl) (by kernel_rfl) (by kernel_rfl) (fun _ _ _ h => h) (Or.inl ⟨by kernel_rfl, ?h14⟩) hHeld ?r14
                case h14 => intro W hSw; (try dsimp only at hSw); obtain ⟨z1, z2⟩ := hSw; go_simp; try with_reducible rfl
                simp only [Act.put, List.setIfInBounds_toArray, List.set_cons_zero, List.set_cons_succ]
                refine wpAnyH_ready (rs := [15]) (by kernel_rfl) (by simp) ?_
                refine AllReadyH.cons rfl (fun K hK => ?_) AllReadyH.nil
                go_simp
                refine hK.out _ _ (HS.out _ R9.out) (fun hHeld => ?_)
                clear hK K
                (try simp only [Act.put, List.setIfInBounds_toArray, List.set_cons_zero, List.set_cons_succ])
                refine wpAnyH_ready (rs := [16]) (by kernel_rfl) (by simp) ?_
                refine AllReadyH.cons rfl (fun K hK => ?_) AllReadyH.nil
                go_simp
                refine hK.out _ _ (HS.out _ R9.out) (fun hHeld => ?_)
                clear hK K
                (try simp only [Act.put, List.setIfInBounds_toArray, List.set_cons_zero, List.set_cons_succ])
                refine wpAnyH_done (by kernel_rfl) ?_ _
                have hg9 := below_trans hg R9.out
                have rN9 := RN.out.below R9.out
                have rL9 := RL.out.below R9.out stR_below
                go_upto_region 12 with (first | (go_at_call 8; refine (cV _ _ _ (hT.below hg9) rN9 r9).mono ?_; rintro e w10 ⟨v10, rfl, r10, b10⟩) | fail)
                have hl10 := slr_len r10 uPb (P := Tryd.prog)
                have hg10 := below_trans hg9 b10
                have rN10 := rN9.below b10
                have rL10 := rL9.below b10 stR_below
                have r910 := r9.below b10 stR_below
                have j3 := jy.out _ hg10
                go_wp2_with (first
                  | (go_at_call 14; refine (cA _ _ _ rN10 r10).mono ?_; rintro e w11 ⟨v11, rfl, o11, b11⟩; have r11 := (Rd_own o11).1)
                  | (go_at_call 11; refine (cL _ _ (hT.below (below_trans hg10 b11)) r11).mono ?_; rintro e w12 ⟨v12, rfl, r12, b12⟩; have g12 := below_trans b11 b12)
                  | (go_at_call 10; refine (w_rsame19 v12 _ M M _ r12 (r910.below g12 stR_below)).mono ?_; rintro e w13 ⟨hs, b13⟩; rw [decide_eq_true rfl] at hs; subst hs))
                go_roundw
                case rel => exact ⟨k + 1, Q, M, by omega, by go_num, aB, AL, r11.below (below_trans b12 b13), r910.below (below_trans g12 b13) stR_below, hnl, below_trans hg10 (below_trans g12 b13)⟩
                case measure => simp [intOf]; omega
              · skip
                have cA := fun vn v3 w h rl => w_papply18 vn v3 N R C w h rl (by omega) (by omega) (by omega)
                obtain ⟨aL, aB⟩ := hA C
                have cL := fun v w hT h => w_pload19 v (aplF N R C) w hT h aB (by rw [aL]; decide)
                rw [hO C (by omega)] at cL
                rw [hNL.out] at cL
                have hnl : Hid ((vaDe (rcvF (aplF N R C)).1).1 = L) := (hO C (by omega)).trans hNL.out
                obtain ⟨Q, hQ⟩ : ∃ Q, aplF N R C = Q := ⟨_, rfl⟩
                rw [hQ] at aL aB hnl
                simp only [hQ] at cA cL
                have AL : Hid (Q.length = x0.length) := aL.trans (h512.symm.trans hNl.out)
                clear hQ hA hN hO aL
                have jy := hid (fun W (g : Below w.heap.size w W) => below_cell g j2)
                have HS : Hid (∀ W, Below wr.heap.size wr W → (W.cell? ⟨zb, zo, none⟩ = some (.string A) ∧ W.cell? ⟨zb, zo + 1, none⟩ = some (.string V))) := fun W g => ⟨E0.out _ (below_trans hg g), E1.out _ (below_trans hg g)⟩
                have hrd : Hid (Below wr.heap.size wr wr.drew) := below_drewN (Below.refl _ _) 1
                have RL := hid rL
                have RN := hid rN
                have CS := hid cS
                clear cS rL rN e0 e1
                go_upto_region 9 with fail
                refine wp_region_held_drew (S := fun W => W.cell? ⟨zb, zo, none⟩ = some (.string A) ∧ W.cell? ⟨zb, zo + 1, none⟩ = some (.string V)) (by kernel_rfl) (HS.out _ hrd.out) (fun hHeld => ?_)
                refine wpAnyH_take (i := 0) (v := ?v15) rfl (by kernel_rfl) (by kernel_rfl) (by kernel_rfl) (fun _ _ _ h => h) (Or.inl ⟨by kernel_rfl, ?h15⟩) hHeld ?r15
                case h15 => intro W hSw; (try dsimp only at hSw); obtain ⟨z1, z2⟩ := hSw; go_simp; try with_reducible rfl
                simp only [Act.put, List.setIfInBounds_toArray, List.set_cons_zero, List.set_cons_succ]
                refine wpAnyH_take (i := 1) (v := ?v16) rfl (by kernel_rfl) (by kernel_rfl) (by kernel_rfl) (fun _ _ _ h => h) (Or.inl ⟨by kernel_rfl, ?h16⟩) hHeld ?r16
                case h16 => intro W hSw; (try dsimp only at hSw); obtain ⟨z1, z2⟩ := hSw; go_simp; try with_reducible rfl
                simp only [Act.put, List.setIfInBounds_toArray, List.set_cons_zero, List.set_cons_succ]
                refine wpAnyH_take (i := 2) (v := ?v17) rfl (by kernel_rfl) (by kernel_rfl) (by kernel_rfl) (fun _ _ _ h => h) (Or.inl ⟨by kernel_rfl, ?h17⟩) hHeld ?r17
                case h17 => intro W hSw; (try dsimp only at hSw); obtain ⟨z1, z2⟩ := hSw; go_simp; try with_reducible rfl
                simp only [Act.put, List.setIfInBounds_toArray, List.set_cons_zero, List.set_cons_succ]
                refine wpAnyH_take (i := 3) (v := ?v18) rfl (by kernel_rfl) (by kernel_rfl) (by kernel_rfl) (fun _ _ _ h => h) (Or.inl ⟨by kernel_rfl, ?h18⟩) hHeld ?r18
                case h18 => intro W hSw; (try dsimp only at hSw); obtain ⟨z1, z2⟩ := hSw; go_simp; try with_reducible rfl
                simp only [Act.put, List.setIfInBounds_toArray, List.set_cons_zero, List.set_cons_succ]
                refine wpAnyH_take (i := 4) (v := ?v19) rfl (by kernel_rfl) (by kernel_rfl) (by kernel_rfl) (fun _ _ _ h => h) (Or.inl ⟨by kernel_rfl, ?h19⟩) hHeld ?r19
                case h19 => intro W hSw; (try dsimp only at hSw); obtain ⟨z1, z2⟩ := hSw; go_simp; try with_reducible rfl
                simp only [Act.put, List.setIfInBounds_toArray, List.set_cons_zero, List.set_cons_succ]
                refine wpAnyH_take (i := 5) (v := ?v20) rfl (by kernel_rfl) (by kernel_rfl) (by kernel_rfl) (fun _ _ _ h => h) (Or.inl ⟨by kernel_rfl, ?h20⟩) hHeld ?r20
                case h20 => intro W hSw; (try dsimp only at hSw); obtain ⟨z1, z2⟩ := hSw; go_simp; try with_reducible rfl
                simp only [Act.put, List.setIfInBounds_toArray, List.set_cons_zero, List.set_cons_succ]
                refine wpAnyH_take (i := 6) (v := ?v21) rfl (by kernel_rfl) (by kernel_rfl) (by kernel_rfl) (fun _ _ _ h => h) (Or.inl ⟨by kernel_rfl, ?h21⟩) hHeld ?r21
                case h21 => intro W hSw; (try dsimp only at hSw); obtain ⟨z1, z2⟩ := hSw; go_simp; try with_reducible rfl
                simp only [Act.put, List.setIfInBounds_toArray, List.set_cons_zero, List.set_cons_succ]
                refine wpAnyH_take (i := 7) (v := ?v22) rfl (by kernel_rfl) (by kernel_rfl) (by kernel_rfl) (fun _ _ _ h => h) (Or.inl ⟨by kernel_rfl, ?h22⟩) hHeld ?r22
                case h22 => intro W hSw; (try dsimp only at hSw); obtain ⟨z1, z2⟩ := hSw; go_simp; try with_reducible rfl
                simp only [Act.put, List.setIfInBounds_toArray, List.set_cons_zero, List.set_cons_succ]
                refine wpAnyH_take (i := 8) (v := ?v23) rfl (by kernel_rfl) (by kernel_rfl) (by kernel_rfl) (fun _ _ _ h => h) (Or.inl ⟨by kernel_rfl, ?h23⟩) hHeld ?r23
                case h23 => intro W hSw; (try dsimp only at hSw); obtain ⟨z1, z2⟩ := hSw; go_simp; try with_reducible rfl
                simp only [Act.put, List.setIfInBounds_toArray, List.set_cons_zero, List.set_cons_succ]
                refine wpAnyH_take (i := 9) (v := ?v24) rfl (by kernel_rfl) (by kernel_rfl) (by kernel_rfl) (fun _ _ _ h => h) (Or.inl ⟨by kernel_rfl, ?h24⟩) hHeld ?r24
                case h24 => intro W hSw; (try dsimp only at hSw); obtain ⟨z1, z2⟩ := hSw; go_simp; try with_reducible rfl
                simp only [Act.put, List.setIfInBounds_toArray, List.set_cons_zero, List.set_cons_succ]
                refine wpAnyH_take (i := 10) (v := ?v25) rfl (by kernel_rfl) (by kernel_rfl) (by kernel_rfl) (fun _ _ _ h => h) (Or.inl ⟨by kernel_rfl, ?h25⟩) hHeld ?r25
                case h25 => intro W hSw; (try dsimp only at hSw); obtain ⟨z1, z2⟩ := hSw; go_simp; try with_reducible rfl
                simp only [Act.put, List.setIfInBounds_toArray, List.set_cons_zero, List.set_cons_succ]
                refine wpAnyH_ready (rs := [11]) (by kernel_rfl) (by simp) ?_
                refine AllReadyH.cons rfl (fun K hK => ?_) AllReadyH.nil
                go_simp
                go_wp2_with (first | (go_at_call 16; refine (CS.out _ _ (hT.below (below_trans hg hrd.out)) (RL.out.below hrd.out stR_below)).mono ?_; rintro e w9 ⟨v9, rfl, r9, b9⟩; have R9 : Hid (Below wr.heap.size wr w9) := below_trans hrd.out b9))
                refine hK.out _ _ (HS.out _ R9.out) (fun hHeld => ?_)
                clear hK K
                (try simp only [Act.put, List.setIfInBounds_toArray, List.set_cons_zero, List.set_cons_succ])
                refine wpAnyH_take (i := 12) (v := ?v26) rfl (by kernel_rfl) (by kernel_rfl) (by kernel_rfl) (fun _ _ _ h => h) (Or.inl ⟨by kernel_rfl, ?h26⟩) hHeld ?r26
                case h26 => intro W hSw; (try dsimp only at hSw); obtain ⟨z1, z2⟩ := hSw; go_simp; try with_reducible rfl
                simp only [Act.put, List.setIfInBounds_toArray, List.set_cons_zero, List.set_cons_succ]
                refine wpAnyH_take (i := 13) (v := ?v27) rfl (by kernel_rfl) (by kernel_rfl) (by kernel_rfl) (fun _ _ _ h => h) (Or.inl ⟨by kernel_rfl, ?h27⟩) hHeld ?r27
                case h27 => intro W hSw; (try dsimp only at hSw); obtain ⟨z1, z2⟩ := hSw; go_simp; try with_reducible rfl
                simp only [Act.put, List.setIfInBounds_toArray, List.set_cons_zero, List.set_cons_succ]
                refine wpAnyH_take (i := 14) (v := ?v28) rfl (by kernel_rfl) (by kernel_rfl) (by kernel_rfl) (fun _ _ _ h => h) (Or.inl ⟨by kernel_rfl, ?h28⟩) hHeld ?r28
                case h28 => intro W hSw; (try dsimp only at hSw); obtain ⟨z1, z2⟩ := hSw; go_simp; try with_reducible rfl
                simp only [Act.put, List.setIfInBounds_toArray, List.set_cons_zero, List.set_cons_succ]
                refine wpAnyH_ready (rs := [15]) (by kernel_rfl) (by simp) ?_
                refine AllReadyH.cons rfl (fun K hK => ?_) AllReadyH.nil
                go_simp
                refine hK.out _ _ (HS.out _ R9.out) (fun hHeld => ?_)
                clear hK K
                (try simp only [Act.put, List.setIfInBounds_toArray, List.set_cons_zero, List.set_cons_succ])
                refine wpAnyH_ready (rs := [16]) (by kernel_rfl) (by simp) ?_
                refine AllReadyH.cons rfl (fun K hK => ?_) AllReadyH.nil
                go_simp
                refine hK.out _ _ (HS.out _ R9.out) (fun hHeld => ?_)
                clear hK K
                (try simp only [Act.put, List.setIfInBounds_toArray, List.set_cons_zero, List.set_cons_succ])
                refine wpAnyH_done (by kernel_rfl) ?_ _
                have hg9 := below_trans hg R9.out
                have rN9 := RN.out.below R9.out
                have rL9 := RL.out.below R9.out stR_below
                go_upto_region 12 with (first | (go_at_call 8; refine (cV _ _ _ (hT.below hg9) rN9 r9).mono ?_; rintro e w10 ⟨v10, rfl, r10, b10⟩) | fail)
                have hl10 := slr_len r10 uPb (P := Tryd.prog)
                have hg10 := below_trans hg9 b10
                have rN10 := rN9.below b10
                have rL10 := rL9.below b10 stR_below
                have r910 := r9.below b10 stR_below
                have j3 := jy.out _ hg10
                go_wp2_with (first
                  | (go_at_call 14; refine (cA _ _ _ rN10 r10).mono ?_; rintro e w11 ⟨v11, rfl, o11, b11⟩; have r11 := (Rd_own o11).1)
                  | (go_at_call 11; refine (cL _ _ (hT.below (below_trans hg10 b11)) r11).mono ?_; rintro e w12 ⟨v12, rfl, r12, b12⟩; have g12 := below_trans b11 b12)
                  | (go_at_call 10; refine (w_rsame19 v12 _ L L _ r12 (rL10.below g12 stR_below)).mono ?_; rintro e w13 ⟨hs, b13⟩; rw [decide_eq_true rfl] at hs; subst hs))
                go_roundw
                case rel => exact ⟨k + 1, Q, L, by omega, by go_num, aB, AL, r11.below (below_trans b12 b13), rL10.below (below_trans g12 b13) stR_below, hnl, below_trans hg10 (below_trans g12 b13)⟩
                case measure => simp [intOf]; omega
            · skip
              have cA := fun vn v3 w h rl => w_papply18 vn v3 N R R.length w h rl (by omega) (by omega) (by omega)
              obtain ⟨aL, aB⟩ := hA R.length
              have cL := fun v w hT h => w_pload19 v (aplF N R R.length) w hT h aB (by rw [aL]; decide)
              rw [hN R.length (by omega)] at cL
              have hnl : Hid ((vaDe (rcvF (aplF N R R.length)).1).1 = M) := hN R.length (by omega)
              obtain ⟨Q, hQ⟩ : ∃ Q, aplF N R R.length = Q := ⟨_, rfl⟩
              rw [hQ] at aL aB hnl
              simp only [hQ] at cA cL
              have AL : Hid (Q.length = x0.length) := aL.trans (h512.symm.trans hNl.out)
              clear hQ hA hN hO aL
              have HS : Hid (∀ W, Below wr.heap.size wr W → (W.cell? ⟨zb, zo, none⟩ = some (.string A) ∧ W.cell? ⟨zb, zo + 1, none⟩ = some (.string V))) := fun W g => ⟨E0.out _ (below_trans hg g), E1.out _ (below_trans hg g)⟩
              have hrd : Hid (Below wr.heap.size wr wr.drew) := below_drewN (Below.refl _ _) 1
              have RL := hid rL
              have RN := hid rN
              have CS := hid cS
              clear cS rL rN e0 e1
              go_upto_region 9 with fail
              refine wp_region_held_drew (S := fun W => W.cell? ⟨zb, zo, none⟩ = some (.string A) ∧ W.cell? ⟨zb, zo + 1, none⟩ = some (.string V)) (by kernel_rfl) (HS.out _ hrd.out) (fun hHeld => ?_)
              refine wpAnyH_take (i := 0) (v := ?v29) rfl (by kernel_rfl) (by kernel_rfl) (by kernel_rfl) (fun _ _ _ h => h) (Or.inl ⟨by kernel_rfl, ?h29⟩) hHeld ?r29
              case h29 => intro W hSw; (try dsimp only at hSw); obtain ⟨z1, z2⟩ := hSw; go_simp; try with_reducible rfl
              simp only [Act.put, List.setIfInBounds_toArray, List.set_cons_zero, List.set_cons_succ]
              refine wpAnyH_take (i := 1) (v := ?v30) rfl (by kernel_rfl) (by kernel_rfl) (by kernel_rfl) (fun _ _ _ h => h) (Or.inl ⟨by kernel_rfl, ?h30⟩) hHeld ?r30
              case h30 => intro W hSw; (try dsimp only at hSw); obtain ⟨z1, z2⟩ := hSw; go_simp; try with_reducible rfl
              simp only [Act.put, List.setIfInBounds_toArray, List.set_cons_zero, List.set_cons_succ]
              refine wpAnyH_take (i := 2) (v := ?v31) rfl (by kernel_rfl) (by kernel_rfl) (by kernel_rfl) (fun _ _ _ h => h) (Or.inl ⟨by kernel_rfl, ?h31⟩) hHeld ?r31
              case h31 => intro W hSw; (try dsimp only at hSw); obtain ⟨z1, z2⟩ := hSw; go_simp; try with_reducible rfl
              simp only [Act.put, List.setIfInBounds_toArray, List.set_cons_zero, List.set_cons_succ]
              refine wpAnyH_take (i := 3) (v := ?v32) rfl (by kernel_rfl) (by kernel_rfl) (by kernel_rfl) (fun _ _ _ h => h) (Or.inl ⟨by kernel_rfl, ?h32⟩) hHeld ?r32
              case h32 => intro W hSw; (try dsimp only at hSw); obtain ⟨z1, z2⟩ := hSw; go_simp; try with_reducible rfl
              simp only [Act.put, List.setIfInBounds_toArray, List.set_cons_zero, List.set_cons_succ]
              refine wpAnyH_take (i := 4) (v := ?v33) rfl (by kernel_rfl) (by kernel_rfl) (by kernel_rfl) (fun _ _ _ h => h) (Or.inl ⟨by kernel_rfl, ?h33⟩) hHeld ?r33
              case h33 => intro W hSw; (try dsimp only at hSw); obtain ⟨z1, z2⟩ := hSw; go_simp; try with_reducible rfl
              simp only [Act.put, List.setIfInBounds_toArray, List.set_cons_zero, List.set_cons_succ]
              refine wpAnyH_take (i := 5) (v := ?v34) rfl (by kernel_rfl) (by kernel_rfl) (by kernel_rfl) (fun _ _ _ h => h) (Or.inl ⟨by kernel_rfl, ?h34⟩) hHeld ?r34
              case h34 => intro W hSw; (try dsimp only at hSw); obtain ⟨z1, z2⟩ := hSw; go_simp; try with_reducible rfl
              simp only [Act.put, List.setIfInBounds_toArray, List.set_cons_zero, List.set_cons_succ]
              refine wpAnyH_take (i := 6) (v := ?v35) rfl (by kernel_rfl) (by kernel_rfl) (by kernel_rfl) (fun _ _ _ h => h) (Or.inl ⟨by kernel_rfl, ?h35⟩) hHeld ?r35
              case h35 => intro W hSw; (try dsimp only at hSw); obtain ⟨z1, z2⟩ := hSw; go_simp; try with_reducible rfl
              simp only [Act.put, List.setIfInBounds_toArray, List.set_cons_zero, List.set_cons_succ]
              refine wpAnyH_take (i := 7) (v := ?v36) rfl (by kernel_rfl) (by kernel_rfl) (by kernel_rfl) (fun _ _ _ h => h) (Or.inl ⟨by kernel_rfl, ?h36⟩) hHeld ?r36
              case h36 => intro W hSw; (try dsimp only at hSw); obtain ⟨z1, z2⟩ := hSw; go_simp; try with_reducible rfl
              simp only [Act.put, List.setIfInBounds_toArray, List.set_cons_zero, List.set_cons_succ]
              refine wpAnyH_take (i := 8) (v := ?v37) rfl (by kernel_rfl) (by kernel_rfl) (by kernel_rfl) (fun _ _ _ h => h) (Or.inl ⟨by kernel_rfl, ?h37⟩) hHeld ?r37
              case h37 => intro W hSw; (try dsimp only at hSw); obtain ⟨z1, z2⟩ := hSw; go_simp; try with_reducible rfl
              simp only [Act.put, List.setIfInBounds_toArray, List.set_cons_zero, List.set_cons_succ]
              refine wpAnyH_take (i := 9) (v := ?v38) rfl (by kernel_rfl) (by kernel_rfl) (by kernel_rfl) (fun _ _ _ h => h) (Or.inl ⟨by kernel_rfl, ?h38⟩) hHeld ?r38
              case h38 => intro W hSw; (try dsimp only at hSw); obtain ⟨z1, z2⟩ := hSw; go_simp; try with_reducible rfl
              simp only [Act.put, List.setIfInBounds_toArray, List.set_cons_zero, List.set_cons_succ]
              refine wpAnyH_take (i := 10) (v := ?v39) rfl (by kernel_rfl) (by kernel_rfl) (by kernel_rfl) (fun _ _ _ h => h) (Or.inl ⟨by kernel_rfl, ?h39⟩) hHeld ?r39
              case h39 => intro W hSw; (try dsimp only at hSw); obtain ⟨z1, z2⟩ := hSw; go_simp; try with_reducible rfl
              simp only [Act.put, List.setIfInBounds_toArray, List.set_cons_zero, List.set_cons_succ]
              refine wpAnyH_ready (rs := [11]) (by kernel_rfl) (by simp) ?_
              refine AllReadyH.cons rfl (fun K hK => ?_) AllReadyH.nil
              go_simp
              go_wp2_with (first | (go_at_call 16; refine (CS.out _ _ (hT.below (below_trans hg hrd.out)) (RL.out.below hrd.out stR_below)).mono ?_; rintro e w9 ⟨v9, rfl, r9, b9⟩; have R9 : Hid (Below wr.heap.size wr w9) := below_trans hrd.out b9))
              refine hK.out _ _ (HS.out _ R9.out) (fun hHeld => ?_)
              clear hK K
              (try simp only [Act.put, List.setIfInBounds_toArray, List.set_cons_zero, List.set_cons_succ])
              refine wpAnyH_take (i := 12) (v := ?v40) rfl (by kernel_rfl) (by kernel_rfl) (by kernel_rfl) (fun _ _ _ h => h) (Or.inl ⟨by kernel_rfl, ?h40⟩) hHeld ?r40
              case h40 => intro W hSw; (try dsimp only at hSw); obtain ⟨z1, z2⟩ := hSw; go_simp; try with_reducible rfl
              simp only [Act.put, List.setIfInBounds_toArray, List.set_cons_zero, List.set_cons_succ]
              refine wpAnyH_take (i := 13) (v := ?v41) rfl (by kernel_rfl) (by kernel_rfl) (by kernel_rfl) (fun _ _ _ h => h) (Or.inl ⟨by kernel_rfl, ?h41⟩) hHeld ?r41
              case h41 => intro W hSw; (try dsimp only at hSw); obtain ⟨z1, z2⟩ := hSw; go_simp; try with_reducible rfl
              simp only [Act.put, List.setIfInBounds_toArray, List.set_cons_zero, List.set_cons_succ]
              refine wpAnyH_take (i := 14) (v := ?v42) rfl (by kernel_rfl) (by kernel_rfl) (by kernel_rfl) (fun _ _ _ h => h) (Or.inl ⟨by kernel_rfl, ?h42⟩) hHeld ?r42
              case h42 => intro W hSw; (try dsimp only at hSw); obtain ⟨z1, z2⟩ := hSw; go_simp; try with_reducible rfl
              simp only [Act.put, List.setIfInBounds_toArray, List.set_cons_zero, List.set_cons_succ]
              refine wpAnyH_ready (rs := [15]) (by kernel_rfl) (by simp) ?_
              refine AllReadyH.cons rfl (fun K hK => ?_) AllReadyH.nil
              go_simp
              refine hK.out _ _ (HS.out _ R9.out) (fun hHeld => ?_)
              clear hK K
              (try simp only [Act.put, List.setIfInBounds_toArray, List.set_cons_zero, List.set_cons_succ])
              refine wpAnyH_ready (rs := [16]) (by kernel_rfl) (by simp) ?_
              refine AllReadyH.cons rfl (fun K hK => ?_) AllReadyH.nil
              go_simp
              refine hK.out _ _ (HS.out _ R9.out) (fun hHeld => ?_)
              clear hK K
              (try simp only [Act.put, List.setIfInBounds_toArray, List.set_cons_zero, List.set_cons_succ])
              refine wpAnyH_done (by kernel_rfl) ?_ _
              have hg9 := below_trans hg R9.out
              have rN9 := RN.out.below R9.out
              have rL9 := RL.out.below R9.out stR_below
              go_upto_region 12 with (first | (go_at_call 8; refine (cV _ _ _ (hT.below hg9) rN9 r9).mono ?_; rintro e w10 ⟨v10, rfl, r10, b10⟩) | fail)
              have hl10 := slr_len r10 uPb (P := Tryd.prog)
              have hg10 := below_trans hg9 b10
              have rN10 := rN9.below b10
              have rL10 := rL9.below b10 stR_below
              have r910 := r9.below b10 stR_below
              go_wp2_with (first
                | (go_at_call 14; refine (cA _ _ _ rN10 r10).mono ?_; rintro e w11 ⟨v11, rfl, o11, b11⟩; have r11 := (Rd_own o11).1)
                | (go_at_call 11; refine (cL _ _ (hT.below (below_trans hg10 b11)) r11).mono ?_; rintro e w12 ⟨v12, rfl, r12, b12⟩; have g12 := below_trans b11 b12)
                | (go_at_call 10; refine (w_rsame19 v12 _ M M _ r12 (r910.below g12 stR_below)).mono ?_; rintro e w13 ⟨hs, b13⟩; rw [decide_eq_true rfl] at hs; subst hs))
              go_roundw
              case rel => exact ⟨k + 1, Q, M, by omega, by go_num, aB, AL, r11.below (below_trans b12 b13), r910.below (below_trans g12 b13) stR_below, hnl, below_trans hg10 (below_trans g12 b13)⟩
              case measure => simp [intOf]; omega
          · obtain ⟨⟨R, F⟩, hR⟩ : ∃ m, vaSv N M = m := ⟨_, rfl⟩
            simp only [hR] at cV hF
            clear hR
            have HS : Hid (∀ W, Below wr.heap.size wr W → (W.cell? ⟨zb, zo, none⟩ = some (.string A) ∧ W.cell? ⟨zb, zo + 1, none⟩ = some (.string V))) := fun W g => ⟨E0.out _ (below_trans hg g), E1.out _ (below_trans hg g)⟩
            have hrd : Hid (Below wr.heap.size wr wr.drew) := below_drewN (Below.refl _ _) 1
            have RL := hid rL
            have RN := hid rN
            have CS := hid cS
            clear cS rL rN e0 e1
            go_upto_region 9 with fail
            refine wp_region_held_drew (S := fun W => W.cell? ⟨zb, zo, none⟩ = some (.string A) ∧ W.cell? ⟨zb, zo + 1, none⟩ = some (.string V)) (by kernel_rfl) (HS.out _ hrd.out) (fun hHeld => ?_)
            refine wpAnyH_take (i := 0) (v := ?v43) rfl (by kernel_rfl) (by kernel_rfl) (by kernel_rfl) (fun _ _ _ h => h) (Or.inl ⟨by kernel_rfl, ?h43⟩) hHeld ?r43
            case h43 => intro W hSw; (try dsimp only at hSw); obtain ⟨z1, z2⟩ := hSw; go_simp; try with_reducible rfl
            simp only [Act.put, List.setIfInBounds_toArray, List.set_cons_zero, List.set_cons_succ]
            refine wpAnyH_take (i := 1) (v := ?v44) rfl (by kernel_rfl) (by kernel_rfl) (by kernel_rfl) (fun _ _ _ h => h) (Or.inl ⟨by kernel_rfl, ?h44⟩) hHeld ?r44
            case h44 => intro W hSw; (try dsimp only at hSw); obtain ⟨z1, z2⟩ := hSw; go_simp; try with_reducible rfl
            simp only [Act.put, List.setIfInBounds_toArray, List.set_cons_zero, List.set_cons_succ]
            refine wpAnyH_take (i := 2) (v := ?v45) rfl (by kernel_rfl) (by kernel_rfl) (by kernel_rfl) (fun _ _ _ h => h) (Or.inl ⟨by kernel_rfl, ?h45⟩) hHeld ?r45
            case h45 => intro W hSw; (try dsimp only at hSw); obtain ⟨z1, z2⟩ := hSw; go_simp; try with_reducible rfl
            simp only [Act.put, List.setIfInBounds_toArray, List.set_cons_zero, List.set_cons_succ]
            refine wpAnyH_take (i := 3) (v := ?v46) rfl (by kernel_rfl) (by kernel_rfl) (by kernel_rfl) (fun _ _ _ h => h) (Or.inl ⟨by kernel_rfl, ?h46⟩) hHeld ?r46
            case h46 => intro W hSw; (try dsimp only at hSw); obtain ⟨z1, z2⟩ := hSw; go_simp; try with_reducible rfl
            simp only [Act.put, List.setIfInBounds_toArray, List.set_cons_zero, List.set_cons_succ]
            refine wpAnyH_take (i := 4) (v := ?v47) rfl (by kernel_rfl) (by kernel_rfl) (by kernel_rfl) (fun _ _ _ h => h) (Or.inl ⟨by kernel_rfl, ?h47⟩) hHeld ?r47
            case h47 => intro W hSw; (try dsimp only at hSw); obtain ⟨z1, z2⟩ := hSw; go_simp; try with_reducible rfl
            simp only [Act.put, List.setIfInBounds_toArray, List.set_cons_zero, List.set_cons_succ]
            refine wpAnyH_take (i := 5) (v := ?v48) rfl (by kernel_rfl) (by kernel_rfl) (by kernel_rfl) (fun _ _ _ h => h) (Or.inl ⟨by kernel_rfl, ?h48⟩) hHeld ?r48
            case h48 => intro W hSw; (try dsimp only at hSw); obtain ⟨z1, z2⟩ := hSw; go_simp; try with_reducible rfl
            simp only [Act.put, List.setIfInBounds_toArray, List.set_cons_zero, List.set_cons_succ]
            refine wpAnyH_take (i := 6) (v := ?v49) rfl (by kernel_rfl) (by kernel_rfl) (by kernel_rfl) (fun _ _ _ h => h) (Or.inl ⟨by kernel_rfl, ?h49⟩) hHeld ?r49
            case h49 => intro W hSw; (try dsimp only at hSw); obtain ⟨z1, z2⟩ := hSw; go_simp; try with_reducible rfl
            simp only [Act.put, List.setIfInBounds_toArray, List.set_cons_zero, List.set_cons_succ]
            refine wpAnyH_take (i := 7) (v := ?v50) rfl (by kernel_rfl) (by kernel_rfl) (by kernel_rfl) (fun _ _ _ h => h) (Or.inl ⟨by kernel_rfl, ?h50⟩) hHeld ?r50
            case h50 => intro W hSw; (try dsimp only at hSw); obtain ⟨z1, z2⟩ := hSw; go_simp; try with_reducible rfl
            simp only [Act.put, List.setIfInBounds_toArray, List.set_cons_zero, List.set_cons_succ]
            refine wpAnyH_take (i := 8) (v := ?v51) rfl (by kernel_rfl) (by kernel_rfl) (by kernel_rfl) (fun _ _ _ h => h) (Or.inl ⟨by kernel_rfl, ?h51⟩) hHeld ?r51
            case h51 => intro W hSw; (try dsimp only at hSw); obtain ⟨z1, z2⟩ := hSw; go_simp; try with_reducible rfl
            simp only [Act.put, List.setIfInBounds_toArray, List.set_cons_zero, List.set_cons_succ]
            refine wpAnyH_take (i := 9) (v := ?v52) rfl (by kernel_rfl) (by kernel_rfl) (by kernel_rfl) (fun _ _ _ h => h) (Or.inl ⟨by kernel_rfl, ?h52⟩) hHeld ?r52
            case h52 => intro W hSw; (try dsimp only at hSw); obtain ⟨z1, z2⟩ := hSw; go_simp; try with_reducible rfl
            simp only [Act.put, List.setIfInBounds_toArray, List.set_cons_zero, List.set_cons_succ]
            refine wpAnyH_take (i := 10) (v := ?v53) rfl (by kernel_rfl) (by kernel_rfl) (by kernel_rfl) (fun _ _ _ h => h) (Or.inl ⟨by kernel_rfl, ?h53⟩) hHeld ?r53
            case h53 => intro W hSw; (try dsimp only at hSw); obtain ⟨z1, z2⟩ := hSw; go_simp; try with_reducible rfl
            simp only [Act.put, List.setIfInBounds_toArray, List.set_cons_zero, List.set_cons_succ]
            refine wpAnyH_ready (rs := [11]) (by kernel_rfl) (by simp) ?_
            refine AllReadyH.cons rfl (fun K hK => ?_) AllReadyH.nil
            go_simp
            go_wp2_with (first | (go_at_call 16; refine (CS.out _ _ (hT.below (below_trans hg hrd.out)) (RL.out.below hrd.out stR_below)).mono ?_; rintro e w9 ⟨v9, rfl, r9, b9⟩; have R9 : Hid (Below wr.heap.size wr w9) := below_trans hrd.out b9))
            refine hK.out _ _ (HS.out _ R9.out) (fun hHeld => ?_)
            clear hK K
            (try simp only [Act.put, List.setIfInBounds_toArray, List.set_cons_zero, List.set_cons_succ])
            refine wpAnyH_take (i := 12) (v := ?v54) rfl (by kernel_rfl) (by kernel_rfl) (by kernel_rfl) (fun _ _ _ h => h) (Or.inl ⟨by kernel_rfl, ?h54⟩) hHeld ?r54
            case h54 => intro W hSw; (try dsimp only at hSw); obtain ⟨z1, z2⟩ := hSw; go_simp; try with_reducible rfl
            simp only [Act.put, List.setIfInBounds_toArray, List.set_cons_zero, List.set_cons_succ]
            refine wpAnyH_take (i := 13) (v := ?v55) rfl (by kernel_rfl) (by kernel_rfl) (by kernel_rfl) (fun _ _ _ h => h) (Or.inl ⟨by kernel_rfl, ?h55⟩) hHeld ?r55
            case h55 => intro W hSw; (try dsimp only at hSw); obtain ⟨z1, z2⟩ := hSw; go_simp; try with_reducible rfl
            simp only [Act.put, List.setIfInBounds_toArray, List.set_cons_zero, List.set_cons_succ]
            refine wpAnyH_take (i := 14) (v := ?v56) rfl (by kernel_rfl) (by kernel_rfl) (by kernel_rfl) (fun _ _ _ h => h) (Or.inl ⟨by kernel_rfl, ?h56⟩) hHeld ?r56
            case h56 => intro W hSw; (try dsimp only at hSw); obtain ⟨z1, z2⟩ := hSw; go_simp; try with_reducible rfl
            simp only [Act.put, List.setIfInBounds_toArray, List.set_cons_zero, List.set_cons_succ]
            refine wpAnyH_ready (rs := [15]) (by kernel_rfl) (by simp) ?_
            refine AllReadyH.cons rfl (fun K hK => ?_) AllReadyH.nil
            go_simp
            refine hK.out _ _ (HS.out _ R9.out) (fun hHeld => ?_)
            clear hK K
            (try simp only [Act.put, List.setIfInBounds_toArray, List.set_cons_zero, List.set_cons_succ])
            refine wpAnyH_ready (rs := [16]) (by kernel_rfl) (by simp) ?_
            refine AllReadyH.cons rfl (fun K hK => ?_) AllReadyH.nil
            go_simp
            refine hK.out _ _ (HS.out _ R9.out) (fun hHeld => ?_)
            clear hK K
            (try simp only [Act.put, List.setIfInBounds_toArray, List.set_cons_zero, List.set_cons_succ])
            refine wpAnyH_done (by kernel_rfl) ?_ _
            have hg9 := below_trans hg R9.out
            go_wp2_with (go_at_call 8; refine (cV _ _ _ (hT.below hg9) (RN.out.below R9.out) r9).mono ?_; rintro e w10 ⟨v10, rfl, r10, b10⟩)
            go_roundw
            case rel => exact ⟨k + 1, N, L, by omega, by go_num, hNb, hNl, RN.out.below (below_trans R9.out b10), RL.out.below (below_trans R9.out b10) stR_below, hNL, below_trans hg9 b10⟩
            case measure => simp [intOf]; omega
        · obtain ⟨⟨M, E⟩, hM⟩ : ∃ m, vaS L A V = m := ⟨_, rfl⟩
          simp only [hM] at cS cV hE
          clear hM
          obtain ⟨⟨R, F⟩, hR⟩ : ∃ m, vaSv N M = m := ⟨_, rfl⟩
          simp only [hR] at cV
          clear hR
          have HS : Hid (∀ W, Below wr.heap.size wr W → (W.cell? ⟨zb, zo, none⟩ = some (.string A) ∧ W.cell? ⟨zb, zo + 1, none⟩ = some (.string V))) := fun W g => ⟨E0.out _ (below_trans hg g), E1.out _ (below_trans hg g)⟩
          have hrd : Hid (Below wr.heap.size wr wr.drew) := below_drewN (Below.refl _ _) 1
          have RL := hid rL
          have RN := hid rN
          have CS := hid cS
          clear cS rL rN e0 e1
          go_upto_region 9 with fail
          refine wp_region_held_drew (S := fun W => W.cell? ⟨zb, zo, none⟩ = some (.string A) ∧ W.cell? ⟨zb, zo + 1, none⟩ = some (.string V)) (by kernel_rfl) (HS.out _ hrd.out) (fun hHeld => ?_)
          refine wpAnyH_take (i := 0) (v := ?v57) rfl (by kernel_rfl) (by kernel_rfl) (by kernel_rfl) (fun _ _ _ h => h) (Or.inl ⟨by kernel_rfl, ?h57⟩) hHeld ?r57
          case h57 => intro W hSw; (try dsimp only at hSw); obtain ⟨z1, z2⟩ := hSw; go_simp; try with_reducible rfl
          simp only [Act.put, List.setIfInBounds_toArray, List.set_cons_zero, List.set_cons_succ]
          refine wpAnyH_take (i := 1) (v := ?v58) rfl (by kernel_rfl) (by kernel_rfl) (by kernel_rfl) (fun _ _ _ h => h) (Or.inl ⟨by kernel_rfl, ?h58⟩) hHeld ?r58
          case h58 => intro W hSw; (try dsimp only at hSw); obtain ⟨z1, z2⟩ := hSw; go_simp; try with_reducible rfl
          simp only [Act.put, List.setIfInBounds_toArray, List.set_cons_zero, List.set_cons_succ]
          refine wpAnyH_take (i := 2) (v := ?v59) rfl (by kernel_rfl) (by kernel_rfl) (by kernel_rfl) (fun _ _ _ h => h) (Or.inl ⟨by kernel_rfl, ?h59⟩) hHeld ?r59
          case h59 => intro W hSw; (try dsimp only at hSw); obtain ⟨z1, z2⟩ := hSw; go_simp; try with_reducible rfl
          simp only [Act.put, List.setIfInBounds_toArray, List.set_cons_zero, List.set_cons_succ]
          refine wpAnyH_take (i := 3) (v := ?v60) rfl (by kernel_rfl) (by kernel_rfl) (by kernel_rfl) (fun _ _ _ h => h) (Or.inl ⟨by kernel_rfl, ?h60⟩) hHeld ?r60
          case h60 => intro W hSw; (try dsimp only at hSw); obtain ⟨z1, z2⟩ := hSw; go_simp; try with_reducible rfl
          simp only [Act.put, List.setIfInBounds_toArray, List.set_cons_zero, List.set_cons_succ]
          refine wpAnyH_take (i := 4) (v := ?v61) rfl (by kernel_rfl) (by kernel_rfl) (by kernel_rfl) (fun _ _ _ h => h) (Or.inl ⟨by kernel_rfl, ?h61⟩) hHeld ?r61
          case h61 => intro W hSw; (try dsimp only at hSw); obtain ⟨z1, z2⟩ := hSw; go_simp; try with_reducible rfl
          simp only [Act.put, List.setIfInBounds_toArray, List.set_cons_zero, List.set_cons_succ]
          refine wpAnyH_take (i := 5) (v := ?v62) rfl (by kernel_rfl) (by kernel_rfl) (by kernel_rfl) (fun _ _ _ h => h) (Or.inl ⟨by kernel_rfl, ?h62⟩) hHeld ?r62
          case h62 => intro W hSw; (try dsimp only at hSw); obtain ⟨z1, z2⟩ := hSw; go_simp; try with_reducible rfl
          simp only [Act.put, List.setIfInBounds_toArray, List.set_cons_zero, List.set_cons_succ]
          refine wpAnyH_take (i := 6) (v := ?v63) rfl (by kernel_rfl) (by kernel_rfl) (by kernel_rfl) (fun _ _ _ h => h) (Or.inl ⟨by kernel_rfl, ?h63⟩) hHeld ?r63
          case h63 => intro W hSw; (try dsimp only at hSw); obtain ⟨z1, z2⟩ := hSw; go_simp; try with_reducible rfl
          simp only [Act.put, List.setIfInBounds_toArray, List.set_cons_zero, List.set_cons_succ]
          refine wpAnyH_take (i := 7) (v := ?v64) rfl (by kernel_rfl) (by kernel_rfl) (by kernel_rfl) (fun _ _ _ h => h) (Or.inl ⟨by kernel_rfl, ?h64⟩) hHeld ?r64
          case h64 => intro W hSw; (try dsimp only at hSw); obtain ⟨z1, z2⟩ := hSw; go_simp; try with_reducible rfl
          simp only [Act.put, List.setIfInBounds_toArray, List.set_cons_zero, List.set_cons_succ]
          refine wpAnyH_take (i := 8) (v := ?v65) rfl (by kernel_rfl) (by kernel_rfl) (by kernel_rfl) (fun _ _ _ h => h) (Or.inl ⟨by kernel_rfl, ?h65⟩) hHeld ?r65
          case h65 => intro W hSw; (try dsimp only at hSw); obtain ⟨z1, z2⟩ := hSw; go_simp; try with_reducible rfl
          simp only [Act.put, List.setIfInBounds_toArray, List.set_cons_zero, List.set_cons_succ]
          refine wpAnyH_take (i := 9) (v := ?v66) rfl (by kernel_rfl) (by kernel_rfl) (by kernel_rfl) (fun _ _ _ h => h) (Or.inl ⟨by kernel_rfl, ?h66⟩) hHeld ?r66
          case h66 => intro W hSw; (try dsimp only at hSw); obtain ⟨z1, z2⟩ := hSw; go_simp; try with_reducible rfl
          simp only [Act.put, List.setIfInBounds_toArray, List.set_cons_zero, List.set_cons_succ]
          refine wpAnyH_take (i := 10) (v := ?v67) rfl (by kernel_rfl) (by kernel_rfl) (by kernel_rfl) (fun _ _ _ h => h) (Or.inl ⟨by kernel_rfl, ?h67⟩) hHeld ?r67
          case h67 => intro W hSw; (try dsimp only at hSw); obtain ⟨z1, z2⟩ := hSw; go_simp; try with_reducible rfl
          simp only [Act.put, List.setIfInBounds_toArray, List.set_cons_zero, List.set_cons_succ]
          refine wpAnyH_ready (rs := [11]) (by kernel_rfl) (by simp) ?_
          refine AllReadyH.cons rfl (fun K hK => ?_) AllReadyH.nil
          go_simp
          go_wp2_with (first | (go_at_call 16; refine (CS.out _ _ (hT.below (below_trans hg hrd.out)) (RL.out.below hrd.out stR_below)).mono ?_; rintro e w9 ⟨v9, rfl, r9, b9⟩; have R9 : Hid (Below wr.heap.size wr w9) := below_trans hrd.out b9))
          refine hK.out _ _ (HS.out _ R9.out) (fun hHeld => ?_)
          clear hK K
          (try simp only [Act.put, List.setIfInBounds_toArray, List.set_cons_zero, List.set_cons_succ])
          refine wpAnyH_take (i := 12) (v := ?v68) rfl (by kernel_rfl) (by kernel_rfl) (by kernel_rfl) (fun _ _ _ h => h) (Or.inl ⟨by kernel_rfl, ?h68⟩) hHeld ?r68
          case h68 => intro W hSw; (try dsimp only at hSw); obtain ⟨z1, z2⟩ := hSw; go_simp; try with_reducible rfl
          simp only [Act.put, List.setIfInBounds_toArray, List.set_cons_zero, List.set_cons_succ]
          refine wpAnyH_take (i := 13) (v := ?v69) rfl (by kernel_rfl) (by kernel_rfl) (by kernel_rfl) (fun _ _ _ h => h) (Or.inl ⟨by kernel_rfl, ?h69⟩) hHeld ?r69
          case h69 => intro W hSw; (try dsimp only at hSw); obtain ⟨z1, z2⟩ := hSw; go_simp; try with_reducible rfl
          simp only [Act.put, List.setIfInBounds_toArray, List.set_cons_zero, List.set_cons_succ]
          refine wpAnyH_take (i := 14) (v := ?v70) rfl (by kernel_rfl) (by kernel_rfl) (by kernel_rfl) (fun _ _ _ h => h) (Or.inl ⟨by kernel_rfl, ?h70⟩) hHeld ?r70
          case h70 => intro W hSw; (try dsimp only at hSw); obtain ⟨z1, z2⟩ := hSw; go_simp; try with_reducible rfl
          simp only [Act.put, List.setIfInBounds_toArray, List.set_cons_zero, List.set_cons_succ]
          refine wpAnyH_ready (rs := [15]) (by kernel_rfl) (by simp) ?_
          refine AllReadyH.cons rfl (fun K hK => ?_) AllReadyH.nil
          go_simp
          refine hK.out _ _ (HS.out _ R9.out) (fun hHeld => ?_)
          clear hK K
          (try simp only [Act.put, List.setIfInBounds_toArray, List.set_cons_zero, List.set_cons_succ])
          refine wpAnyH_ready (rs := [16]) (by kernel_rfl) (by simp) ?_
          refine AllReadyH.cons rfl (fun K hK => ?_) AllReadyH.nil
          go_simp
          refine hK.out _ _ (HS.out _ R9.out) (fun hHeld => ?_)
          clear hK K
          (try simp only [Act.put, List.setIfInBounds_toArray, List.set_cons_zero, List.set_cons_succ])
          refine wpAnyH_done (by kernel_rfl) ?_ _
          have hg9 := below_trans hg R9.out
          go_wp2_with (go_at_call 8; refine (cV _ _ _ (hT.below hg9) (RN.out.below R9.out) r9).mono ?_; rintro e w10 ⟨v10, rfl, r10, b10⟩)
          go_roundw
          case rel => exact ⟨k + 1, N, L, by omega, by go_num, hNb, hNl, RN.out.below (below_trans R9.out b10), RL.out.below (below_trans R9.out b10) stR_below, hNL, below_trans hg9 b10⟩
          case measure => simp [intOf]; omega
      · have cL := fun v w hT h => w_pload19 v N w hT h hNb (by have := hNl.out; omega)
        rw [hNL.out] at cL
        clear hNL
        go_wp2_with (first
          | (go_at_call 11; refine (cL _ _ (hT.below hg) rN).mono ?_; rintro e w12 ⟨v12, rfl, r12, b12⟩)
          | (go_at_call 10; refine (w_rsame19 v12 _ L L _ r12 (rL.below b12 stR_below)).mono ?_; rintro e w13 ⟨hs, b13⟩; rw [decide_eq_true rfl] at hs; subst hs))
        go_ret
        exact ⟨rfl, below_trans hg (below_trans b12 b13)⟩

end Go.Proofs.YtaiimfdcbdfbdabDoor
