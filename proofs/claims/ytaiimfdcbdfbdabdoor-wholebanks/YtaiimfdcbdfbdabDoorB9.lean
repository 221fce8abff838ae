/-
  Texts of one proof, laid one behind the other: Rv4.
-/
import Derived.Test.YtaiimfdcbdfbdabDoorB8
import Derived.Deep.RegionHeld2
namespace Go.Proofs.YtaiimfdcbdfbdabDoor
open Go.ChangeShapes Go.WideShapes Go.ChangeAt Go.RowKit
set_option linter.unusedVariables false
set_option linter.unusedSimpArgs false

/-
  Right, Get of the document's answer for layer 19.
-/
theorem vaD_ok {nm : ByteArray} (h : ¬ vaF nm < 0) : vaD nm = ((vaT (vaF nm).toNat).2.2, 0) := by unfold vaD; rw [if_neg h]

set_option maxHeartbeats 2000000 in
set_option maxRecDepth 10000 in
theorem w_rright (v : Value) (l : List Stt) (w : World) (h : SlR 2 stR w v l) :
    Calls Tryd.prog 37 #[v] w fun e w' => e = .returned (.bool (vaG (-1) l)) ∧ Below w.heap.size w w' := by
  have hlen := slr_len h uSt (P := Tryd.prog)
  have hmx := slr_max h
  unfold maxLen at hmx
  go_enter Tryd.func37, Tryd.ntmps37
  go_wp2_with fail
  go_loopw [3, 4] (fun La I wx => ∃ (k : Nat) (last : Int), k ≤ l.length ∧ I = .int .i64 k ∧ La = .int .i64 last ∧ -1 ≤ last ∧ last < 9 ∧ Hid (vaG (-1) l = vaG last (l.drop k)) ∧ Below w.heap.size w wx) (fun _ I _ => (l.length - intOf I).toNat)
  case atStart => exact ⟨0, -1, by omega, rfl, rfl, by omega, by omega, hid rfl, Below.refl _ _⟩
  case round =>
    obtain ⟨k, last, hk, rfl, rfl, hl0, hl9, hm, hg⟩ := hrel
    by_cases hlt : (k : Int) < l.length
    · obtain ⟨zb, zo, A, V, z1, z2, z3, z4, z5, z6⟩ := st_at (h.below hg stR_below) k (by omega)
      have hd : l.drop k = (A, V) :: l.drop (k + 1) := by rw [List.drop_eq_getElem_cons (by omega), z4]
      have hm2 := hm.out
      rw [hd] at hm2
      simp only [vaG] at hm2
      have cF := w_rfind A
      have hb := va_lt A
      have cM := fun w => w_rform A V w z6
      by_cases hlast : last < vaF A
      · have hn0 : ¬ vaF A < 0 := by omega
        have cD := w_rdefault A
        rw [vaD_ok hn0] at cD
        rw [decide_eq_true hlast, Bool.true_and] at hm2
        cases ho : vaO (vaF A).toNat V with
        | none =>
          rw [vaM_none hn0 ho] at cM
          rw [ho, decide_eq_false (by simp), Bool.false_and] at hm2
          have hm3 := hid hm2
          generalize (vaT (vaF A).toNat).2.2 = T at cD
          generalize vaF A = K at *
          clear ho hm hm2 hd z4 h
          have HS : Hid (∀ W, Below wr.heap.size wr W → (W.cell? ⟨zb, zo, none⟩ = some (.string A) ∧ W.cell? ⟨zb, zo + 1, none⟩ = some (.string V))) := fun W g => ⟨below_cell g z2, below_cell g z3⟩
          have hrd : Hid (Below wr.heap.size wr wr.drew) := below_drewN (Below.refl _ _) 1
          have CM := hid cM
          clear cM
          go_upto_region 9 with (first | (go_at_call 58; refine (cF _).mono ?_; rintro e w1 ⟨rfl, hw⟩; obtain rfl := hw.symm) | fail)
          refine wp_region_held_drew (S := fun W => W.cell? ⟨zb, zo, none⟩ = some (.string A) ∧ W.cell? ⟨zb, zo + 1, none⟩ = some (.string V)) (by kernel_rfl) (HS.out _ hrd.out) (fun hHeld => ?_)
          refine wpAnyH_take (i := 0) (v := ?v1) rfl (by kernel_rfl) (by kernel_rfl) (by kernel_rfl) (fun _ _ _ h => h) (Or.inl ⟨by kernel_rfl, ?h1⟩) hHeld ?r1
          case h1 => intro W hSw; (try dsimp only at hSw); obtain ⟨z1, z2⟩ := hSw; go_simp; try with_reducible rfl
          simp only [Act.put, List.setIfInBounds_toArray, List.set_cons_zero, List.set_cons_succ]
          refine wpAnyH_take (i := 1) (v := ?v2) rfl (by kernel_rfl) (by kernel_rfl) (by kernel_rfl) (fun _ _ _ h => h) (Or.inl ⟨by kernel_rfl, ?h2⟩) hHeld ?r2
          case h2 => intro W hSw; (try dsimp only at hSw); obtain ⟨z1, z2⟩ := hSw; go_simp; try with_reducible rfl
          simp only [Act.put, List.setIfInBounds_toArray, List.set_cons_zero, List.set_cons_succ]
          refine wpAnyH_take (i := 2) (v := ?v3) rfl (by kernel_rfl) (by kernel_rfl) (by kernel_rfl) (fun _ _ _ h => h) (Or.inl ⟨by kernel_rfl, ?h3⟩) hHeld ?r3
          case h3 => intro W hSw; (try dsimp only at hSw); obtain ⟨z1, z2⟩ := hSw; go_simp; try with_reducible rfl
          simp only [Act.put, List.setIfInBounds_toArray, List.set_cons_zero, List.set_cons_succ]
          refine wpAnyH_take (i := 3) (v := ?v4) rfl (by kernel_rfl) (by kernel_rfl) (by kernel_rfl) (fun _ _ _ h => h) (Or.inl ⟨by kernel_rfl, ?h4⟩) hHeld ?r4
          case h4 => intro W hSw; (try dsimp only at hSw); obtain ⟨z1, z2⟩ := hSw; go_simp; try with_reducible rfl
          simp only [Act.put, List.setIfInBounds_toArray, List.set_cons_zero, List.set_cons_succ]
          refine wpAnyH_take (i := 4) (v := ?v5) rfl (by kernel_rfl) (by kernel_rfl) (by kernel_rfl) (fun _ _ _ h => h) (Or.inl ⟨by kernel_rfl, ?h5⟩) hHeld ?r5
          case h5 => intro W hSw; (try dsimp only at hSw); obtain ⟨z1, z2⟩ := hSw; go_simp; try with_reducible rfl
          simp only [Act.put, List.setIfInBounds_toArray, List.set_cons_zero, List.set_cons_succ]
          refine wpAnyH_take (i := 5) (v := ?v6) rfl (by kernel_rfl) (by kernel_rfl) (by kernel_rfl) (fun _ _ _ h => h) (Or.inl ⟨by kernel_rfl, ?h6⟩) hHeld ?r6
          case h6 => intro W hSw; (try dsimp only at hSw); obtain ⟨z1, z2⟩ := hSw; go_simp; try with_reducible rfl
          simp only [Act.put, List.setIfInBounds_toArray, List.set_cons_zero, List.set_cons_succ]
          refine wpAnyH_take (i := 6) (v := ?v7) rfl (by kernel_rfl) (by kernel_rfl) (by kernel_rfl) (fun _ _ _ h => h) (Or.inl ⟨by kernel_rfl, ?h7⟩) hHeld ?r7
          case h7 => intro W hSw; (try dsimp only at hSw); obtain ⟨z1, z2⟩ := hSw; go_simp; try with_reducible rfl
          simp only [Act.put, List.setIfInBounds_toArray, List.set_cons_zero, List.set_cons_succ]
          refine wpAnyH_take (i := 7) (v := ?v8) rfl (by kernel_rfl) (by kernel_rfl) (by kernel_rfl) (fun _ _ _ h => h) (Or.inl ⟨by kernel_rfl, ?h8⟩) hHeld ?r8
          case h8 => intro W hSw; (try dsimp only at hSw); obtain ⟨z1, z2⟩ := hSw; go_simp; try with_reducible rfl
          simp only [Act.put, List.setIfInBounds_toArray, List.set_cons_zero, List.set_cons_succ]
          refine wpAnyH_take (i := 8) (v := ?v9) rfl (by kernel_rfl) (by kernel_rfl) (by kernel_rfl) (fun _ _ _ h => h) (Or.inl ⟨by kernel_rfl, ?h9⟩) hHeld ?r9
          case h9 => intro W hSw; (try dsimp only at hSw); obtain ⟨z1, z2⟩ := hSw; go_simp; try with_reducible rfl
          simp only [Act.put, List.setIfInBounds_toArray, List.set_cons_zero, List.set_cons_succ]
          refine wpAnyH_take (i := 9) (v := ?v10) rfl (by kernel_rfl) (by kernel_rfl) (by kernel_rfl) (fun _ _ _ h => h) (Or.inl ⟨by kernel_rfl, ?h10⟩) hHeld ?r10
          case h10 => intro W hSw; (try dsimp only at hSw); obtain ⟨z1, z2⟩ := hSw; go_simp; try with_reducible rfl
          simp only [Act.put, List.setIfInBounds_toArray, List.set_cons_zero, List.set_cons_succ]
          refine wpAnyH_ready (rs := [10]) (by kernel_rfl) (by simp) ?_
          refine AllReadyH.cons rfl (fun K hK => ?_) AllReadyH.nil
          go_simp
          go_wp2_with (first | (go_at_call 59; refine (CM.out _).mono ?_; rintro e w9 ⟨rfl, b9⟩; have R9 : Hid (Below wr.heap.size wr w9) := below_trans hrd.out b9))
          refine hK.out _ _ (HS.out _ R9.out) (fun hHeld => ?_)
          clear hK K
          (try simp only [Act.put, List.setIfInBounds_toArray, List.set_cons_zero, List.set_cons_succ])
          refine wpAnyH_take (i := 11) (v := ?v11) rfl (by kernel_rfl) (by kernel_rfl) (by kernel_rfl) (fun _ _ _ h => h) (Or.inl ⟨by kernel_rfl, ?h11⟩) hHeld ?r11
          case h11 => intro W hSw; (try dsimp only at hSw); obtain ⟨z1, z2⟩ := hSw; go_simp; try with_reducible rfl
          simp only [Act.put, List.setIfInBounds_toArray, List.set_cons_zero, List.set_cons_succ]
          refine wpAnyH_take (i := 12) (v := ?v12) rfl (by kernel_rfl) (by kernel_rfl) (by kernel_rfl) (fun _ _ _ h => h) (Or.inl ⟨by kernel_rfl, ?h12⟩) hHeld ?r12
          case h12 => intro W hSw; (try dsimp only at hSw); obtain ⟨z1, z2⟩ := hSw; go_simp; try with_reducible rfl
          simp only [Act.put, List.setIfInBounds_toArray, List.set_cons_zero, List.set_cons_succ]
          refine wpAnyH_take (i := 13) (v := ?v13) rfl (by kernel_rfl) (by kernel_rfl) (by kernel_rfl) (fun _ _ _ h => h) (Or.inl ⟨by kernel_rfl, ?h13⟩) hHeld ?r13
          case h13 => intro W hSw; (try dsimp only at hSw); obtain ⟨z1, z2⟩ := hSw; go_simp; try with_reducible rfl
          simp only [Act.put, List.setIfInBounds_toArray, List.set_cons_zero, List.set_cons_succ]
          refine wpAnyH_ready (rs := [14]) (by kernel_rfl) (by simp) ?_
          refine AllReadyH.cons rfl (fun K hK => ?_) AllReadyH.nil
          go_simp
          refine hK.out _ _ (HS.out _ R9.out) (fun hHeld => ?_)
          clear hK K
          (try simp only [Act.put, List.setIfInBounds_toArray, List.set_cons_zero, List.set_cons_succ])
          refine wpAnyH_ready (rs := [15]) (by kernel_rfl) (by simp) ?_
          refine AllReadyH.cons rfl (fun K hK => ?_) AllReadyH.nil
          go_simp
          refine hK.out _ _ (HS.out _ R9.out) (fun hHeld => ?_)
          clear hK K
          (try simp only [Act.put, List.setIfInBounds_toArray, List.set_cons_zero, List.set_cons_succ])
          refine wpAnyH_done (by kernel_rfl) ?_ _
          have y2 := (HS.out _ R9.out).1
          have y3 := (HS.out _ R9.out).2
          clear HS hrd
          go_wp2_with (go_at_call 60; refine (cD _).mono ?_; rintro e w8 ⟨rfl, hw⟩; obtain rfl := hw.symm)
          go_ret
          exact ⟨ret_b hm3.out.symm, below_trans hg R9.out⟩
        | some s =>
          rw [vaM_some hn0 ho] at cM
          have hs6 := va_fsize ho
          rw [ho] at hm2
          by_cases hsv : s = V
          · subst hsv
            rw [decide_eq_true rfl, Bool.true_and] at hm2
            by_cases hsd : s = (vaT (vaF A).toNat).2.2
            · rw [decide_eq_false (fun z => z hsd), Bool.false_and] at hm2
              rw [← hsd] at cD
              have hm3 := hid hm2
              generalize vaF A = K at *
              clear ho hm hm2 hd z4 h hsd
              have HS : Hid (∀ W, Below wr.heap.size wr W → (W.cell? ⟨zb, zo, none⟩ = some (.string A) ∧ W.cell? ⟨zb, zo + 1, none⟩ = some (.string s))) := fun W g => ⟨below_cell g z2, below_cell g z3⟩
              have hrd : Hid (Below wr.heap.size wr wr.drew) := below_drewN (Below.refl _ _) 1
              have CM := hid cM
              clear cM
              go_upto_region 9 with (first | (go_at_call 58; refine (cF _).mono ?_; rintro e w1 ⟨rfl, hw⟩; obtain rfl := hw.symm) | fail)
              refine wp_region_held_drew (S := fun W => W.cell? ⟨zb, zo, none⟩ = some (.string A) ∧ W.cell? ⟨zb, zo + 1, none⟩ = some (.string s)) (by kernel_rfl) (HS.out _ hrd.out) (fun hHeld => ?_)
              refine wpAnyH_take (i := 0) (v := ?v14) rfl (by kernel_rfl) (by kernel_rfl) (by kernel_rfl) (fun _ _ _ h => h) (Or.inl ⟨by kernel_rfl, ?h14⟩) hHeld ?r14
              case h14 => intro W hSw; (try dsimp only at hSw); obtain ⟨z1, z2⟩ := hSw; go_simp; try with_reducible rfl
              simp only [Act.put, List.setIfInBounds_toArray, List.set_cons_zero, List.set_cons_succ]
              refine wpAnyH_take (i := 1) (v := ?v15) rfl (by kernel_rfl) (by kernel_rfl) (by kernel_rfl) (fun _ _ _ h => h) (Or.inl ⟨by kernel_rfl, ?h15⟩) hHeld ?r15
              case h15 => intro W hSw; (try dsimp only at hSw); obtain ⟨z1, z2⟩ := hSw; go_simp; try with_reducible rfl
              simp only [Act.put, List.setIfInBounds_toArray, List.set_cons_zero, List.set_cons_succ]
              refine wpAnyH_take (i := 2) (v := ?v16) rfl (by kernel_rfl) (by kernel_rfl) (by kernel_rfl) (fun _ _ _ h => h) (Or.inl ⟨by kernel_rfl, ?h16⟩) hHeld ?r16
              case h16 => intro W hSw; (try dsimp only at hSw); obtain ⟨z1, z2⟩ := hSw; go_simp; try with_reducible rfl
              simp only [Act.put, List.setIfInBounds_toArray, List.set_cons_zero, List.set_cons_succ]
              refine wpAnyH_take (i := 3) (v := ?v17) rfl (by kernel_rfl) (by kernel_rfl) (by kernel_rfl) (fun _ _ _ h => h) (Or.inl ⟨by kernel_rfl, ?h17⟩) hHeld ?r17
              case h17 => intro W hSw; (try dsimp only at hSw); obtain ⟨z1, z2⟩ := hSw; go_simp; try with_reducible rfl
              simp only [Act.put, List.setIfInBounds_toArray, List.set_cons_zero, List.set_cons_succ]
              refine wpAnyH_take (i := 4) (v := ?v18) rfl (by kernel_rfl) (by kernel_rfl) (by kernel_rfl) (fun _ _ _ h => h) (Or.inl ⟨by kernel_rfl, ?h18⟩) hHeld ?r18
              case h18 => intro W hSw; (try dsimp only at hSw); obtain ⟨z1, z2⟩ := hSw; go_simp; try with_reducible rfl
              simp only [Act.put, List.setIfInBounds_toArray, List.set_cons_zero, List.set_cons_succ]
              refine wpAnyH_take (i := 5) (v := ?v19) rfl (by kernel_rfl) (by kernel_rfl) (by kernel_rfl) (fun _ _ _ h => h) (Or.inl ⟨by kernel_rfl, ?h19⟩) hHeld ?r19
              case h19 => intro W hSw; (try dsimp only at hSw); obtain ⟨z1, z2⟩ := hSw; go_simp; try with_reducible rfl
              simp only [Act.put, List.setIfInBounds_toArray, List.set_cons_zero, List.set_cons_succ]
              refine wpAnyH_take (i := 6) (v := ?v20) rfl (by kernel_rfl) (by kernel_rfl) (by kernel_rfl) (fun _ _ _ h => h) (Or.inl ⟨by kernel_rfl, ?h20⟩) hHeld ?r20
              case h20 => intro W hSw; (try dsimp only at hSw); obtain ⟨z1, z2⟩ := hSw; go_simp; try with_reducible rfl
              simp only [Act.put, List.setIfInBounds_toArray, List.set_cons_zero, List.set_cons_succ]
              refine wpAnyH_take (i := 7) (v := ?v21) rfl (by kernel_rfl) (by kernel_rfl) (by kernel_rfl) (fun _ _ _ h => h) (Or.inl ⟨by kernel_rfl, ?h21⟩) hHeld ?r21
              case h21 => intro W hSw; (try dsimp only at hSw); obtain ⟨z1, z2⟩ := hSw; go_simp; try with_reducible rfl
              simp only [Act.put, List.setIfInBounds_toArray, List.set_cons_zero, List.set_cons_succ]
              refine wpAnyH_take (i := 8) (v := ?v22) rfl (by kernel_rfl) (by kernel_rfl) (by kernel_rfl) (fun _ _ _ h => h) (Or.inl ⟨by kernel_rfl, ?h22⟩) hHeld ?r22
              case h22 => intro W hSw; (try dsimp only at hSw); obtain ⟨z1, z2⟩ := hSw; go_simp; try with_reducible rfl
              simp only [Act.put, List.setIfInBounds_toArray, List.set_cons_zero, List.set_cons_succ]
              refine wpAnyH_take (i := 9) (v := ?v23) rfl (by kernel_rfl) (by kernel_rfl) (by kernel_rfl) (fun _ _ _ h => h) (Or.inl ⟨by kernel_rfl, ?h23⟩) hHeld ?r23
              case h23 => intro W hSw; (try dsimp only at hSw); obtain ⟨z1, z2⟩ := hSw; go_simp; try with_reducible rfl
              simp only [Act.put, List.setIfInBounds_toArray, List.set_cons_zero, List.set_cons_succ]
              refine wpAnyH_ready (rs := [10]) (by kernel_rfl) (by simp) ?_
              refine AllReadyH.cons rfl (fun K hK => ?_) AllReadyH.nil
              go_simp
              go_wp2_with (first | (go_at_call 59; refine (CM.out _).mono ?_; rintro e w9 ⟨rfl, b9⟩; have R9 : Hid (Below wr.heap.size wr w9) := below_trans hrd.out b9))
              refine hK.out _ _ (HS.out _ R9.out) (fun hHeld => ?_)
              clear hK K
              (try simp only [Act.put, List.setIfInBounds_toArray, List.set_cons_zero, List.set_cons_succ])
              refine wpAnyH_take (i := 11) (v := ?v24) rfl (by kernel_rfl) (by kernel_rfl) (by kernel_rfl) (fun _ _ _ h => h) (Or.inl ⟨by kernel_rfl, ?h24⟩) hHeld ?r24
              case h24 => intro W hSw; (try dsimp only at hSw); obtain ⟨z1, z2⟩ := hSw; go_simp; try with_reducible rfl
              simp only [Act.put, List.setIfInBounds_toArray, List.set_cons_zero, List.set_cons_succ]
              refine wpAnyH_take (i := 12) (v := ?v25) rfl (by kernel_rfl) (by kernel_rfl) (by kernel_rfl) (fun _ _ _ h => h) (Or.inl ⟨by kernel_rfl, ?h25⟩) hHeld ?r25
              case h25 => intro W hSw; (try dsimp only at hSw); obtain ⟨z1, z2⟩ := hSw; go_simp; try with_reducible rfl
              simp only [Act.put, List.setIfInBounds_toArray, List.set_cons_zero, List.set_cons_succ]
              refine wpAnyH_take (i := 13) (v := ?v26) rfl (by kernel_rfl) (by kernel_rfl) (by kernel_rfl) (fun _ _ _ h => h) (Or.inl ⟨by kernel_rfl, ?h26⟩) hHeld ?r26
              case h26 => intro W hSw; (try dsimp only at hSw); obtain ⟨z1, z2⟩ := hSw; go_simp; try with_reducible rfl
              simp only [Act.put, List.setIfInBounds_toArray, List.set_cons_zero, List.set_cons_succ]
              refine wpAnyH_ready (rs := [14]) (by kernel_rfl) (by simp) ?_
              refine AllReadyH.cons rfl (fun K hK => ?_) AllReadyH.nil
              go_simp
              refine hK.out _ _ (HS.out _ R9.out) (fun hHeld => ?_)
              clear hK K
              (try simp only [Act.put, List.setIfInBounds_toArray, List.set_cons_zero, List.set_cons_succ])
              refine wpAnyH_ready (rs := [15]) (by kernel_rfl) (by simp) ?_
              refine AllReadyH.cons rfl (fun K hK => ?_) AllReadyH.nil
              go_simp
              refine hK.out _ _ (HS.out _ R9.out) (fun hHeld => ?_)
              clear hK K
              (try simp only [Act.put, List.setIfInBounds_toArray, List.set_cons_zero, List.set_cons_succ])
              refine wpAnyH_done (by kernel_rfl) ?_ _
              have y2 := (HS.out _ R9.out).1
              have y3 := (HS.out _ R9.out).2
              clear HS hrd
              go_wp2_with (go_at_call 60; refine (cD _).mono ?_; rintro e w8 ⟨rfl, hw⟩; obtain rfl := hw.symm)
              go_ret
              exact ⟨ret_b hm3.out.symm, below_trans hg R9.out⟩
            · have hq := str_beq s (vaT (vaF A).toNat).2.2
              rw [decide_eq_false hsd] at hq
              rw [decide_eq_true hsd, Bool.true_and] at hm2
              have hm3 := hid hm2
              generalize (vaT (vaF A).toNat).2.2 = T at cD hq
              generalize vaF A = K at *
              clear ho hm hm2 hd z4 hsd
              have HS : Hid (∀ W, Below wr.heap.size wr W → (W.cell? ⟨zb, zo, none⟩ = some (.string A) ∧ W.cell? ⟨zb, zo + 1, none⟩ = some (.string s))) := fun W g => ⟨below_cell g z2, below_cell g z3⟩
              have hrd : Hid (Below wr.heap.size wr wr.drew) := below_drewN (Below.refl _ _) 1
              have CM := hid cM
              clear cM
              go_upto_region 9 with (first | (go_at_call 58; refine (cF _).mono ?_; rintro e w1 ⟨rfl, hw⟩; obtain rfl := hw.symm) | fail)
              refine wp_region_held_drew (S := fun W => W.cell? ⟨zb, zo, none⟩ = some (.string A) ∧ W.cell? ⟨zb, zo + 1, none⟩ = some (.string s)) (by kernel_rfl) (HS.out _ hrd.out) (fun hHeld => ?_)
              refine wpAnyH_take (i := 0) (v := ?v27) rfl (by kernel_rfl) (by kernel_rfl) (by kernel_rfl) (fun _ _ _ h => h) (Or.inl ⟨by kernel_rfl, ?h27⟩) hHeld ?r27
              case h27 => intro W hSw; (try dsimp only at hSw); obtain ⟨z1, z2⟩ := hSw; go_simp; try with_reducible rfl
              simp only [Act.put, List.setIfInBounds_toArray, List.set_cons_zero, List.set_cons_succ]
              refine wpAnyH_take (i := 1) (v := ?v28) rfl (by kernel_rfl) (by kernel_rfl) (by kernel_rfl) (fun _ _ _ h => h) (Or.inl ⟨by kernel_rfl, ?h28⟩) hHeld ?r28
              case h28 => intro W hSw; (try dsimp only at hSw); obtain ⟨z1, z2⟩ := hSw; go_simp; try with_reducible rfl
              simp only [Act.put, List.setIfInBounds_toArray, List.set_cons_zero, List.set_cons_succ]
              refine wpAnyH_take (i := 2) (v := ?v29) rfl (by kernel_rfl) (by kernel_rfl) (by kernel_rfl) (fun _ _ _ h => h) (Or.inl ⟨by kernel_rfl, ?h29⟩) hHeld ?r29
              case h29 => intro W hSw; (try dsimp only at hSw); obtain ⟨z1, z2⟩ := hSw; go_simp; try with_reducible rfl
              simp only [Act.put, List.setIfInBounds_toArray, List.set_cons_zero, List.set_cons_succ]
              refine wpAnyH_take (i := 3) (v := ?v30) rfl (by kernel_rfl) (by kernel_rfl) (by kernel_rfl) (fun _ _ _ h => h) (Or.inl ⟨by kernel_rfl, ?h30⟩) hHeld ?r30
              case h30 => intro W hSw; (try dsimp only at hSw); obtain ⟨z1, z2⟩ := hSw; go_simp; try with_reducible rfl
              simp only [Act.put, List.setIfInBounds_toArray, List.set_cons_zero, List.set_cons_succ]
              refine wpAnyH_take (i := 4) (v := ?v31) rfl (by kernel_rfl) (by kernel_rfl) (by kernel_rfl) (fun _ _ _ h => h) (Or.inl ⟨by kernel_rfl, ?h31⟩) hHeld ?r31
              case h31 => intro W hSw; (try dsimp only at hSw); obtain ⟨z1, z2⟩ := hSw; go_simp; try with_reducible rfl
              simp only [Act.put, List.setIfInBounds_toArray, List.set_cons_zero, List.set_cons_succ]
              refine wpAnyH_take (i := 5) (v := ?v32) rfl (by kernel_rfl) (by kernel_rfl) (by kernel_rfl) (fun _ _ _ h => h) (Or.inl ⟨by kernel_rfl, ?h32⟩) hHeld ?r32
              case h32 => intro W hSw; (try dsimp only at hSw); obtain ⟨z1, z2⟩ := hSw; go_simp; try with_reducible rfl
              simp only [Act.put, List.setIfInBounds_toArray, List.set_cons_zero, List.set_cons_succ]
              refine wpAnyH_take (i := 6) (v := ?v33) rfl (by kernel_rfl) (by kernel_rfl) (by kernel_rfl) (fun _ _ _ h => h) (Or.inl ⟨by kernel_rfl, ?h33⟩) hHeld ?r33
              case h33 => intro W hSw; (try dsimp only at hSw); obtain ⟨z1, z2⟩ := hSw; go_simp; try with_reducible rfl
              simp only [Act.put, List.setIfInBounds_toArray, List.set_cons_zero, List.set_cons_succ]
              refine wpAnyH_take (i := 7) (v := ?v34) rfl (by kernel_rfl) (by kernel_rfl) (by kernel_rfl) (fun _ _ _ h => h) (Or.inl ⟨by kernel_rfl, ?h34⟩) hHeld ?r34
              case h34 => intro W hSw; (try dsimp only at hSw); obtain ⟨z1, z2⟩ := hSw; go_simp; try with_reducible rfl
              simp only [Act.put, List.setIfInBounds_toArray, List.set_cons_zero, List.set_cons_succ]
              refine wpAnyH_take (i := 8) (v := ?v35) rfl (by kernel_rfl) (by kernel_rfl) (by kernel_rfl) (fun _ _ _ h => h) (Or.inl ⟨by kernel_rfl, ?h35⟩) hHeld ?r35
              case h35 => intro W hSw; (try dsimp only at hSw); obtain ⟨z1, z2⟩ := hSw; go_simp; try with_reducible rfl
              simp only [Act.put, List.setIfInBounds_toArray, List.set_cons_zero, List.set_cons_succ]
              refine wpAnyH_take (i := 9) (v := ?v36) rfl (by kernel_rfl) (by kernel_rfl) (by kernel_rfl) (fun _ _ _ h => h) (Or.inl ⟨by kernel_rfl, ?h36⟩) hHeld ?r36
              case h36 => intro W hSw; (try dsimp only at hSw); obtain ⟨z1, z2⟩ := hSw; go_simp; try with_reducible rfl
              simp only [Act.put, List.setIfInBounds_toArray, List.set_cons_zero, List.set_cons_succ]
              refine wpAnyH_ready (rs := [10]) (by kernel_rfl) (by simp) ?_
              refine AllReadyH.cons rfl (fun K hK => ?_) AllReadyH.nil
              go_simp
              go_wp2_with (first | (go_at_call 59; refine (CM.out _).mono ?_; rintro e w9 ⟨rfl, b9⟩; have R9 : Hid (Below wr.heap.size wr w9) := below_trans hrd.out b9))
              refine hK.out _ _ (HS.out _ R9.out) (fun hHeld => ?_)
              clear hK K
              (try simp only [Act.put, List.setIfInBounds_toArray, List.set_cons_zero, List.set_cons_succ])
              refine wpAnyH_take (i := 11) (v := ?v37) rfl (by kernel_rfl) (by kernel_rfl) (by kernel_rfl) (fun _ _ _ h => h) (Or.inl ⟨by kernel_rfl, ?h37⟩) hHeld ?r37
              case h37 => intro W hSw; (try dsimp only at hSw); obtain ⟨z1, z2⟩ := hSw; go_simp; try with_reducible rfl
              simp only [Act.put, List.setIfInBounds_toArray, List.set_cons_zero, List.set_cons_succ]
              refine wpAnyH_take (i := 12) (v := ?v38) rfl (by kernel_rfl) (by kernel_rfl) (by kernel_rfl) (fun _ _ _ h => h) (Or.inl ⟨by kernel_rfl, ?h38⟩) hHeld ?r38
              case h38 => intro W hSw; (try dsimp only at hSw); obtain ⟨z1, z2⟩ := hSw; go_simp; try with_reducible rfl
              simp only [Act.put, List.setIfInBounds_toArray, List.set_cons_zero, List.set_cons_succ]
              refine wpAnyH_take (i := 13) (v := ?v39) rfl (by kernel_rfl) (by kernel_rfl) (by kernel_rfl) (fun _ _ _ h => h) (Or.inl ⟨by kernel_rfl, ?h39⟩) hHeld ?r39
              case h39 => intro W hSw; (try dsimp only at hSw); obtain ⟨z1, z2⟩ := hSw; go_simp; try with_reducible rfl
              simp only [Act.put, List.setIfInBounds_toArray, List.set_cons_zero, List.set_cons_succ]
              refine wpAnyH_ready (rs := [14]) (by kernel_rfl) (by simp) ?_
              refine AllReadyH.cons rfl (fun K hK => ?_) AllReadyH.nil
              go_simp
              refine hK.out _ _ (HS.out _ R9.out) (fun hHeld => ?_)
              clear hK K
              (try simp only [Act.put, List.setIfInBounds_toArray, List.set_cons_zero, List.set_cons_succ])
              refine wpAnyH_ready (rs := [15]) (by kernel_rfl) (by simp) ?_
              refine AllReadyH.cons rfl (fun K hK => ?_) AllReadyH.nil
              go_simp
              refine hK.out _ _ (HS.out _ R9.out) (fun hHeld => ?_)
              clear hK K
              (try simp only [Act.put, List.setIfInBounds_toArray, List.set_cons_zero, List.set_cons_succ])
              refine wpAnyH_done (by kernel_rfl) ?_ _
              have y2 := (HS.out _ R9.out).1
              have y3 := (HS.out _ R9.out).2
              clear HS hrd
              go_wp2_with (go_at_call 60; refine (cD _).mono ?_; rintro e w8 ⟨rfl, hw⟩; obtain rfl := hw.symm)
              go_roundw
              case rel => exact ⟨k + 1, K, by omega, by go_num, rfl, by omega, by omega, hm3, below_trans hg R9.out⟩
              case measure => simp [intOf]; omega
          · have hq := str_beq s V
            rw [decide_eq_false hsv] at hq
            rw [decide_eq_false (fun z => hsv (by simpa using z)), Bool.false_and] at hm2
            have hm3 := hid hm2
            generalize (vaT (vaF A).toNat).2.2 = T at cD
            generalize vaF A = K at *
            clear ho hm hm2 hd z4 h hsv
            have HS : Hid (∀ W, Below wr.heap.size wr W → (W.cell? ⟨zb, zo, none⟩ = some (.string A) ∧ W.cell? ⟨zb, zo + 1, none⟩ = some (.string V))) := fun W g => ⟨below_cell g z2, below_cell g z3⟩
            have hrd : Hid (Below wr.heap.size wr wr.drew) := below_drewN (Below.refl _ _) 1
            have CM := hid cM
            clear cM
            go_upto_region 9 with (first | (go_at_call 58; refine (cF _).mono ?_; rintro e w1 ⟨rfl, hw⟩; obtain rfl := hw.symm) | fail)
            refine wp_region_held_drew (S := fun W => W.cell? ⟨zb, zo, none⟩ = some (.string A) ∧ W.cell? ⟨zb, zo + 1, none⟩ = some (.string V)) (by kernel_rfl) (HS.out _ hrd.out) (fun hHeld => ?_)
            refine wpAnyH_take (i := 0) (v := ?v40) rfl (by kernel_rfl) (by kernel_rfl) (by kernel_rfl) (fun _ _ _ h => h) (Or.inl ⟨by kernel_rfl, ?h40⟩) hHeld ?r40
            case h40 => intro W hSw; (try dsimp only at hSw); obtain ⟨z1, z2⟩ := hSw; go_simp; try with_reducible rfl
            simp only [Act.put, List.setIfInBounds_toArray, List.set_cons_zero, List.set_cons_succ]
            refine wpAnyH_take (i := 1) (v := ?v41) rfl (by kernel_rfl) (by kernel_rfl) (by kernel_rfl) (fun _ _ _ h => h) (Or.inl ⟨by kernel_rfl, ?h41⟩) hHeld ?r41
            case h41 => intro W hSw; (try dsimp only at hSw); obtain ⟨z1, z2⟩ := hSw; go_simp; try with_reducible rfl
            simp only [Act.put, List.setIfInBounds_toArray, List.set_cons_zero, List.set_cons_succ]
            refine wpAnyH_take (i := 2) (v := ?v42) rfl (by kernel_rfl) (by kernel_rfl) (by kernel_rfl) (fun _ _ _ h => h) (Or.inl ⟨by kernel_rfl, ?h42⟩) hHeld ?r42
            case h42 => intro W hSw; (try dsimp only at hSw); obtain ⟨z1, z2⟩ := hSw; go_simp; try with_reducible rfl
            simp only [Act.put, List.setIfInBounds_toArray, List.set_cons_zero, List.set_cons_succ]
            refine wpAnyH_take (i := 3) (v := ?v43) rfl (by kernel_rfl) (by kernel_rfl) (by kernel_rfl) (fun _ _ _ h => h) (Or.inl ⟨by kernel_rfl, ?h43⟩) hHeld ?r43
            case h43 => intro W hSw; (try dsimp only at hSw); obtain ⟨z1, z2⟩ := hSw; go_simp; try with_reducible rfl
            simp only [Act.put, List.setIfInBounds_toArray, List.set_cons_zero, List.set_cons_succ]
            refine wpAnyH_take (i := 4) (v := ?v44) rfl (by kernel_rfl) (by kernel_rfl) (by kernel_rfl) (fun _ _ _ h => h) (Or.inl ⟨by kernel_rfl, ?h44⟩) hHeld ?r44
            case h44 => intro W hSw; (try dsimp only at hSw); obtain ⟨z1, z2⟩ := hSw; go_simp; try with_reducible rfl
            simp only [Act.put, List.setIfInBounds_toArray, List.set_cons_zero, List.set_cons_succ]
            refine wpAnyH_take (i := 5) (v := ?v45) rfl (by kernel_rfl) (by kernel_rfl) (by kernel_rfl) (fun _ _ _ h => h) (Or.inl ⟨by kernel_rfl, ?h45⟩) hHeld ?r45
            case h45 => intro W hSw; (try dsimp only at hSw); obtain ⟨z1, z2⟩ := hSw; go_simp; try with_reducible rfl
            simp only [Act.put, List.setIfInBounds_toArray, List.set_cons_zero, List.set_cons_succ]
            refine wpAnyH_take (i := 6) (v := ?v46) rfl (by kernel_rfl) (by kernel_rfl) (by kernel_rfl) (fun _ _ _ h => h) (Or.inl ⟨by kernel_rfl, ?h46⟩) hHeld ?r46
            case h46 => intro W hSw; (try dsimp only at hSw); obtain ⟨z1, z2⟩ := hSw; go_simp; try with_reducible rfl
            simp only [Act.put, List.setIfInBounds_toArray, List.set_cons_zero, List.set_cons_succ]
            refine wpAnyH_take (i := 7) (v := ?v47) rfl (by kernel_rfl) (by kernel_rfl) (by kernel_rfl) (fun _ _ _ h => h) (Or.inl ⟨by kernel_rfl, ?h47⟩) hHeld ?r47
            case h47 => intro W hSw; (try dsimp only at hSw); obtain ⟨z1, z2⟩ := hSw; go_simp; try with_reducible rfl
            simp only [Act.put, List.setIfInBounds_toArray, List.set_cons_zero, List.set_cons_succ]
            refine wpAnyH_take (i := 8) (v := ?v48) rfl (by kernel_rfl) (by kernel_rfl) (by kernel_rfl) (fun _ _ _ h => h) (Or.inl ⟨by kernel_rfl, ?h48⟩) hHeld ?r48
            case h48 => intro W hSw; (try dsimp only at hSw); obtain ⟨z1, z2⟩ := hSw; go_simp; try with_reducible rfl
            simp only [Act.put, List.setIfInBounds_toArray, List.set_cons_zero, List.set_cons_succ]
            refine wpAnyH_take (i := 9) (v := ?v49) rfl (by kernel_rfl) (by kernel_rfl) (by kernel_rfl) (fun _ _ _ h => h) (Or.inl ⟨by kernel_rfl, ?h49⟩) hHeld ?r49
            case h49 => intro W hSw; (try dsimp only at hSw); obtain ⟨z1, z2⟩ := hSw; go_simp; try with_reducible rfl
            simp only [Act.put, List.setIfInBounds_toArray, List.set_cons_zero, List.set_cons_succ]
            refine wpAnyH_ready (rs := [10]) (by kernel_rfl) (by simp) ?_
            refine AllReadyH.cons rfl (fun K hK => ?_) AllReadyH.nil
            go_simp
            go_wp2_with (first | (go_at_call 59; refine (CM.out _).mono ?_; rintro e w9 ⟨rfl, b9⟩; have R9 : Hid (Below wr.heap.size wr w9) := below_trans hrd.out b9))
            refine hK.out _ _ (HS.out _ R9.out) (fun hHeld => ?_)
            clear hK K
            (try simp only [Act.put, List.setIfInBounds_toArray, List.set_cons_zero, List.set_cons_succ])
            refine wpAnyH_take (i := 11) (v := ?v50) rfl (by kernel_rfl) (by kernel_rfl) (by kernel_rfl) (fun _ _ _ h => h) (Or.inl ⟨by kernel_rfl, ?h50⟩) hHeld ?r50
            case h50 => intro W hSw; (try dsimp only at hSw); obtain ⟨z1, z2⟩ := hSw; go_simp; try with_reducible rfl
            simp only [Act.put, List.setIfInBounds_toArray, List.set_cons_zero, List.set_cons_succ]
            refine wpAnyH_take (i := 12) (v := ?v51) rfl (by kernel_rfl) (by kernel_rfl) (by kernel_rfl) (fun _ _ _ h => h) (Or.inl ⟨by kernel_rfl, ?h51⟩) hHeld ?r51
            case h51 => intro W hSw; (try dsimp only at hSw); obtain ⟨z1, z2⟩ := hSw; go_simp; try with_reducible rfl
            simp only [Act.put, List.setIfInBounds_toArray, List.set_cons_zero, List.set_cons_succ]
            refine wpAnyH_take (i := 13) (v := ?v52) rfl (by kernel_rfl) (by kernel_rfl) (by kernel_rfl) (fun _ _ _ h => h) (Or.inl ⟨by kernel_rfl, ?h52⟩) hHeld ?r52
            case h52 => intro W hSw; (try dsimp only at hSw); obtain ⟨z1, z2⟩ := hSw; go_simp; try with_reducible rfl
            simp only [Act.put, List.setIfInBounds_toArray, List.set_cons_zero, List.set_cons_succ]
            refine wpAnyH_ready (rs := [14]) (by kernel_rfl) (by simp) ?_
            refine AllReadyH.cons rfl (fun K hK => ?_) AllReadyH.nil
            go_simp
            refine hK.out _ _ (HS.out _ R9.out) (fun hHeld => ?_)
            clear hK K
            (try simp only [Act.put, List.setIfInBounds_toArray, List.set_cons_zero, List.set_cons_succ])
            refine wpAnyH_ready (rs := [15]) (by kernel_rfl) (by simp) ?_
            refine AllReadyH.cons rfl (fun K hK => ?_) AllReadyH.nil
            go_simp
            refine hK.out _ _ (HS.out _ R9.out) (fun hHeld => ?_)
            clear hK K
            (try simp only [Act.put, List.setIfInBounds_toArray, List.set_cons_zero, List.set_cons_succ])
            refine wpAnyH_done (by kernel_rfl) ?_ _
            have y2 := (HS.out _ R9.out).1
            have y3 := (HS.out _ R9.out).2
            clear HS hrd
            go_wp2_with (go_at_call 60; refine (cD _).mono ?_; rintro e w8 ⟨rfl, hw⟩; obtain rfl := hw.symm)
            go_ret
            exact ⟨ret_b hm3.out.symm, below_trans hg R9.out⟩
      · rw [decide_eq_false hlast, Bool.false_and] at hm2
        have hm3 := hid hm2
        generalize vaF A = K at *
        clear hm hm2 hd z4 h cM
        go_wp2_with (go_at_call 58; refine (cF _).mono ?_; rintro e w1 ⟨rfl, hw⟩; obtain rfl := hw.symm)
        go_ret
        exact ⟨ret_b hm3.out.symm, hg⟩
    · have hm2 := hm.out
      rw [List.drop_of_length_le (by omega)] at hm2
      have hm3 : Hid (vaG (-1) l = true) := hm2
      clear hm hm2 h
      go_wp2_with fail
      go_ret
      exact ⟨ret_b hm3.out.symm, hg⟩

end Go.Proofs.YtaiimfdcbdfbdabDoor
