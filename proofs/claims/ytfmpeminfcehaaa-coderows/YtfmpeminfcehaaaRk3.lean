/-
  Formed of the document's answer for code.
-/
import Derived.Test.YtfmpeminfcehaaaRk2
namespace Go.Proofs.Ytfmpeminfcehaaa
open Go.ChangeShapes Go.WideShapes Go.ChangeAt Go.RowKit
set_option linter.unusedVariables false
set_option linter.unusedSimpArgs false

theorem frmD_no {d : Dft} (h : ¬ (d.code.length ≤ 256 ∧ d.origs.all (okOr d.code) = true ∧ d.dests.all (okDe d.code) = true ∧ d.loops.all (okLo d.code) = true ∧ d.cases.all (okCa d.code) = true)) : frmD d = false := by
  rw [Bool.eq_false_iff]
  intro g
  unfold frmD at g
  simp only [Bool.and_eq_true, decide_eq_true_eq] at g
  exact h g
theorem all_no {α : Type} {p : α → Bool} {l : List α} {k : Nat} (h : k < l.length) (hp : p l[k] = false) : ¬ l.all p = true := by
  intro g
  have := List.all_eq_true.1 g _ (List.getElem_mem h)
  rw [hp] at this
  cases this
theorem all_step {α : Type} {p : α → Bool} {l : List α} {k : Nat} (h : k < l.length) (ht : (l.take k).all p = true) (hp : p l[k] = true) : (l.take (k + 1)).all p = true := by
  rw [List.take_succ_eq_append_getElem h, List.all_append, ht]
  simp [hp]
theorem all_done {α : Type} {p : α → Bool} {l : List α} {k : Nat} (h : l.length ≤ k) (ht : (l.take k).all p = true) : l.all p = true := by
  rw [List.take_of_length_le h] at ht
  exact ht

set_option maxHeartbeats 100000000 in
set_option maxRecDepth 100000 in
theorem w_r10formed (v : Dv) (d : Dft) (w : World) (h : RdD w v d) :
    Calls Try.prog 13 #[.agg v.cs] w fun e w' => e = .returned (.bool (frmD d)) ∧ Below w.heap.size w w' := by
  have bw := box_below w (.cells v.cs 26)
  have st := stands_new w v.cs 26
  have l0 := slr_len h.code uO (P := Try.prog)
  have l1 := rd_len h.origs uJ (P := Try.prog)
  have l2 := rd_len h.dests uJ (P := Try.prog)
  have l3 := slr_len h.loops uK (P := Try.prog)
  have l4 := slr_len h.cases uK (P := Try.prog)
  have m1 : d.origs.length ≤ maxLen := by
    rcases h.origs with ⟨_, _, _, _, e⟩ | ⟨_, _, _, _, _, g1, g2, _⟩
    · rw [e]; simp
    · omega
  have m2 : d.dests.length ≤ maxLen := by
    rcases h.dests with ⟨_, _, _, _, e⟩ | ⟨_, _, _, _, _, g1, g2, _⟩
    · rw [e]; simp
    · omega
  have m3 := slr_max h.loops
  have m4 := slr_max h.cases
  unfold maxLen at m1 m2 m3 m4
  have ck := fun n W (g : Below w.heap.size w W) => w_r10kind v d.code n W (h.code.below g)
  have ca := fun vl l K W (g : Below w.heap.size w W) (hl : Rd .i64 W vl l) => w_r10all v d.code vl l K W (h.code.below g) hl
  have H := hid h
  clear h
  obtain ⟨x0, x1, x2, x3, x4⟩ := v
  simp only [Dv.cs] at st bw ck ca l0 l1 l2 l3 l4 ⊢
  have no := fun g => hid (frmD_no (d := d) g)
  have CK := hid ck
  have CA := hid ca
  clear ck ca
  by_cases h256 : (256 : Int) < d.code.length
  · have hf := no (by omega)
    go_enter Try.func13, Try.ntmps13
    go_upto_region 1 with fail
    generalize w.alloc (.cells #[x0, x1, x2, x3, x4] 26) = W0 at st bw ⊢
    have f0 := st.cell 0 _ rfl
    go_wp2_with fail
    go_ret
    exact ⟨ret_b hf.out.symm, bw⟩
  · go_enter Try.func13, Try.ntmps13
    go_upto_region 1 with fail
    generalize w.alloc (.cells #[x0, x1, x2, x3, x4] 26) = W0 at st bw ⊢
    have f0 := st.cell 0 _ rfl
    have NO := hid no
    clear no
    go_wp2_with fail
    go_loopw [3] (fun I wx => ∃ k : Nat, (k : Int) ≤ d.origs.length ∧ I = .int .i64 k ∧ Hid ((d.origs.take k).all (okOr d.code) = true) ∧ Below W0.heap.size W0 wx) (fun I _ => (d.origs.length - intOf I).toNat)
    case atStart => exact ⟨0, by omega, rfl, hid rfl, Below.refl _ _⟩
    case round =>
      obtain ⟨k, hk, rfl, ht, hg⟩ := hrel
      have f1 := (st.below hg).cell 1 _ rfl
      by_cases hlt : (k : Int) < d.origs.length
      · have hkl : k < d.origs.length := by omega
        obtain ⟨a1, i1, c1⟩ := rd_idx (H.out.origs.below (below_trans bw hg)) uJ zJ k (by omega) hlt
        simp only [Int.toNat_natCast] at c1
        rw [show d.origs.getD k 0 = d.origs[k] by rw [List.getD_eq_getElem?_getD, List.getElem?_eq_getElem hkl]; rfl] at c1
        have hok : okOr d.code d.origs[k] = decide (kndF d.code d.origs[k] = 3 ∨ kndF d.code d.origs[k] = 4) := rfl
        have bad := fun g => NO.out (fun q => all_no (p := okOr d.code) hkl g q.2.1)
        have good := fun g => hid (all_step (p := okOr d.code) hkl ht.out g)
        obtain ⟨X, hX⟩ : ∃ X, d.origs[k] = X := ⟨_, rfl⟩
        rw [hX] at c1 hok bad good
        have Z : Hid (∀ W, Below wr.heap.size wr W → (W.cell? ⟨w.heap.size, 0, none⟩ = some x0 ∧ W.cell? ⟨w.heap.size, 1, none⟩ = some x1 ∧ W.cell? ⟨w.heap.size, 2, none⟩ = some x2 ∧ W.cell? ⟨w.heap.size, 3, none⟩ = some x3 ∧ W.cell? ⟨w.heap.size, 4, none⟩ = some x4) ∧ W.cell? a1 = some (.int .i64 X)) := by
          show ∀ W, _
          intro W q
          have s := (st.below hg).below q
          exact ⟨⟨s.cell 0 _ rfl, s.cell 1 _ rfl, s.cell 2 _ rfl, s.cell 3 _ rfl, s.cell 4 _ rfl⟩, below_cell q c1⟩
        have hrd : Hid (Below wr.heap.size wr wr.drew) := below_drewN (Below.refl _ _) 1
        have ckx := fun W g => CK.out X W g
        obtain ⟨A, hA⟩ : ∃ A, kndF d.code X = A := ⟨_, rfl⟩
        rw [hA] at hok
        simp only [hA] at ckx
        have CX := hid ckx
        have HB : Hid (Below w.heap.size w wr) := below_trans bw hg
        clear ckx hX hA c1
        by_cases h3 : A = 3
        · have q3 : (A != 3) = false := by simp [h3]
          have ht2 := good (by rw [hok, h3]; rfl)
          clear good bad hok h3 ht
          go_wp2_with fail
          refine wp_region_held_drew (S := fun W => (W.cell? ⟨w.heap.size, 0, none⟩ = some x0 ∧ W.cell? ⟨w.heap.size, 1, none⟩ = some x1 ∧ W.cell? ⟨w.heap.size, 2, none⟩ = some x2 ∧ W.cell? ⟨w.heap.size, 3, none⟩ = some x3 ∧ W.cell? ⟨w.heap.size, 4, none⟩ = some x4) ∧ W.cell? a1 = some (.int .i64 X)) (by kernel_rfl) (Z.out _ hrd.out) (fun hHeld => ?_)
          refine wpAnyH_take (i := 0) (v := ?v1) rfl (by kernel_rfl) (by kernel_rfl) (by kernel_rfl) (fun _ _ _ h => h) (Or.inl ⟨by kernel_rfl, ?h1⟩) hHeld ?r1
          case h1 => intro W hSw; (try dsimp only at hSw); obtain ⟨⟨s0, s1, s2, s3, s4⟩, s5⟩ := hSw; go_simp; try with_reducible rfl
          simp only [Act.put, List.setIfInBounds_toArray, List.set_cons_zero, List.set_cons_succ]
          refine wpAnyH_take (i := 1) (v := ?v2) rfl (by kernel_rfl) (by kernel_rfl) (by kernel_rfl) (fun _ _ _ h => h) (Or.inl ⟨by kernel_rfl, ?h2⟩) hHeld ?r2
          case h2 => intro W hSw; (try dsimp only at hSw); obtain ⟨⟨s0, s1, s2, s3, s4⟩, s5⟩ := hSw; go_simp; try with_reducible rfl
          simp only [Act.put, List.setIfInBounds_toArray, List.set_cons_zero, List.set_cons_succ]
          refine wpAnyH_take (i := 2) (v := ?v3) rfl (by kernel_rfl) (by kernel_rfl) (by kernel_rfl) (fun _ _ _ h => h) (Or.inl ⟨by kernel_rfl, ?h3⟩) hHeld ?r3
          case h3 => intro W hSw; (try dsimp only at hSw); obtain ⟨⟨s0, s1, s2, s3, s4⟩, s5⟩ := hSw; go_simp; try with_reducible rfl
          simp only [Act.put, List.setIfInBounds_toArray, List.set_cons_zero, List.set_cons_succ]
          refine wpAnyH_take (i := 3) (v := ?v4) rfl (by kernel_rfl) (by kernel_rfl) (by kernel_rfl) (fun _ _ _ h => h) (Or.inl ⟨by kernel_rfl, ?h4⟩) hHeld ?r4
          case h4 => intro W hSw; (try dsimp only at hSw); obtain ⟨⟨s0, s1, s2, s3, s4⟩, s5⟩ := hSw; go_simp; try with_reducible rfl
          simp only [Act.put, List.setIfInBounds_toArray, List.set_cons_zero, List.set_cons_succ]
          refine wpAnyH_take (i := 4) (v := ?v5) rfl (by kernel_rfl) (by kernel_rfl) (by kernel_rfl) (fun _ _ _ h => h) (Or.inl ⟨by kernel_rfl, ?h5⟩) hHeld ?r5
          case h5 => intro W hSw; (try dsimp only at hSw); obtain ⟨⟨s0, s1, s2, s3, s4⟩, s5⟩ := hSw; go_simp; try with_reducible rfl
          simp only [Act.put, List.setIfInBounds_toArray, List.set_cons_zero, List.set_cons_succ]
          refine wpAnyH_take (i := 5) (v := ?v6) rfl (by kernel_rfl) (by kernel_rfl) (by kernel_rfl) (fun _ _ _ h => h) (Or.inl ⟨by kernel_rfl, ?h6⟩) hHeld ?r6
          case h6 => intro W hSw; (try dsimp only at hSw); obtain ⟨⟨s0, s1, s2, s3, s4⟩, s5⟩ := hSw; go_simp; try with_reducible rfl
          simp only [Act.put, List.setIfInBounds_toArray, List.set_cons_zero, List.set_cons_succ]
          refine wpAnyH_ready (rs := [6]) (by kernel_rfl) (by simp) ?_
          refine AllReadyH.cons rfl (fun K hK => ?_) AllReadyH.nil
          go_simp
          go_wp2_with (first | (go_at_call 29; refine (CX.out _ (below_trans HB.out hrd.out)).mono ?_; rintro e w2 ⟨rfl, d2⟩; have R2 : Hid (Below wr.heap.size wr w2) := below_trans hrd.out d2; clear d2))
          refine hK.out _ _ (Z.out _ R2.out) (fun hHeld => ?_)
          clear hK K
          refine wpAnyH_take (i := 7) (v := ?v7) rfl (by kernel_rfl) (by kernel_rfl) (by kernel_rfl) (fun _ _ _ h => h) (Or.inl ⟨by kernel_rfl, ?h7⟩) hHeld ?r7
          case h7 => intro W hSw; (try dsimp only at hSw); obtain ⟨⟨s0, s1, s2, s3, s4⟩, s5⟩ := hSw; go_simp; try with_reducible rfl
          simp only [Act.put, List.setIfInBounds_toArray, List.set_cons_zero, List.set_cons_succ]
          refine wpAnyH_take (i := 8) (v := ?v8) rfl (by kernel_rfl) (by kernel_rfl) (by kernel_rfl) (fun _ _ _ h => h) (Or.inl ⟨by kernel_rfl, ?h8⟩) hHeld ?r8
          case h8 => intro W hSw; (try dsimp only at hSw); obtain ⟨⟨s0, s1, s2, s3, s4⟩, s5⟩ := hSw; go_simp; try with_reducible rfl
          simp only [Act.put, List.setIfInBounds_toArray, List.set_cons_zero, List.set_cons_succ]
          refine wpAnyH_take (i := 9) (v := undef) rfl (by kernel_rfl) (by kernel_rfl) (by kernel_rfl) (fun _ _ _ h => h) (Or.inr ⟨by kernel_rfl, rfl⟩) hHeld ?_
          simp only [Act.put, List.setIfInBounds_toArray, List.set_cons_zero, List.set_cons_succ]
          refine wpAnyH_take (i := 10) (v := undef) rfl (by kernel_rfl) (by kernel_rfl) (by kernel_rfl) (fun _ _ _ h => h) (Or.inr ⟨by kernel_rfl, rfl⟩) hHeld ?_
          simp only [Act.put, List.setIfInBounds_toArray, List.set_cons_zero, List.set_cons_succ]
          refine wpAnyH_take (i := 11) (v := undef) rfl (by kernel_rfl) (by kernel_rfl) (by kernel_rfl) (fun _ _ _ h => h) (Or.inr ⟨by kernel_rfl, rfl⟩) hHeld ?_
          simp only [Act.put, List.setIfInBounds_toArray, List.set_cons_zero, List.set_cons_succ]
          refine wpAnyH_take (i := 12) (v := undef) rfl (by kernel_rfl) (by kernel_rfl) (by kernel_rfl) (fun _ _ _ h => h) (Or.inr ⟨by kernel_rfl, rfl⟩) hHeld ?_
          simp only [Act.put, List.setIfInBounds_toArray, List.set_cons_zero, List.set_cons_succ]
          refine wpAnyH_take (i := 13) (v := undef) rfl (by kernel_rfl) (by kernel_rfl) (by kernel_rfl) (fun _ _ _ h => h) (Or.inr ⟨by kernel_rfl, rfl⟩) hHeld ?_
          simp only [Act.put, List.setIfInBounds_toArray, List.set_cons_zero, List.set_cons_succ]
          refine wpAnyH_take (i := 14) (v := undef) rfl (by kernel_rfl) (by kernel_rfl) (by kernel_rfl) (fun _ _ _ h => h) (Or.inr ⟨by kernel_rfl, rfl⟩) hHeld ?_
          simp only [Act.put, List.setIfInBounds_toArray, List.set_cons_zero, List.set_cons_succ]
          refine wpAnyH_ready (rs := [15]) (by kernel_rfl) (by simp) ?_
          refine AllReadyH.cons rfl (fun K hK => ?_) AllReadyH.nil
          go_simp
          refine hK.out _ _ (Z.out _ R2.out) (fun hHeld => ?_)
          clear hK K
          refine wpAnyH_take (i := 16) (v := undef) rfl (by kernel_rfl) (by kernel_rfl) (by kernel_rfl) (fun _ _ _ h => h) (Or.inr ⟨by kernel_rfl, rfl⟩) hHeld ?_
          simp only [Act.put, List.setIfInBounds_toArray, List.set_cons_zero, List.set_cons_succ]
          refine wpAnyH_take (i := 17) (v := ?v16) rfl (by kernel_rfl) (by kernel_rfl) (by kernel_rfl) (fun _ _ _ h => h) (Or.inl ⟨by kernel_rfl, ?h16⟩) hHeld ?r16
          case h16 => intro W hSw; (try dsimp only at hSw); obtain ⟨⟨s0, s1, s2, s3, s4⟩, s5⟩ := hSw; go_simp; try with_reducible rfl
          simp only [Act.put, List.setIfInBounds_toArray, List.set_cons_zero, List.set_cons_succ]
          refine wpAnyH_done (by kernel_rfl) ?_ _
          have HG := below_trans hg R2.out
          go_wp2_with fail
          go_roundw
          case rel => exact ⟨k + 1, by omega, by go_num, ht2, HG⟩
          case measure => simp [intOf]; omega
        · have q3 : (A != 3) = true := by simp [h3]
          by_cases h4 : A = 4
          · have q4 : (A != 4) = false := by simp [h4]
            have ht2 := good (by rw [hok, h4]; rfl)
            clear good bad hok h3 h4 ht
            go_wp2_with fail
            go_region_held2 (fun W => (W.cell? ⟨w.heap.size, 0, none⟩ = some x0 ∧ W.cell? ⟨w.heap.size, 1, none⟩ = some x1 ∧ W.cell? ⟨w.heap.size, 2, none⟩ = some x2 ∧ W.cell? ⟨w.heap.size, 3, none⟩ = some x3 ∧ W.cell? ⟨w.heap.size, 4, none⟩ = some x4) ∧ W.cell? a1 = some (.int .i64 X)) (first | with_reducible exact Z.out _ hrd.out | with_reducible exact Z.out _ R2.out | with_reducible exact Z.out _ R3.out)
              (first | ((go_at_call 29; refine (CX.out _ (below_trans HB.out R2.out)).mono ?_; rintro e w3 ⟨rfl, d3⟩; have R3 : Hid (Below wr.heap.size wr w3) := below_trans R2.out d3; clear d3)) | ((go_at_call 29; refine (CX.out _ (below_trans HB.out hrd.out)).mono ?_; rintro e w2 ⟨rfl, d2⟩; have R2 : Hid (Below wr.heap.size wr w2) := below_trans hrd.out d2; clear d2)))
            have HG := below_trans hg R3.out
            go_wp2_with fail
            go_roundw
            case rel => exact ⟨k + 1, by omega, by go_num, ht2, HG⟩
            case measure => simp [intOf]; omega
          · have q4 : (A != 4) = true := by simp [h4]
            have hf := bad (by rw [hok]; simp [h3, h4])
            clear good bad hok h3 h4 ht
            go_wp2_with fail
            go_region_held2 (fun W => (W.cell? ⟨w.heap.size, 0, none⟩ = some x0 ∧ W.cell? ⟨w.heap.size, 1, none⟩ = some x1 ∧ W.cell? ⟨w.heap.size, 2, none⟩ = some x2 ∧ W.cell? ⟨w.heap.size, 3, none⟩ = some x3 ∧ W.cell? ⟨w.heap.size, 4, none⟩ = some x4) ∧ W.cell? a1 = some (.int .i64 X)) (first | with_reducible exact Z.out _ hrd.out | with_reducible exact Z.out _ R2.out | with_reducible exact Z.out _ R3.out)
              (first | ((go_at_call 29; refine (CX.out _ (below_trans HB.out R2.out)).mono ?_; rintro e w3 ⟨rfl, d3⟩; have R3 : Hid (Below wr.heap.size wr w3) := below_trans R2.out d3; clear d3)) | ((go_at_call 29; refine (CX.out _ (below_trans HB.out hrd.out)).mono ?_; rintro e w2 ⟨rfl, d2⟩; have R2 : Hid (Below wr.heap.size wr w2) := below_trans hrd.out d2; clear d2)))
            have HG := below_trans hg R3.out
            go_wp2_with fail
            go_ret
            exact ⟨ret_b hf.out.symm, below_trans bw (HG)⟩
      · have D1 := hid (all_done (p := okOr d.code) (by omega) ht.out)
        obtain ⟨w1, hw1⟩ : ∃ w1, w1 = wr := ⟨_, rfl⟩
        subst hw1
        have g1 := hg
        clear ht hg
        go_wp2_with fail
        clear hlt f1 hk
        go_loopw [4] (fun I wx => ∃ k : Nat, (k : Int) ≤ d.dests.length ∧ I = .int .i64 k ∧ Hid ((d.dests.take k).all (okDe d.code) = true) ∧ Below W0.heap.size W0 wx) (fun I _ => (d.dests.length - intOf I).toNat)
        case atStart => exact ⟨0, by omega, rfl, hid rfl, g1⟩
        case round =>
          obtain ⟨k, hk, rfl, ht, hg⟩ := hrel
          have f2 := (st.below hg).cell 2 _ rfl
          by_cases hlt : (k : Int) < d.dests.length
          · have hkl : k < d.dests.length := by omega
            have f0b := (st.below hg).cell 0 _ rfl
            obtain ⟨a1, i1, c1⟩ := rd_idx (H.out.dests.below (below_trans bw hg)) uJ zJ k (by omega) hlt
            simp only [Int.toNat_natCast] at c1
            rw [show d.dests.getD k 0 = d.dests[k] by rw [List.getD_eq_getElem?_getD, List.getElem?_eq_getElem hkl]; rfl] at c1
            have hok : okDe d.code d.dests[k] = decide (0 ≤ d.dests[k] ∧ d.dests[k] ≤ d.code.length) := rfl
            have bad := fun g => NO.out (fun q => all_no (p := okDe d.code) hkl g q.2.2.1)
            have good := fun g => hid (all_step (p := okDe d.code) hkl ht.out g)
            obtain ⟨X, hX⟩ : ∃ X, d.dests[k] = X := ⟨_, rfl⟩
            rw [hX] at c1 hok bad good
            clear hX
            by_cases h0 : X < 0
            · have q0 : decide (X < 0) = true := decide_eq_true h0
              have hf := bad (by rw [hok, decide_eq_false_iff_not]; omega)
              clear good bad hok h0 ht
              go_wp2_with fail
              go_quiet (fail)
              go_wp2_with fail
              go_ret
              exact ⟨ret_b hf.out.symm, below_trans bw (below_drewN hg _)⟩
            · have q0 : decide (X < 0) = false := decide_eq_false h0
              by_cases h1 : (d.code.length : Int) < X
              · have q1 : decide ((d.code.length : Int) < X) = true := decide_eq_true h1
                have hf := bad (by rw [hok, decide_eq_false_iff_not]; omega)
                clear good bad hok h0 h1 ht
                go_wp2_with fail
                go_quiet (fail)
                go_wp2_with fail
                go_ret
                exact ⟨ret_b hf.out.symm, below_trans bw (below_drewN hg _)⟩
              · have q1 : decide ((d.code.length : Int) < X) = false := decide_eq_false h1
                have ht2 := good (by rw [hok, decide_eq_true_eq]; omega)
                clear good bad hok h0 h1 ht
                go_wp2_with fail
                go_quiet (fail)
                go_wp2_with fail
                go_roundw
                case rel => exact ⟨k + 1, by omega, by go_num, ht2, below_drewN hg _⟩
                case measure => simp [intOf]; omega
          · have D2 := hid (all_done (p := okDe d.code) (by omega) ht.out)
            obtain ⟨w2, hw2⟩ : ∃ w2, w2 = wr := ⟨_, rfl⟩
            subst hw2
            have g2 := hg
            clear ht hg
            go_wp2_with fail
            clear hlt f2 hk
            go_loopw [5] (fun I wx => ∃ k : Nat, (k : Int) ≤ d.loops.length ∧ I = .int .i64 k ∧ Hid ((d.loops.take k).all (okLo d.code) = true) ∧ Below W0.heap.size W0 wx) (fun I _ => (d.loops.length - intOf I).toNat)
            case atStart => exact ⟨0, by omega, rfl, hid rfl, g2⟩
            case round =>
              obtain ⟨k, hk, rfl, ht, hg⟩ := hrel
              have f3 := (st.below hg).cell 3 _ rfl
              by_cases hlt : (k : Int) < d.loops.length
              · have hkl : k < d.loops.length := by omega
                obtain ⟨b1, o1, vo, i1, c1, c2, ro⟩ := opn_at (RdN.below H.out.loops (below_trans bw hg)) k hkl
                have bad := fun g => NO.out (fun q => all_no (p := okLo d.code) hkl g q.2.2.2.1)
                have good := fun g => hid (all_step (p := okLo d.code) hkl ht.out g)
                have hok : okLo d.code d.loops[k] = (decide (kndF d.code d.loops[k].1 = 5 ∨ kndF d.code d.loops[k].1 = 6) && d.loops[k].2.all (okOu d.code 9)) := rfl
                have cax := fun W (q : Below wr.heap.size wr W) => CA.out vo _ 9 W (below_trans (below_trans bw hg) q) (ro.below q)
                obtain ⟨oa, oq, rfl⟩ := rd_slice ro
                obtain ⟨X, hX⟩ : ∃ X, d.loops[k].1 = X := ⟨_, rfl⟩
                obtain ⟨E, hE⟩ : ∃ X, d.loops[k].2.all (okOu d.code 9) = X := ⟨_, rfl⟩
                obtain ⟨n5, hn5⟩ : ∃ X, d.loops[k].2.length = X := ⟨_, rfl⟩
                rw [hX] at c1 hok
                rw [hE] at hok
                simp only [hE, hn5] at cax
                rw [hn5] at c2
                have Z : Hid (∀ W, Below wr.heap.size wr W → ((W.cell? ⟨w.heap.size, 0, none⟩ = some x0 ∧ W.cell? ⟨w.heap.size, 1, none⟩ = some x1 ∧ W.cell? ⟨w.heap.size, 2, none⟩ = some x2 ∧ W.cell? ⟨w.heap.size, 3, none⟩ = some x3 ∧ W.cell? ⟨w.heap.size, 4, none⟩ = some x4) ∧ W.cell? ⟨b1, o1, none⟩ = some (.int .i64 X)) ∧ W.cell? ⟨b1, o1 + 1, none⟩ = some (.slice oa n5 oq)) := by
                  show ∀ W, _
                  intro W q
                  have s := (st.below hg).below q
                  exact ⟨⟨⟨s.cell 0 _ rfl, s.cell 1 _ rfl, s.cell 2 _ rfl, s.cell 3 _ rfl, s.cell 4 _ rfl⟩, below_cell q c1⟩, below_cell q c2⟩
                have hrd : Hid (Below wr.heap.size wr wr.drew) := below_drewN (Below.refl _ _) 1
                have ckx := fun W g => CK.out X W g
                obtain ⟨A, hA⟩ : ∃ A, kndF d.code X = A := ⟨_, rfl⟩
                rw [hA] at hok
                simp only [hA] at ckx
                have CX := hid ckx
                have CAX := hid cax
                have HB : Hid (Below w.heap.size w wr) := below_trans bw hg
                clear ckx cax hX hA hE hn5 c1 c2 ro
                have HOK := hid hok
                have BAD := hid bad
                have GOOD := hid good
                clear hok bad good
                go_upto_region 16 with fail
                go_region_held2 (fun W => (W.cell? ⟨w.heap.size, 0, none⟩ = some x0 ∧ W.cell? ⟨w.heap.size, 1, none⟩ = some x1 ∧ W.cell? ⟨w.heap.size, 2, none⟩ = some x2 ∧ W.cell? ⟨w.heap.size, 3, none⟩ = some x3 ∧ W.cell? ⟨w.heap.size, 4, none⟩ = some x4) ∧ W.cell? ⟨b1, o1, none⟩ = some (.int .i64 X)) (first | with_reducible exact (Z.out _ hrd.out).1 | with_reducible exact (Z.out _ R2.out).1)
                  (first | (go_at_call 29; refine (CX.out _ (below_trans HB.out hrd.out)).mono ?_; rintro e w2 ⟨rfl, d2⟩; have R2 : Hid (Below wr.heap.size wr w2) := below_trans hrd.out d2; clear d2))
                have Z2 : Hid (∀ W, Below w2.heap.size w2 W → ((W.cell? ⟨w.heap.size, 0, none⟩ = some x0 ∧ W.cell? ⟨w.heap.size, 1, none⟩ = some x1 ∧ W.cell? ⟨w.heap.size, 2, none⟩ = some x2 ∧ W.cell? ⟨w.heap.size, 3, none⟩ = some x3 ∧ W.cell? ⟨w.heap.size, 4, none⟩ = some x4) ∧ W.cell? ⟨b1, o1, none⟩ = some (.int .i64 X)) ∧ W.cell? ⟨b1, o1 + 1, none⟩ = some (.slice oa n5 oq)) := fun W q => Z.out W (below_trans R2.out q)
                have hrd2 : Hid (Below w2.heap.size w2 w2.drew) := below_drewN (Below.refl _ _) 1
                obtain ⟨⟨⟨z0, z1, z2, z3, z4⟩, z5⟩, z6⟩ := Z.out _ R2.out
                by_cases h5 : A = 5
                · have q5 : (A != 5) = false := by simp [h5]
                  have HC := hid h5
                  clear h5
                  go_wp2_with fail
                  refine wp_region_held_drew (S := fun W => ((W.cell? ⟨w.heap.size, 0, none⟩ = some x0 ∧ W.cell? ⟨w.heap.size, 1, none⟩ = some x1 ∧ W.cell? ⟨w.heap.size, 2, none⟩ = some x2 ∧ W.cell? ⟨w.heap.size, 3, none⟩ = some x3 ∧ W.cell? ⟨w.heap.size, 4, none⟩ = some x4) ∧ W.cell? ⟨b1, o1, none⟩ = some (.int .i64 X)) ∧ W.cell? ⟨b1, o1 + 1, none⟩ = some (.slice oa n5 oq)) (by kernel_rfl) (Z2.out _ hrd2.out) (fun hHeld => ?_)
                  refine wpAnyH_take (i := 0) (v := ?v17) rfl (by kernel_rfl) (by kernel_rfl) (by kernel_rfl) (fun _ _ _ h => h) (Or.inl ⟨by kernel_rfl, ?h17⟩) hHeld ?r17
                  case h17 => intro W hSw; (try dsimp only at hSw); obtain ⟨⟨⟨s0, s1, s2, s3, s4⟩, s5⟩, s6⟩ := hSw; go_simp; try with_reducible rfl
                  simp only [Act.put, List.setIfInBounds_toArray, List.set_cons_zero, List.set_cons_succ]
                  refine wpAnyH_take (i := 1) (v := ?v18) rfl (by kernel_rfl) (by kernel_rfl) (by kernel_rfl) (fun _ _ _ h => h) (Or.inl ⟨by kernel_rfl, ?h18⟩) hHeld ?r18
                  case h18 => intro W hSw; (try dsimp only at hSw); obtain ⟨⟨⟨s0, s1, s2, s3, s4⟩, s5⟩, s6⟩ := hSw; go_simp; try with_reducible rfl
                  simp only [Act.put, List.setIfInBounds_toArray, List.set_cons_zero, List.set_cons_succ]
                  refine wpAnyH_take (i := 2) (v := ?v19) rfl (by kernel_rfl) (by kernel_rfl) (by kernel_rfl) (fun _ _ _ h => h) (Or.inl ⟨by kernel_rfl, ?h19⟩) hHeld ?r19
                  case h19 => intro W hSw; (try dsimp only at hSw); obtain ⟨⟨⟨s0, s1, s2, s3, s4⟩, s5⟩, s6⟩ := hSw; go_simp; try with_reducible rfl
                  simp only [Act.put, List.setIfInBounds_toArray, List.set_cons_zero, List.set_cons_succ]
                  refine wpAnyH_take (i := 3) (v := undef) rfl (by kernel_rfl) (by kernel_rfl) (by kernel_rfl) (fun _ _ _ h => h) (Or.inr ⟨by kernel_rfl, rfl⟩) hHeld ?_
                  simp only [Act.put, List.setIfInBounds_toArray, List.set_cons_zero, List.set_cons_succ]
                  refine wpAnyH_take (i := 4) (v := undef) rfl (by kernel_rfl) (by kernel_rfl) (by kernel_rfl) (fun _ _ _ h => h) (Or.inr ⟨by kernel_rfl, rfl⟩) hHeld ?_
                  simp only [Act.put, List.setIfInBounds_toArray, List.set_cons_zero, List.set_cons_succ]
                  refine wpAnyH_take (i := 5) (v := ?v22) rfl (by kernel_rfl) (by kernel_rfl) (by kernel_rfl) (fun _ _ _ h => h) (Or.inl ⟨by kernel_rfl, ?h22⟩) hHeld ?r22
                  case h22 => intro W hSw; (try dsimp only at hSw); obtain ⟨⟨⟨s0, s1, s2, s3, s4⟩, s5⟩, s6⟩ := hSw; go_simp; try with_reducible rfl
                  simp only [Act.put, List.setIfInBounds_toArray, List.set_cons_zero, List.set_cons_succ]
                  refine wpAnyH_take (i := 6) (v := ?v23) rfl (by kernel_rfl) (by kernel_rfl) (by kernel_rfl) (fun _ _ _ h => h) (Or.inl ⟨by kernel_rfl, ?h23⟩) hHeld ?r23
                  case h23 => intro W hSw; (try dsimp only at hSw); obtain ⟨⟨⟨s0, s1, s2, s3, s4⟩, s5⟩, s6⟩ := hSw; go_simp; try with_reducible rfl
                  simp only [Act.put, List.setIfInBounds_toArray, List.set_cons_zero, List.set_cons_succ]
                  refine wpAnyH_take (i := 7) (v := ?v24) rfl (by kernel_rfl) (by kernel_rfl) (by kernel_rfl) (fun _ _ _ h => h) (Or.inl ⟨by kernel_rfl, ?h24⟩) hHeld ?r24
                  case h24 => intro W hSw; (try dsimp only at hSw); obtain ⟨⟨⟨s0, s1, s2, s3, s4⟩, s5⟩, s6⟩ := hSw; go_simp; try with_reducible rfl
                  simp only [Act.put, List.setIfInBounds_toArray, List.set_cons_zero, List.set_cons_succ]
                  refine wpAnyH_take (i := 8) (v := ?v25) rfl (by kernel_rfl) (by kernel_rfl) (by kernel_rfl) (fun _ _ _ h => h) (Or.inl ⟨by kernel_rfl, ?h25⟩) hHeld ?r25
                  case h25 => intro W hSw; (try dsimp only at hSw); obtain ⟨⟨⟨s0, s1, s2, s3, s4⟩, s5⟩, s6⟩ := hSw; go_simp; try with_reducible rfl
                  simp only [Act.put, List.setIfInBounds_toArray, List.set_cons_zero, List.set_cons_succ]
                  refine wpAnyH_take (i := 9) (v := ?v26) rfl (by kernel_rfl) (by kernel_rfl) (by kernel_rfl) (fun _ _ _ h => h) (Or.inl ⟨by kernel_rfl, ?h26⟩) hHeld ?r26
                  case h26 => intro W hSw; (try dsimp only at hSw); obtain ⟨⟨⟨s0, s1, s2, s3, s4⟩, s5⟩, s6⟩ := hSw; go_simp; try with_reducible rfl
                  simp only [Act.put, List.setIfInBounds_toArray, List.set_cons_zero, List.set_cons_succ]
                  refine wpAnyH_take (i := 10) (v := ?v27) rfl (by kernel_rfl) (by kernel_rfl) (by kernel_rfl) (fun _ _ _ h => h) (Or.inl ⟨by kernel_rfl, ?h27⟩) hHeld ?r27
                  case h27 => intro W hSw; (try dsimp only at hSw); obtain ⟨⟨⟨s0, s1, s2, s3, s4⟩, s5⟩, s6⟩ := hSw; go_simp; try with_reducible rfl
                  simp only [Act.put, List.setIfInBounds_toArray, List.set_cons_zero, List.set_cons_succ]
                  refine wpAnyH_take (i := 11) (v := ?v28) rfl (by kernel_rfl) (by kernel_rfl) (by kernel_rfl) (fun _ _ _ h => h) (Or.inl ⟨by kernel_rfl, ?h28⟩) hHeld ?r28
                  case h28 => intro W hSw; (try dsimp only at hSw); obtain ⟨⟨⟨s0, s1, s2, s3, s4⟩, s5⟩, s6⟩ := hSw; go_simp; try with_reducible rfl
                  simp only [Act.put, List.setIfInBounds_toArray, List.set_cons_zero, List.set_cons_succ]
                  refine wpAnyH_take (i := 12) (v := ?v29) rfl (by kernel_rfl) (by kernel_rfl) (by kernel_rfl) (fun _ _ _ h => h) (Or.inl ⟨by kernel_rfl, ?h29⟩) hHeld ?r29
                  case h29 => intro W hSw; (try dsimp only at hSw); obtain ⟨⟨⟨s0, s1, s2, s3, s4⟩, s5⟩, s6⟩ := hSw; go_simp; try with_reducible rfl
                  simp only [Act.put, List.setIfInBounds_toArray, List.set_cons_zero, List.set_cons_succ]
                  refine wpAnyH_take (i := 13) (v := ?v30) rfl (by kernel_rfl) (by kernel_rfl) (by kernel_rfl) (fun _ _ _ h => h) (Or.inl ⟨by kernel_rfl, ?h30⟩) hHeld ?r30
                  case h30 => intro W hSw; (try dsimp only at hSw); obtain ⟨⟨⟨s0, s1, s2, s3, s4⟩, s5⟩, s6⟩ := hSw; go_simp; try with_reducible rfl
                  simp only [Act.put, List.setIfInBounds_toArray, List.set_cons_zero, List.set_cons_succ]
                  refine wpAnyH_ready (rs := [14]) (by kernel_rfl) (by simp) ?_
                  refine AllReadyH.cons rfl (fun K hK => ?_) AllReadyH.nil
                  go_simp
                  go_wp2_with (first | (go_at_call 30; refine (CAX.out _ (below_trans R2.out hrd2.out)).mono ?_; rintro e w3 ⟨rfl, d3⟩; have R3 : Hid (Below w2.heap.size w2 w3) := below_trans hrd2.out d3; clear d3))
                  refine hK.out _ _ (Z2.out _ R3.out) (fun hHeld => ?_)
                  clear hK K
                  refine wpAnyH_take (i := 15) (v := ?v31) rfl (by kernel_rfl) (by kernel_rfl) (by kernel_rfl) (fun _ _ _ h => h) (Or.inl ⟨by kernel_rfl, ?h31⟩) hHeld ?r31
                  case h31 => intro W hSw; (try dsimp only at hSw); obtain ⟨⟨⟨s0, s1, s2, s3, s4⟩, s5⟩, s6⟩ := hSw; go_simp; try with_reducible rfl
                  simp only [Act.put, List.setIfInBounds_toArray, List.set_cons_zero, List.set_cons_succ]
                  refine wpAnyH_take (i := 16) (v := ?v32) rfl (by kernel_rfl) (by kernel_rfl) (by kernel_rfl) (fun _ _ _ h => h) (Or.inl ⟨by kernel_rfl, ?h32⟩) hHeld ?r32
                  case h32 => intro W hSw; (try dsimp only at hSw); obtain ⟨⟨⟨s0, s1, s2, s3, s4⟩, s5⟩, s6⟩ := hSw; go_simp; try with_reducible rfl
                  simp only [Act.put, List.setIfInBounds_toArray, List.set_cons_zero, List.set_cons_succ]
                  refine wpAnyH_done (by kernel_rfl) ?_ _
                  have HG := below_trans hg (below_trans R2.out R3.out)
                  cases E
                  · have hf := BAD.out (by rw [HOK.out]; simp)
                    clear GOOD BAD HOK ht
                    go_wp2_with fail
                    go_ret
                    exact ⟨ret_b hf.out.symm, below_trans bw (HG)⟩
                  · have ht2 := GOOD.out (by rw [HOK.out]; simp [HC.out])
                    clear GOOD BAD HOK ht
                    go_wp2_with fail
                    go_roundw
                    case rel => exact ⟨k + 1, by omega, by go_num, ht2, HG⟩
                    case measure => simp [intOf]; omega
                · have q5 : (A != 5) = true := by simp [h5]
                  by_cases h6 : A = 6
                  · have q6 : (A != 6) = false := by simp [h6]
                    have HC := hid h6
                    clear h5 h6
                    go_wp2_with fail
                    go_region_held2 (fun W => ((W.cell? ⟨w.heap.size, 0, none⟩ = some x0 ∧ W.cell? ⟨w.heap.size, 1, none⟩ = some x1 ∧ W.cell? ⟨w.heap.size, 2, none⟩ = some x2 ∧ W.cell? ⟨w.heap.size, 3, none⟩ = some x3 ∧ W.cell? ⟨w.heap.size, 4, none⟩ = some x4) ∧ W.cell? ⟨b1, o1, none⟩ = some (.int .i64 X)) ∧ W.cell? ⟨b1, o1 + 1, none⟩ = some (.slice oa n5 oq)) (first | with_reducible exact Z2.out _ hrd2.out | with_reducible exact Z2.out _ R3.out)
                      (first | (go_at_call 30; refine (CAX.out _ (below_trans R2.out hrd2.out)).mono ?_; rintro e w3 ⟨rfl, d3⟩; have R3 : Hid (Below w2.heap.size w2 w3) := below_trans hrd2.out d3; clear d3))
                    have HG := below_trans hg (below_trans R2.out R3.out)
                    cases E
                    · have hf := BAD.out (by rw [HOK.out]; simp)
                      clear GOOD BAD HOK ht
                      go_wp2_with fail
                      go_ret
                      exact ⟨ret_b hf.out.symm, below_trans bw (HG)⟩
                    · have ht2 := GOOD.out (by rw [HOK.out]; simp [HC.out])
                      clear GOOD BAD HOK ht
                      go_wp2_with fail
                      go_roundw
                      case rel => exact ⟨k + 1, by omega, by go_num, ht2, HG⟩
                      case measure => simp [intOf]; omega
                  · have q6 : (A != 6) = true := by simp [h6]
                    have hf := BAD.out (by rw [HOK.out]; simp [h5, h6])
                    clear GOOD BAD HOK h5 h6 ht
                    go_wp2_with fail
                    refine wp_region_held_drew (S := fun W => ((W.cell? ⟨w.heap.size, 0, none⟩ = some x0 ∧ W.cell? ⟨w.heap.size, 1, none⟩ = some x1 ∧ W.cell? ⟨w.heap.size, 2, none⟩ = some x2 ∧ W.cell? ⟨w.heap.size, 3, none⟩ = some x3 ∧ W.cell? ⟨w.heap.size, 4, none⟩ = some x4) ∧ W.cell? ⟨b1, o1, none⟩ = some (.int .i64 X)) ∧ W.cell? ⟨b1, o1 + 1, none⟩ = some (.slice oa n5 oq)) (by kernel_rfl) (Z2.out _ hrd2.out) (fun hHeld => ?_)
                    refine wpAnyH_take (i := 0) (v := ?v33) rfl (by kernel_rfl) (by kernel_rfl) (by kernel_rfl) (fun _ _ _ h => h) (Or.inl ⟨by kernel_rfl, ?h33⟩) hHeld ?r33
                    case h33 => intro W hSw; (try dsimp only at hSw); obtain ⟨⟨⟨s0, s1, s2, s3, s4⟩, s5⟩, s6⟩ := hSw; go_simp; try with_reducible rfl
                    simp only [Act.put, List.setIfInBounds_toArray, List.set_cons_zero, List.set_cons_succ]
                    refine wpAnyH_take (i := 1) (v := ?v34) rfl (by kernel_rfl) (by kernel_rfl) (by kernel_rfl) (fun _ _ _ h => h) (Or.inl ⟨by kernel_rfl, ?h34⟩) hHeld ?r34
                    case h34 => intro W hSw; (try dsimp only at hSw); obtain ⟨⟨⟨s0, s1, s2, s3, s4⟩, s5⟩, s6⟩ := hSw; go_simp; try with_reducible rfl
                    simp only [Act.put, List.setIfInBounds_toArray, List.set_cons_zero, List.set_cons_succ]
                    refine wpAnyH_take (i := 2) (v := ?v35) rfl (by kernel_rfl) (by kernel_rfl) (by kernel_rfl) (fun _ _ _ h => h) (Or.inl ⟨by kernel_rfl, ?h35⟩) hHeld ?r35
                    case h35 => intro W hSw; (try dsimp only at hSw); obtain ⟨⟨⟨s0, s1, s2, s3, s4⟩, s5⟩, s6⟩ := hSw; go_simp; try with_reducible rfl
                    simp only [Act.put, List.setIfInBounds_toArray, List.set_cons_zero, List.set_cons_succ]
                    refine wpAnyH_take (i := 3) (v := ?v36) rfl (by kernel_rfl) (by kernel_rfl) (by kernel_rfl) (fun _ _ _ h => h) (Or.inl ⟨by kernel_rfl, ?h36⟩) hHeld ?r36
                    case h36 => intro W hSw; (try dsimp only at hSw); obtain ⟨⟨⟨s0, s1, s2, s3, s4⟩, s5⟩, s6⟩ := hSw; go_simp; try with_reducible rfl
                    simp only [Act.put, List.setIfInBounds_toArray, List.set_cons_zero, List.set_cons_succ]
                    refine wpAnyH_take (i := 4) (v := ?v37) rfl (by kernel_rfl) (by kernel_rfl) (by kernel_rfl) (fun _ _ _ h => h) (Or.inl ⟨by kernel_rfl, ?h37⟩) hHeld ?r37
                    case h37 => intro W hSw; (try dsimp only at hSw); obtain ⟨⟨⟨s0, s1, s2, s3, s4⟩, s5⟩, s6⟩ := hSw; go_simp; try with_reducible rfl
                    simp only [Act.put, List.setIfInBounds_toArray, List.set_cons_zero, List.set_cons_succ]
                    refine wpAnyH_take (i := 5) (v := ?v38) rfl (by kernel_rfl) (by kernel_rfl) (by kernel_rfl) (fun _ _ _ h => h) (Or.inl ⟨by kernel_rfl, ?h38⟩) hHeld ?r38
                    case h38 => intro W hSw; (try dsimp only at hSw); obtain ⟨⟨⟨s0, s1, s2, s3, s4⟩, s5⟩, s6⟩ := hSw; go_simp; try with_reducible rfl
                    simp only [Act.put, List.setIfInBounds_toArray, List.set_cons_zero, List.set_cons_succ]
                    refine wpAnyH_take (i := 6) (v := ?v39) rfl (by kernel_rfl) (by kernel_rfl) (by kernel_rfl) (fun _ _ _ h => h) (Or.inl ⟨by kernel_rfl, ?h39⟩) hHeld ?r39
                    case h39 => intro W hSw; (try dsimp only at hSw); obtain ⟨⟨⟨s0, s1, s2, s3, s4⟩, s5⟩, s6⟩ := hSw; go_simp; try with_reducible rfl
                    simp only [Act.put, List.setIfInBounds_toArray, List.set_cons_zero, List.set_cons_succ]
                    refine wpAnyH_take (i := 7) (v := undef) rfl (by kernel_rfl) (by kernel_rfl) (by kernel_rfl) (fun _ _ _ h => h) (Or.inr ⟨by kernel_rfl, rfl⟩) hHeld ?_
                    simp only [Act.put, List.setIfInBounds_toArray, List.set_cons_zero, List.set_cons_succ]
                    refine wpAnyH_take (i := 8) (v := undef) rfl (by kernel_rfl) (by kernel_rfl) (by kernel_rfl) (fun _ _ _ h => h) (Or.inr ⟨by kernel_rfl, rfl⟩) hHeld ?_
                    simp only [Act.put, List.setIfInBounds_toArray, List.set_cons_zero, List.set_cons_succ]
                    refine wpAnyH_take (i := 9) (v := undef) rfl (by kernel_rfl) (by kernel_rfl) (by kernel_rfl) (fun _ _ _ h => h) (Or.inr ⟨by kernel_rfl, rfl⟩) hHeld ?_
                    simp only [Act.put, List.setIfInBounds_toArray, List.set_cons_zero, List.set_cons_succ]
                    refine wpAnyH_take (i := 10) (v := undef) rfl (by kernel_rfl) (by kernel_rfl) (by kernel_rfl) (fun _ _ _ h => h) (Or.inr ⟨by kernel_rfl, rfl⟩) hHeld ?_
                    simp only [Act.put, List.setIfInBounds_toArray, List.set_cons_zero, List.set_cons_succ]
                    refine wpAnyH_take (i := 11) (v := undef) rfl (by kernel_rfl) (by kernel_rfl) (by kernel_rfl) (fun _ _ _ h => h) (Or.inr ⟨by kernel_rfl, rfl⟩) hHeld ?_
                    simp only [Act.put, List.setIfInBounds_toArray, List.set_cons_zero, List.set_cons_succ]
                    refine wpAnyH_take (i := 12) (v := undef) rfl (by kernel_rfl) (by kernel_rfl) (by kernel_rfl) (fun _ _ _ h => h) (Or.inr ⟨by kernel_rfl, rfl⟩) hHeld ?_
                    simp only [Act.put, List.setIfInBounds_toArray, List.set_cons_zero, List.set_cons_succ]
                    refine wpAnyH_take (i := 13) (v := undef) rfl (by kernel_rfl) (by kernel_rfl) (by kernel_rfl) (fun _ _ _ h => h) (Or.inr ⟨by kernel_rfl, rfl⟩) hHeld ?_
                    simp only [Act.put, List.setIfInBounds_toArray, List.set_cons_zero, List.set_cons_succ]
                    refine wpAnyH_ready (rs := [14]) (by kernel_rfl) (by simp) ?_
                    refine AllReadyH.cons rfl (fun K hK => ?_) AllReadyH.nil
                    go_simp
                    refine hK.out _ _ (Z2.out _ hrd2.out) (fun hHeld => ?_)
                    clear hK K
                    refine wpAnyH_take (i := 15) (v := undef) rfl (by kernel_rfl) (by kernel_rfl) (by kernel_rfl) (fun _ _ _ h => h) (Or.inr ⟨by kernel_rfl, rfl⟩) hHeld ?_
                    simp only [Act.put, List.setIfInBounds_toArray, List.set_cons_zero, List.set_cons_succ]
                    refine wpAnyH_take (i := 16) (v := ?v48) rfl (by kernel_rfl) (by kernel_rfl) (by kernel_rfl) (fun _ _ _ h => h) (Or.inl ⟨by kernel_rfl, ?h48⟩) hHeld ?r48
                    case h48 => intro W hSw; (try dsimp only at hSw); obtain ⟨⟨⟨s0, s1, s2, s3, s4⟩, s5⟩, s6⟩ := hSw; go_simp; try with_reducible rfl
                    simp only [Act.put, List.setIfInBounds_toArray, List.set_cons_zero, List.set_cons_succ]
                    refine wpAnyH_done (by kernel_rfl) ?_ _
                    have HG := below_trans hg (below_trans R2.out hrd2.out)
                    go_wp2_with fail
                    go_ret
                    exact ⟨ret_b hf.out.symm, below_trans bw (HG)⟩
              · have D3 := hid (all_done (p := okLo d.code) (by omega) ht.out)
                obtain ⟨w3, hw3⟩ : ∃ w3, w3 = wr := ⟨_, rfl⟩
                subst hw3
                have g3 := hg
                clear ht hg
                go_wp2_with fail
                clear hlt f3 hk
                go_loopw [7] (fun I wx => ∃ k : Nat, (k : Int) ≤ d.cases.length ∧ I = .int .i64 k ∧ Hid ((d.cases.take k).all (okCa d.code) = true) ∧ Below W0.heap.size W0 wx) (fun I _ => (d.cases.length - intOf I).toNat)
                case atStart => exact ⟨0, by omega, rfl, hid rfl, g3⟩
                case round =>
                  obtain ⟨k, hk, rfl, ht, hg⟩ := hrel
                  have f4 := (st.below hg).cell 4 _ rfl
                  by_cases hlt : (k : Int) < d.cases.length
                  · have hkl : k < d.cases.length := by omega
                    obtain ⟨b1, o1, vo, i1, c1, c2, ro⟩ := opn_at (RdN.below H.out.cases (below_trans bw hg)) k hkl
                    have bad := fun g => NO.out (fun q => all_no (p := okCa d.code) hkl g q.2.2.2.2)
                    have good := fun g => hid (all_step (p := okCa d.code) hkl ht.out g)
                    have hok : okCa d.code d.cases[k] = (decide (d.cases[k].1 = -1 ∨ kndF d.code d.cases[k].1 = 10) && d.cases[k].2.all (okOu d.code 3)) := rfl
                    have cax := fun W (q : Below wr.heap.size wr W) => CA.out vo _ 3 W (below_trans (below_trans bw hg) q) (ro.below q)
                    obtain ⟨oa, oq, rfl⟩ := rd_slice ro
                    obtain ⟨X, hX⟩ : ∃ X, d.cases[k].1 = X := ⟨_, rfl⟩
                    obtain ⟨E, hE⟩ : ∃ X, d.cases[k].2.all (okOu d.code 3) = X := ⟨_, rfl⟩
                    obtain ⟨n5, hn5⟩ : ∃ X, d.cases[k].2.length = X := ⟨_, rfl⟩
                    rw [hX] at c1 hok
                    rw [hE] at hok
                    simp only [hE, hn5] at cax
                    rw [hn5] at c2
                    have Z : Hid (∀ W, Below wr.heap.size wr W → ((W.cell? ⟨w.heap.size, 0, none⟩ = some x0 ∧ W.cell? ⟨w.heap.size, 1, none⟩ = some x1 ∧ W.cell? ⟨w.heap.size, 2, none⟩ = some x2 ∧ W.cell? ⟨w.heap.size, 3, none⟩ = some x3 ∧ W.cell? ⟨w.heap.size, 4, none⟩ = some x4) ∧ W.cell? ⟨b1, o1, none⟩ = some (.int .i64 X)) ∧ W.cell? ⟨b1, o1 + 1, none⟩ = some (.slice oa n5 oq)) := by
                      show ∀ W, _
                      intro W q
                      have s := (st.below hg).below q
                      exact ⟨⟨⟨s.cell 0 _ rfl, s.cell 1 _ rfl, s.cell 2 _ rfl, s.cell 3 _ rfl, s.cell 4 _ rfl⟩, below_cell q c1⟩, below_cell q c2⟩
                    have hrd : Hid (Below wr.heap.size wr wr.drew) := below_drewN (Below.refl _ _) 1
                    have ckx := fun W g => CK.out X W g
                    obtain ⟨A, hA⟩ : ∃ A, kndF d.code X = A := ⟨_, rfl⟩
                    rw [hA] at hok
                    simp only [hA] at ckx
                    have CX := hid ckx
                    have CAX := hid cax
                    have HB : Hid (Below w.heap.size w wr) := below_trans bw hg
                    clear ckx cax hX hA hE hn5 c1 c2 ro
                    have HOK := hid hok
                    have BAD := hid bad
                    have GOOD := hid good
                    clear hok bad good
                    by_cases h1 : X = -1
                    · have q1 : (X != -1) = false := by simp [h1]
                      have HC := hid h1
                      clear h1
                      go_wp2_with fail
                      refine wp_region_held_drew (S := fun W => ((W.cell? ⟨w.heap.size, 0, none⟩ = some x0 ∧ W.cell? ⟨w.heap.size, 1, none⟩ = some x1 ∧ W.cell? ⟨w.heap.size, 2, none⟩ = some x2 ∧ W.cell? ⟨w.heap.size, 3, none⟩ = some x3 ∧ W.cell? ⟨w.heap.size, 4, none⟩ = some x4) ∧ W.cell? ⟨b1, o1, none⟩ = some (.int .i64 X)) ∧ W.cell? ⟨b1, o1 + 1, none⟩ = some (.slice oa n5 oq)) (by kernel_rfl) (Z.out _ hrd.out) (fun hHeld => ?_)
                      refine wpAnyH_take (i := 0) (v := ?v49) rfl (by kernel_rfl) (by kernel_rfl) (by kernel_rfl) (fun _ _ _ h => h) (Or.inl ⟨by kernel_rfl, ?h49⟩) hHeld ?r49
                      case h49 => intro W hSw; (try dsimp only at hSw); obtain ⟨⟨⟨s0, s1, s2, s3, s4⟩, s5⟩, s6⟩ := hSw; go_simp; try with_reducible rfl
                      simp only [Act.put, List.setIfInBounds_toArray, List.set_cons_zero, List.set_cons_succ]
                      refine wpAnyH_take (i := 1) (v := ?v50) rfl (by kernel_rfl) (by kernel_rfl) (by kernel_rfl) (fun _ _ _ h => h) (Or.inl ⟨by kernel_rfl, ?h50⟩) hHeld ?r50
                      case h50 => intro W hSw; (try dsimp only at hSw); obtain ⟨⟨⟨s0, s1, s2, s3, s4⟩, s5⟩, s6⟩ := hSw; go_simp; try with_reducible rfl
                      simp only [Act.put, List.setIfInBounds_toArray, List.set_cons_zero, List.set_cons_succ]
                      refine wpAnyH_take (i := 2) (v := ?v51) rfl (by kernel_rfl) (by kernel_rfl) (by kernel_rfl) (fun _ _ _ h => h) (Or.inl ⟨by kernel_rfl, ?h51⟩) hHeld ?r51
                      case h51 => intro W hSw; (try dsimp only at hSw); obtain ⟨⟨⟨s0, s1, s2, s3, s4⟩, s5⟩, s6⟩ := hSw; go_simp; try with_reducible rfl
                      simp only [Act.put, List.setIfInBounds_toArray, List.set_cons_zero, List.set_cons_succ]
                      refine wpAnyH_take (i := 3) (v := ?v52) rfl (by kernel_rfl) (by kernel_rfl) (by kernel_rfl) (fun _ _ _ h => h) (Or.inl ⟨by kernel_rfl, ?h52⟩) hHeld ?r52
                      case h52 => intro W hSw; (try dsimp only at hSw); obtain ⟨⟨⟨s0, s1, s2, s3, s4⟩, s5⟩, s6⟩ := hSw; go_simp; try with_reducible rfl
                      simp only [Act.put, List.setIfInBounds_toArray, List.set_cons_zero, List.set_cons_succ]
                      refine wpAnyH_take (i := 4) (v := ?v53) rfl (by kernel_rfl) (by kernel_rfl) (by kernel_rfl) (fun _ _ _ h => h) (Or.inl ⟨by kernel_rfl, ?h53⟩) hHeld ?r53
                      case h53 => intro W hSw; (try dsimp only at hSw); obtain ⟨⟨⟨s0, s1, s2, s3, s4⟩, s5⟩, s6⟩ := hSw; go_simp; try with_reducible rfl
                      simp only [Act.put, List.setIfInBounds_toArray, List.set_cons_zero, List.set_cons_succ]
                      refine wpAnyH_take (i := 5) (v := ?v54) rfl (by kernel_rfl) (by kernel_rfl) (by kernel_rfl) (fun _ _ _ h => h) (Or.inl ⟨by kernel_rfl, ?h54⟩) hHeld ?r54
                      case h54 => intro W hSw; (try dsimp only at hSw); obtain ⟨⟨⟨s0, s1, s2, s3, s4⟩, s5⟩, s6⟩ := hSw; go_simp; try with_reducible rfl
                      simp only [Act.put, List.setIfInBounds_toArray, List.set_cons_zero, List.set_cons_succ]
                      refine wpAnyH_take (i := 6) (v := ?v55) rfl (by kernel_rfl) (by kernel_rfl) (by kernel_rfl) (fun _ _ _ h => h) (Or.inl ⟨by kernel_rfl, ?h55⟩) hHeld ?r55
                      case h55 => intro W hSw; (try dsimp only at hSw); obtain ⟨⟨⟨s0, s1, s2, s3, s4⟩, s5⟩, s6⟩ := hSw; go_simp; try with_reducible rfl
                      simp only [Act.put, List.setIfInBounds_toArray, List.set_cons_zero, List.set_cons_succ]
                      refine wpAnyH_take (i := 7) (v := ?v56) rfl (by kernel_rfl) (by kernel_rfl) (by kernel_rfl) (fun _ _ _ h => h) (Or.inl ⟨by kernel_rfl, ?h56⟩) hHeld ?r56
                      case h56 => intro W hSw; (try dsimp only at hSw); obtain ⟨⟨⟨s0, s1, s2, s3, s4⟩, s5⟩, s6⟩ := hSw; go_simp; try with_reducible rfl
                      simp only [Act.put, List.setIfInBounds_toArray, List.set_cons_zero, List.set_cons_succ]
                      refine wpAnyH_take (i := 8) (v := undef) rfl (by kernel_rfl) (by kernel_rfl) (by kernel_rfl) (fun _ _ _ h => h) (Or.inr ⟨by kernel_rfl, rfl⟩) hHeld ?_
                      simp only [Act.put, List.setIfInBounds_toArray, List.set_cons_zero, List.set_cons_succ]
                      refine wpAnyH_take (i := 9) (v := undef) rfl (by kernel_rfl) (by kernel_rfl) (by kernel_rfl) (fun _ _ _ h => h) (Or.inr ⟨by kernel_rfl, rfl⟩) hHeld ?_
                      simp only [Act.put, List.setIfInBounds_toArray, List.set_cons_zero, List.set_cons_succ]
                      refine wpAnyH_take (i := 10) (v := undef) rfl (by kernel_rfl) (by kernel_rfl) (by kernel_rfl) (fun _ _ _ h => h) (Or.inr ⟨by kernel_rfl, rfl⟩) hHeld ?_
                      simp only [Act.put, List.setIfInBounds_toArray, List.set_cons_zero, List.set_cons_succ]
                      refine wpAnyH_take (i := 11) (v := undef) rfl (by kernel_rfl) (by kernel_rfl) (by kernel_rfl) (fun _ _ _ h => h) (Or.inr ⟨by kernel_rfl, rfl⟩) hHeld ?_
                      simp only [Act.put, List.setIfInBounds_toArray, List.set_cons_zero, List.set_cons_succ]
                      refine wpAnyH_take (i := 12) (v := undef) rfl (by kernel_rfl) (by kernel_rfl) (by kernel_rfl) (fun _ _ _ h => h) (Or.inr ⟨by kernel_rfl, rfl⟩) hHeld ?_
                      simp only [Act.put, List.setIfInBounds_toArray, List.set_cons_zero, List.set_cons_succ]
                      refine wpAnyH_take (i := 13) (v := undef) rfl (by kernel_rfl) (by kernel_rfl) (by kernel_rfl) (fun _ _ _ h => h) (Or.inr ⟨by kernel_rfl, rfl⟩) hHeld ?_
                      simp only [Act.put, List.setIfInBounds_toArray, List.set_cons_zero, List.set_cons_succ]
                      refine wpAnyH_take (i := 14) (v := undef) rfl (by kernel_rfl) (by kernel_rfl) (by kernel_rfl) (fun _ _ _ h => h) (Or.inr ⟨by kernel_rfl, rfl⟩) hHeld ?_
                      simp only [Act.put, List.setIfInBounds_toArray, List.set_cons_zero, List.set_cons_succ]
                      refine wpAnyH_ready (rs := [15]) (by kernel_rfl) (by simp) ?_
                      refine AllReadyH.cons rfl (fun K hK => ?_) AllReadyH.nil
                      go_simp
                      refine hK.out _ _ (Z.out _ hrd.out) (fun hHeld => ?_)
                      clear hK K
                      refine wpAnyH_take (i := 16) (v := undef) rfl (by kernel_rfl) (by kernel_rfl) (by kernel_rfl) (fun _ _ _ h => h) (Or.inr ⟨by kernel_rfl, rfl⟩) hHeld ?_
                      simp only [Act.put, List.setIfInBounds_toArray, List.set_cons_zero, List.set_cons_succ]
                      refine wpAnyH_take (i := 17) (v := ?v65) rfl (by kernel_rfl) (by kernel_rfl) (by kernel_rfl) (fun _ _ _ h => h) (Or.inl ⟨by kernel_rfl, ?h65⟩) hHeld ?r65
                      case h65 => intro W hSw; (try dsimp only at hSw); obtain ⟨⟨⟨s0, s1, s2, s3, s4⟩, s5⟩, s6⟩ := hSw; go_simp; try with_reducible rfl
                      simp only [Act.put, List.setIfInBounds_toArray, List.set_cons_zero, List.set_cons_succ]
                      refine wpAnyH_take (i := 18) (v := ?v66) rfl (by kernel_rfl) (by kernel_rfl) (by kernel_rfl) (fun _ _ _ h => h) (Or.inl ⟨by kernel_rfl, ?h66⟩) hHeld ?r66
                      case h66 => intro W hSw; (try dsimp only at hSw); obtain ⟨⟨⟨s0, s1, s2, s3, s4⟩, s5⟩, s6⟩ := hSw; go_simp; try with_reducible rfl
                      simp only [Act.put, List.setIfInBounds_toArray, List.set_cons_zero, List.set_cons_succ]
                      refine wpAnyH_take (i := 19) (v := ?v67) rfl (by kernel_rfl) (by kernel_rfl) (by kernel_rfl) (fun _ _ _ h => h) (Or.inl ⟨by kernel_rfl, ?h67⟩) hHeld ?r67
                      case h67 => intro W hSw; (try dsimp only at hSw); obtain ⟨⟨⟨s0, s1, s2, s3, s4⟩, s5⟩, s6⟩ := hSw; go_simp; try with_reducible rfl
                      simp only [Act.put, List.setIfInBounds_toArray, List.set_cons_zero, List.set_cons_succ]
                      refine wpAnyH_take (i := 20) (v := ?v68) rfl (by kernel_rfl) (by kernel_rfl) (by kernel_rfl) (fun _ _ _ h => h) (Or.inl ⟨by kernel_rfl, ?h68⟩) hHeld ?r68
                      case h68 => intro W hSw; (try dsimp only at hSw); obtain ⟨⟨⟨s0, s1, s2, s3, s4⟩, s5⟩, s6⟩ := hSw; go_simp; try with_reducible rfl
                      simp only [Act.put, List.setIfInBounds_toArray, List.set_cons_zero, List.set_cons_succ]
                      refine wpAnyH_take (i := 21) (v := ?v69) rfl (by kernel_rfl) (by kernel_rfl) (by kernel_rfl) (fun _ _ _ h => h) (Or.inl ⟨by kernel_rfl, ?h69⟩) hHeld ?r69
                      case h69 => intro W hSw; (try dsimp only at hSw); obtain ⟨⟨⟨s0, s1, s2, s3, s4⟩, s5⟩, s6⟩ := hSw; go_simp; try with_reducible rfl
                      simp only [Act.put, List.setIfInBounds_toArray, List.set_cons_zero, List.set_cons_succ]
                      refine wpAnyH_take (i := 22) (v := ?v70) rfl (by kernel_rfl) (by kernel_rfl) (by kernel_rfl) (fun _ _ _ h => h) (Or.inl ⟨by kernel_rfl, ?h70⟩) hHeld ?r70
                      case h70 => intro W hSw; (try dsimp only at hSw); obtain ⟨⟨⟨s0, s1, s2, s3, s4⟩, s5⟩, s6⟩ := hSw; go_simp; try with_reducible rfl
                      simp only [Act.put, List.setIfInBounds_toArray, List.set_cons_zero, List.set_cons_succ]
                      refine wpAnyH_take (i := 23) (v := ?v71) rfl (by kernel_rfl) (by kernel_rfl) (by kernel_rfl) (fun _ _ _ h => h) (Or.inl ⟨by kernel_rfl, ?h71⟩) hHeld ?r71
                      case h71 => intro W hSw; (try dsimp only at hSw); obtain ⟨⟨⟨s0, s1, s2, s3, s4⟩, s5⟩, s6⟩ := hSw; go_simp; try with_reducible rfl
                      simp only [Act.put, List.setIfInBounds_toArray, List.set_cons_zero, List.set_cons_succ]
                      refine wpAnyH_take (i := 24) (v := ?v72) rfl (by kernel_rfl) (by kernel_rfl) (by kernel_rfl) (fun _ _ _ h => h) (Or.inl ⟨by kernel_rfl, ?h72⟩) hHeld ?r72
                      case h72 => intro W hSw; (try dsimp only at hSw); obtain ⟨⟨⟨s0, s1, s2, s3, s4⟩, s5⟩, s6⟩ := hSw; go_simp; try with_reducible rfl
                      simp only [Act.put, List.setIfInBounds_toArray, List.set_cons_zero, List.set_cons_succ]
                      refine wpAnyH_take (i := 25) (v := ?v73) rfl (by kernel_rfl) (by kernel_rfl) (by kernel_rfl) (fun _ _ _ h => h) (Or.inl ⟨by kernel_rfl, ?h73⟩) hHeld ?r73
                      case h73 => intro W hSw; (try dsimp only at hSw); obtain ⟨⟨⟨s0, s1, s2, s3, s4⟩, s5⟩, s6⟩ := hSw; go_simp; try with_reducible rfl
                      simp only [Act.put, List.setIfInBounds_toArray, List.set_cons_zero, List.set_cons_succ]
                      refine wpAnyH_ready (rs := [26]) (by kernel_rfl) (by simp) ?_
                      refine AllReadyH.cons rfl (fun K hK => ?_) AllReadyH.nil
                      go_simp
                      go_wp2_with (first | (go_at_call 30; refine (CAX.out _ hrd.out).mono ?_; rintro e w3 ⟨rfl, d3⟩; have R3 : Hid (Below wr.heap.size wr w3) := below_trans hrd.out d3; clear d3))
                      refine hK.out _ _ (Z.out _ R3.out) (fun hHeld => ?_)
                      clear hK K
                      refine wpAnyH_take (i := 27) (v := ?v74) rfl (by kernel_rfl) (by kernel_rfl) (by kernel_rfl) (fun _ _ _ h => h) (Or.inl ⟨by kernel_rfl, ?h74⟩) hHeld ?r74
                      case h74 => intro W hSw; (try dsimp only at hSw); obtain ⟨⟨⟨s0, s1, s2, s3, s4⟩, s5⟩, s6⟩ := hSw; go_simp; try with_reducible rfl
                      simp only [Act.put, List.setIfInBounds_toArray, List.set_cons_zero, List.set_cons_succ]
                      refine wpAnyH_take (i := 28) (v := ?v75) rfl (by kernel_rfl) (by kernel_rfl) (by kernel_rfl) (fun _ _ _ h => h) (Or.inl ⟨by kernel_rfl, ?h75⟩) hHeld ?r75
                      case h75 => intro W hSw; (try dsimp only at hSw); obtain ⟨⟨⟨s0, s1, s2, s3, s4⟩, s5⟩, s6⟩ := hSw; go_simp; try with_reducible rfl
                      simp only [Act.put, List.setIfInBounds_toArray, List.set_cons_zero, List.set_cons_succ]
                      refine wpAnyH_done (by kernel_rfl) ?_ _
                      have HG := below_trans hg R3.out
                      cases E
                      · have hf := BAD.out (by rw [HOK.out]; simp)
                        clear GOOD BAD HOK ht
                        go_wp2_with fail
                        go_ret
                        exact ⟨ret_b hf.out.symm, below_trans bw (HG)⟩
                      · have ht2 := GOOD.out (by rw [HOK.out]; simp [HC.out])
                        clear GOOD BAD HOK ht
                        go_wp2_with fail
                        go_roundw
                        case rel => exact ⟨k + 1, by omega, by go_num, ht2, HG⟩
                        case measure => simp [intOf]; omega
                    · have q1 : (X != -1) = true := by simp [h1]
                      by_cases h10 : A = 10
                      · have q10 : (A != 10) = false := by simp [h10]
                        have HC := hid h10
                        clear h1 h10
                        go_wp2_with fail
                        go_region_held2 (fun W => ((W.cell? ⟨w.heap.size, 0, none⟩ = some x0 ∧ W.cell? ⟨w.heap.size, 1, none⟩ = some x1 ∧ W.cell? ⟨w.heap.size, 2, none⟩ = some x2 ∧ W.cell? ⟨w.heap.size, 3, none⟩ = some x3 ∧ W.cell? ⟨w.heap.size, 4, none⟩ = some x4) ∧ W.cell? ⟨b1, o1, none⟩ = some (.int .i64 X)) ∧ W.cell? ⟨b1, o1 + 1, none⟩ = some (.slice oa n5 oq)) (first | with_reducible exact Z.out _ hrd.out | with_reducible exact Z.out _ R2.out | with_reducible exact Z.out _ R3.out)
                          (first | (go_at_call 29; refine (CX.out _ (below_trans HB.out hrd.out)).mono ?_; rintro e w2 ⟨rfl, d2⟩; have R2 : Hid (Below wr.heap.size wr w2) := below_trans hrd.out d2; clear d2) | (go_at_call 30; refine (CAX.out _ R2.out).mono ?_; rintro e w3 ⟨rfl, d3⟩; have R3 : Hid (Below wr.heap.size wr w3) := below_trans R2.out d3; clear d3))
                        have HG := below_trans hg R3.out
                        cases E
                        · have hf := BAD.out (by rw [HOK.out]; simp)
                          clear GOOD BAD HOK ht
                          go_wp2_with fail
                          go_ret
                          exact ⟨ret_b hf.out.symm, below_trans bw (HG)⟩
                        · have ht2 := GOOD.out (by rw [HOK.out]; simp [HC.out])
                          clear GOOD BAD HOK ht
                          go_wp2_with fail
                          go_roundw
                          case rel => exact ⟨k + 1, by omega, by go_num, ht2, HG⟩
                          case measure => simp [intOf]; omega
                      · have q10 : (A != 10) = true := by simp [h10]
                        have hf := BAD.out (by rw [HOK.out]; simp [h1, h10])
                        clear GOOD BAD HOK h1 h10 ht
                        go_wp2_with fail
                        refine wp_region_held_drew (S := fun W => ((W.cell? ⟨w.heap.size, 0, none⟩ = some x0 ∧ W.cell? ⟨w.heap.size, 1, none⟩ = some x1 ∧ W.cell? ⟨w.heap.size, 2, none⟩ = some x2 ∧ W.cell? ⟨w.heap.size, 3, none⟩ = some x3 ∧ W.cell? ⟨w.heap.size, 4, none⟩ = some x4) ∧ W.cell? ⟨b1, o1, none⟩ = some (.int .i64 X)) ∧ W.cell? ⟨b1, o1 + 1, none⟩ = some (.slice oa n5 oq)) (by kernel_rfl) (Z.out _ hrd.out) (fun hHeld => ?_)
                        refine wpAnyH_take (i := 0) (v := ?v76) rfl (by kernel_rfl) (by kernel_rfl) (by kernel_rfl) (fun _ _ _ h => h) (Or.inl ⟨by kernel_rfl, ?h76⟩) hHeld ?r76
                        case h76 => intro W hSw; (try dsimp only at hSw); obtain ⟨⟨⟨s0, s1, s2, s3, s4⟩, s5⟩, s6⟩ := hSw; go_simp; try with_reducible rfl
                        simp only [Act.put, List.setIfInBounds_toArray, List.set_cons_zero, List.set_cons_succ]
                        refine wpAnyH_take (i := 1) (v := ?v77) rfl (by kernel_rfl) (by kernel_rfl) (by kernel_rfl) (fun _ _ _ h => h) (Or.inl ⟨by kernel_rfl, ?h77⟩) hHeld ?r77
                        case h77 => intro W hSw; (try dsimp only at hSw); obtain ⟨⟨⟨s0, s1, s2, s3, s4⟩, s5⟩, s6⟩ := hSw; go_simp; try with_reducible rfl
                        simp only [Act.put, List.setIfInBounds_toArray, List.set_cons_zero, List.set_cons_succ]
                        refine wpAnyH_take (i := 2) (v := ?v78) rfl (by kernel_rfl) (by kernel_rfl) (by kernel_rfl) (fun _ _ _ h => h) (Or.inl ⟨by kernel_rfl, ?h78⟩) hHeld ?r78
                        case h78 => intro W hSw; (try dsimp only at hSw); obtain ⟨⟨⟨s0, s1, s2, s3, s4⟩, s5⟩, s6⟩ := hSw; go_simp; try with_reducible rfl
                        simp only [Act.put, List.setIfInBounds_toArray, List.set_cons_zero, List.set_cons_succ]
                        refine wpAnyH_take (i := 3) (v := ?v79) rfl (by kernel_rfl) (by kernel_rfl) (by kernel_rfl) (fun _ _ _ h => h) (Or.inl ⟨by kernel_rfl, ?h79⟩) hHeld ?r79
                        case h79 => intro W hSw; (try dsimp only at hSw); obtain ⟨⟨⟨s0, s1, s2, s3, s4⟩, s5⟩, s6⟩ := hSw; go_simp; try with_reducible rfl
                        simp only [Act.put, List.setIfInBounds_toArray, List.set_cons_zero, List.set_cons_succ]
                        refine wpAnyH_take (i := 4) (v := ?v80) rfl (by kernel_rfl) (by kernel_rfl) (by kernel_rfl) (fun _ _ _ h => h) (Or.inl ⟨by kernel_rfl, ?h80⟩) hHeld ?r80
                        case h80 => intro W hSw; (try dsimp only at hSw); obtain ⟨⟨⟨s0, s1, s2, s3, s4⟩, s5⟩, s6⟩ := hSw; go_simp; try with_reducible rfl
                        simp only [Act.put, List.setIfInBounds_toArray, List.set_cons_zero, List.set_cons_succ]
                        refine wpAnyH_take (i := 5) (v := ?v81) rfl (by kernel_rfl) (by kernel_rfl) (by kernel_rfl) (fun _ _ _ h => h) (Or.inl ⟨by kernel_rfl, ?h81⟩) hHeld ?r81
                        case h81 => intro W hSw; (try dsimp only at hSw); obtain ⟨⟨⟨s0, s1, s2, s3, s4⟩, s5⟩, s6⟩ := hSw; go_simp; try with_reducible rfl
                        simp only [Act.put, List.setIfInBounds_toArray, List.set_cons_zero, List.set_cons_succ]
                        refine wpAnyH_take (i := 6) (v := ?v82) rfl (by kernel_rfl) (by kernel_rfl) (by kernel_rfl) (fun _ _ _ h => h) (Or.inl ⟨by kernel_rfl, ?h82⟩) hHeld ?r82
                        case h82 => intro W hSw; (try dsimp only at hSw); obtain ⟨⟨⟨s0, s1, s2, s3, s4⟩, s5⟩, s6⟩ := hSw; go_simp; try with_reducible rfl
                        simp only [Act.put, List.setIfInBounds_toArray, List.set_cons_zero, List.set_cons_succ]
                        refine wpAnyH_take (i := 7) (v := ?v83) rfl (by kernel_rfl) (by kernel_rfl) (by kernel_rfl) (fun _ _ _ h => h) (Or.inl ⟨by kernel_rfl, ?h83⟩) hHeld ?r83
                        case h83 => intro W hSw; (try dsimp only at hSw); obtain ⟨⟨⟨s0, s1, s2, s3, s4⟩, s5⟩, s6⟩ := hSw; go_simp; try with_reducible rfl
                        simp only [Act.put, List.setIfInBounds_toArray, List.set_cons_zero, List.set_cons_succ]
                        refine wpAnyH_take (i := 8) (v := ?v84) rfl (by kernel_rfl) (by kernel_rfl) (by kernel_rfl) (fun _ _ _ h => h) (Or.inl ⟨by kernel_rfl, ?h84⟩) hHeld ?r84
                        case h84 => intro W hSw; (try dsimp only at hSw); obtain ⟨⟨⟨s0, s1, s2, s3, s4⟩, s5⟩, s6⟩ := hSw; go_simp; try with_reducible rfl
                        simp only [Act.put, List.setIfInBounds_toArray, List.set_cons_zero, List.set_cons_succ]
                        refine wpAnyH_take (i := 9) (v := ?v85) rfl (by kernel_rfl) (by kernel_rfl) (by kernel_rfl) (fun _ _ _ h => h) (Or.inl ⟨by kernel_rfl, ?h85⟩) hHeld ?r85
                        case h85 => intro W hSw; (try dsimp only at hSw); obtain ⟨⟨⟨s0, s1, s2, s3, s4⟩, s5⟩, s6⟩ := hSw; go_simp; try with_reducible rfl
                        simp only [Act.put, List.setIfInBounds_toArray, List.set_cons_zero, List.set_cons_succ]
                        refine wpAnyH_take (i := 10) (v := ?v86) rfl (by kernel_rfl) (by kernel_rfl) (by kernel_rfl) (fun _ _ _ h => h) (Or.inl ⟨by kernel_rfl, ?h86⟩) hHeld ?r86
                        case h86 => intro W hSw; (try dsimp only at hSw); obtain ⟨⟨⟨s0, s1, s2, s3, s4⟩, s5⟩, s6⟩ := hSw; go_simp; try with_reducible rfl
                        simp only [Act.put, List.setIfInBounds_toArray, List.set_cons_zero, List.set_cons_succ]
                        refine wpAnyH_take (i := 11) (v := ?v87) rfl (by kernel_rfl) (by kernel_rfl) (by kernel_rfl) (fun _ _ _ h => h) (Or.inl ⟨by kernel_rfl, ?h87⟩) hHeld ?r87
                        case h87 => intro W hSw; (try dsimp only at hSw); obtain ⟨⟨⟨s0, s1, s2, s3, s4⟩, s5⟩, s6⟩ := hSw; go_simp; try with_reducible rfl
                        simp only [Act.put, List.setIfInBounds_toArray, List.set_cons_zero, List.set_cons_succ]
                        refine wpAnyH_take (i := 12) (v := ?v88) rfl (by kernel_rfl) (by kernel_rfl) (by kernel_rfl) (fun _ _ _ h => h) (Or.inl ⟨by kernel_rfl, ?h88⟩) hHeld ?r88
                        case h88 => intro W hSw; (try dsimp only at hSw); obtain ⟨⟨⟨s0, s1, s2, s3, s4⟩, s5⟩, s6⟩ := hSw; go_simp; try with_reducible rfl
                        simp only [Act.put, List.setIfInBounds_toArray, List.set_cons_zero, List.set_cons_succ]
                        refine wpAnyH_take (i := 13) (v := ?v89) rfl (by kernel_rfl) (by kernel_rfl) (by kernel_rfl) (fun _ _ _ h => h) (Or.inl ⟨by kernel_rfl, ?h89⟩) hHeld ?r89
                        case h89 => intro W hSw; (try dsimp only at hSw); obtain ⟨⟨⟨s0, s1, s2, s3, s4⟩, s5⟩, s6⟩ := hSw; go_simp; try with_reducible rfl
                        simp only [Act.put, List.setIfInBounds_toArray, List.set_cons_zero, List.set_cons_succ]
                        refine wpAnyH_take (i := 14) (v := ?v90) rfl (by kernel_rfl) (by kernel_rfl) (by kernel_rfl) (fun _ _ _ h => h) (Or.inl ⟨by kernel_rfl, ?h90⟩) hHeld ?r90
                        case h90 => intro W hSw; (try dsimp only at hSw); obtain ⟨⟨⟨s0, s1, s2, s3, s4⟩, s5⟩, s6⟩ := hSw; go_simp; try with_reducible rfl
                        simp only [Act.put, List.setIfInBounds_toArray, List.set_cons_zero, List.set_cons_succ]
                        refine wpAnyH_ready (rs := [15]) (by kernel_rfl) (by simp) ?_
                        refine AllReadyH.cons rfl (fun K hK => ?_) AllReadyH.nil
                        go_simp
                        go_wp2_with (first | (go_at_call 29; refine (CX.out _ (below_trans HB.out hrd.out)).mono ?_; rintro e w2 ⟨rfl, d2⟩; have R2 : Hid (Below wr.heap.size wr w2) := below_trans hrd.out d2; clear d2))
                        refine hK.out _ _ (Z.out _ R2.out) (fun hHeld => ?_)
                        clear hK K
                        refine wpAnyH_take (i := 16) (v := ?v91) rfl (by kernel_rfl) (by kernel_rfl) (by kernel_rfl) (fun _ _ _ h => h) (Or.inl ⟨by kernel_rfl, ?h91⟩) hHeld ?r91
                        case h91 => intro W hSw; (try dsimp only at hSw); obtain ⟨⟨⟨s0, s1, s2, s3, s4⟩, s5⟩, s6⟩ := hSw; go_simp; try with_reducible rfl
                        simp only [Act.put, List.setIfInBounds_toArray, List.set_cons_zero, List.set_cons_succ]
                        refine wpAnyH_take (i := 17) (v := ?v92) rfl (by kernel_rfl) (by kernel_rfl) (by kernel_rfl) (fun _ _ _ h => h) (Or.inl ⟨by kernel_rfl, ?h92⟩) hHeld ?r92
                        case h92 => intro W hSw; (try dsimp only at hSw); obtain ⟨⟨⟨s0, s1, s2, s3, s4⟩, s5⟩, s6⟩ := hSw; go_simp; try with_reducible rfl
                        simp only [Act.put, List.setIfInBounds_toArray, List.set_cons_zero, List.set_cons_succ]
                        refine wpAnyH_take (i := 18) (v := ?v93) rfl (by kernel_rfl) (by kernel_rfl) (by kernel_rfl) (fun _ _ _ h => h) (Or.inl ⟨by kernel_rfl, ?h93⟩) hHeld ?r93
                        case h93 => intro W hSw; (try dsimp only at hSw); obtain ⟨⟨⟨s0, s1, s2, s3, s4⟩, s5⟩, s6⟩ := hSw; go_simp; try with_reducible rfl
                        simp only [Act.put, List.setIfInBounds_toArray, List.set_cons_zero, List.set_cons_succ]
                        refine wpAnyH_take (i := 19) (v := undef) rfl (by kernel_rfl) (by kernel_rfl) (by kernel_rfl) (fun _ _ _ h => h) (Or.inr ⟨by kernel_rfl, rfl⟩) hHeld ?_
                        simp only [Act.put, List.setIfInBounds_toArray, List.set_cons_zero, List.set_cons_succ]
                        refine wpAnyH_take (i := 20) (v := undef) rfl (by kernel_rfl) (by kernel_rfl) (by kernel_rfl) (fun _ _ _ h => h) (Or.inr ⟨by kernel_rfl, rfl⟩) hHeld ?_
                        simp only [Act.put, List.setIfInBounds_toArray, List.set_cons_zero, List.set_cons_succ]
                        refine wpAnyH_take (i := 21) (v := undef) rfl (by kernel_rfl) (by kernel_rfl) (by kernel_rfl) (fun _ _ _ h => h) (Or.inr ⟨by kernel_rfl, rfl⟩) hHeld ?_
                        simp only [Act.put, List.setIfInBounds_toArray, List.set_cons_zero, List.set_cons_succ]
                        refine wpAnyH_take (i := 22) (v := undef) rfl (by kernel_rfl) (by kernel_rfl) (by kernel_rfl) (fun _ _ _ h => h) (Or.inr ⟨by kernel_rfl, rfl⟩) hHeld ?_
                        simp only [Act.put, List.setIfInBounds_toArray, List.set_cons_zero, List.set_cons_succ]
                        refine wpAnyH_take (i := 23) (v := undef) rfl (by kernel_rfl) (by kernel_rfl) (by kernel_rfl) (fun _ _ _ h => h) (Or.inr ⟨by kernel_rfl, rfl⟩) hHeld ?_
                        simp only [Act.put, List.setIfInBounds_toArray, List.set_cons_zero, List.set_cons_succ]
                        refine wpAnyH_take (i := 24) (v := undef) rfl (by kernel_rfl) (by kernel_rfl) (by kernel_rfl) (fun _ _ _ h => h) (Or.inr ⟨by kernel_rfl, rfl⟩) hHeld ?_
                        simp only [Act.put, List.setIfInBounds_toArray, List.set_cons_zero, List.set_cons_succ]
                        refine wpAnyH_take (i := 25) (v := undef) rfl (by kernel_rfl) (by kernel_rfl) (by kernel_rfl) (fun _ _ _ h => h) (Or.inr ⟨by kernel_rfl, rfl⟩) hHeld ?_
                        simp only [Act.put, List.setIfInBounds_toArray, List.set_cons_zero, List.set_cons_succ]
                        refine wpAnyH_ready (rs := [26]) (by kernel_rfl) (by simp) ?_
                        refine AllReadyH.cons rfl (fun K hK => ?_) AllReadyH.nil
                        go_simp
                        refine hK.out _ _ (Z.out _ R2.out) (fun hHeld => ?_)
                        clear hK K
                        refine wpAnyH_take (i := 27) (v := undef) rfl (by kernel_rfl) (by kernel_rfl) (by kernel_rfl) (fun _ _ _ h => h) (Or.inr ⟨by kernel_rfl, rfl⟩) hHeld ?_
                        simp only [Act.put, List.setIfInBounds_toArray, List.set_cons_zero, List.set_cons_succ]
                        refine wpAnyH_take (i := 28) (v := ?v102) rfl (by kernel_rfl) (by kernel_rfl) (by kernel_rfl) (fun _ _ _ h => h) (Or.inl ⟨by kernel_rfl, ?h102⟩) hHeld ?r102
                        case h102 => intro W hSw; (try dsimp only at hSw); obtain ⟨⟨⟨s0, s1, s2, s3, s4⟩, s5⟩, s6⟩ := hSw; go_simp; try with_reducible rfl
                        simp only [Act.put, List.setIfInBounds_toArray, List.set_cons_zero, List.set_cons_succ]
                        refine wpAnyH_done (by kernel_rfl) ?_ _
                        have HG := below_trans hg R2.out
                        go_wp2_with fail
                        go_ret
                        exact ⟨ret_b hf.out.symm, below_trans bw (HG)⟩
                  · have hf : Hid (frmD d = true) := by
                      show _ = _
                      unfold frmD
                      rw [decide_eq_true (by omega : d.code.length ≤ 256), D1.out, D2.out, D3.out, all_done (p := okCa d.code) (by omega) ht.out]
                      rfl
                    have HG := hg
                    clear ht
                    go_wp2_with fail
                    go_ret
                    exact ⟨ret_b hf.out.symm, below_trans bw (HG)⟩
end Go.Proofs.Ytfmpeminfcehaaa
