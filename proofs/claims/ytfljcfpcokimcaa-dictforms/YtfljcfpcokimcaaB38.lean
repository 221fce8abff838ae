/-
  Texts of one proof, laid one behind the other: Rdf.
-/
import Derived.Test.YtfljcfpcokimcaaB37
namespace Go.Proofs.Ytfljcfpcokimcaa
open Go.ChangeShapes Go.WideShapes Go.ChangeAt Go.RowKit
set_option linter.unusedVariables false
set_option linter.unusedSimpArgs false

/-
  New of the document's answer for machines.
-/
set_option maxHeartbeats 20000000 in
set_option maxRecDepth 1000000 in
theorem w_r9primsO (w : World) :
    Calls Try.prog 14 #[] w fun e w' => ∃ v, e = .returned v ∧ OwnR 37 2 prmR w.heap.size w' v prmL ∧ Below w.heap.size w w' := by
  go_enter Try.func14, Try.ntmps14
  refine wp_seq (wp_region_list (wpList_runL _ _ _ _ _ rfl ?_))
  simp only [Exit.then]
  refine wp_seq (wp_region_runL (t := 0) (v := .slice (some ⟨w.heap.size, 0, none⟩) 111 111) (w' := w.alloc (.cells (prmL.map prmV).flatten.toArray 37)) (by kernel_rfl) ?_)
  intro a' h1 h2
  simp only [Exit.then]
  refine wp_ret ?_
  refine bodyPost_ret (results_tmp rfl _ _ _) h2 ?_
  rw [h1]
  exact ⟨_, rfl, prm_own w, box_below w _⟩

set_option maxHeartbeats 4000000 in
set_option maxRecDepth 100000 in
theorem w_r9new (w : World) : Calls Try.prog 12 #[] w fun e w' => ∃ v, e = .returned (.agg (Mv.cs v newM ⟨#[]⟩)) ∧ OwM w.heap.size w' v newM ⟨#[]⟩ ∧ Below w.heap.size w w' := by
  obtain ⟨i9, hi9, hz9, hz8, hz7⟩ := info_parts infoWd
  have bz := box_below w (.cells #[.slice none 0 0, .slice none 0 0, .slice none 0 0, .slice none 0 0, .int .u32 0, .slice none 0 0, .int .i64 0, .slice none 0 0, .int .i64 0, .string ⟨#[]⟩] 32)
  have sz0 := stands_new w #[.slice none 0 0, .slice none 0 0, .slice none 0 0, .slice none 0 0, .int .u32 0, .slice none 0 0, .int .i64 0, .slice none 0 0, .int .i64 0, .string ⟨#[]⟩] 32
  have cn := fun W => w_r8new W
  have cp := fun W => w_r9primsO W
  go_enter Try.func12, Try.ntmps12
  go_upto_region 1 with fail
  generalize w.alloc (.cells #[.slice none 0 0, .slice none 0 0, .slice none 0 0, .slice none 0 0, .int .u32 0, .slice none 0 0, .int .i64 0, .slice none 0 0, .int .i64 0, .string ⟨#[]⟩] 32) = W0 at bz sz0 ⊢
  go_upto_region 2 with (go_at_call 35; refine (cn _).mono ?_; rintro e w1 ⟨vT, rfl, oT, b1⟩; obtain ⟨csT, oTr⟩ := oT.row; obtain ⟨ta, tc, rfl⟩ := own_form oTr)
  have sm := stands_new w1 #[.slice none 0 0, .slice none 0 0, .slice none 0 0, .slice none 0 0, .int .u32 16, .slice ta 1 tc, .int .i64 (-1), .slice none 0 0, .int .i64 (-1), .string ⟨#[]⟩] 32
  have bm := box_below w1 (.cells #[.slice none 0 0, .slice none 0 0, .slice none 0 0, .slice none 0 0, .int .u32 16, .slice ta 1 tc, .int .i64 (-1), .slice none 0 0, .int .i64 (-1), .string ⟨#[]⟩] 32)
  have b01 := below_trans b1 bm
  have szm := sz0.below b01
  have oT2 := OwnT8.below oT bm
  obtain ⟨B, hB⟩ : ∃ B, w1.heap.size = B := ⟨_, rfl⟩
  have hBW : W0.heap.size ≤ B := by rw [← hB]; exact b1.size
  have hw0 : w.heap.size < W0.heap.size := (Array.getElem?_eq_some_iff.1 sz0).1
  rw [hB] at sm
  simp only [List.length_singleton] at sm bm szm b01 oT2 ⊢
  simp only [hB]
  generalize w1.alloc (.cells #[.slice none 0 0, .slice none 0 0, .slice none 0 0, .slice none 0 0, .int .u32 16, .slice ta 1 tc, .int .i64 (-1), .slice none 0 0, .int .i64 (-1), .string ⟨#[]⟩] 32) = w2 at sm bm szm b01 oT2 ⊢
  have hB2 : B < w2.heap.size := by
    have := Array.getElem?_eq_some_iff.1 sm
    exact this.1
  go_wp2_with (go_at_call 14; refine (cp _).mono ?_; rintro e w3 ⟨vl, rfl, oL, b3⟩)
  have hll := slr_len (oL.read (R := prmR) (by decide) (fun _ _ q => q)) uM (P := Try.prog)
  rw [prm_len] at hll
  have W2L := b01.size
  go_loopw [3] (fun I wx => ∃ (i : Nat) (vw : Value), (i : Int) ≤ 111 ∧ I = .int .i64 i ∧ Stands wx B #[.slice none 0 0, .slice none 0 0, vw, .slice none 0 0, .int .u32 16, .slice ta 1 tc, .int .i64 (-1), .slice none 0 0, .int .i64 (-1), .string ⟨#[]⟩] 32 ∧ Stands wx w.heap.size #[.slice none 0 0, .slice none 0 0, .slice none 0 0, .slice none 0 0, .int .u32 0, .slice none 0 0, .int .i64 0, .slice none 0 0, .int .i64 0, .string ⟨#[]⟩] 32 ∧ OwW w2.heap.size wx vw ((prmL.take i).map prmW) ∧ OwnR 37 2 prmR w2.heap.size wx vl prmL ∧ OwnT8 W0.heap.size wx (.slice ta 1 tc) [([], [], -1, [], [])] ∧ Below W0.heap.size W0 wx) (fun I _ => (111 - intOf I).toNat)
  case atStart => exact ⟨0, .slice none 0 0, by omega, rfl, sm.below b3, szm.below b3, OwnR.nil _ _ _ _ _, oL, oT2.below b3, below_trans b01 b3⟩
  case round =>
    clear cn cp oL b3 oT2 szm sm oT oTr
    obtain ⟨i, vw, hi, rfl, st, sz, oW, oL, oT, hb⟩ := hrel
    have hb0 := below_trans bz hb
    by_cases hlt : (i : Int) < 111
    · have hil : i < prmL.length := by rw [prm_len]; omega
      obtain ⟨bp, op, nm, rp, p0, p1, en⟩ := prm_cell (oL.read (R := prmR) (by decide) (fun _ _ q => q)) i hil
      have hcd := List.all_eq_true.1 prm_codes _ (List.getElem_mem hil)
      rw [decide_eq_true_eq] at hcd
      obtain ⟨c, hc⟩ : ∃ c, prmL[i].2 = c := ⟨_, rfl⟩
      rw [hc] at p1 hcd
      have hwr := wrap_u32 c hcd.1 hcd.2
      have hrow : prmW prmL[i] = (prmL[i].1, -1, 1, c, []) := by unfold prmW; rw [hc]
      have htk : (prmL.take (i + 1)).map prmW = (prmL.take i).map prmW ++ [prmW prmL[i]] := by rw [List.take_succ_eq_append_getElem hil, List.map_append]; rfl
      have hlw : ((prmL.take i).map prmW).length = i := by rw [List.length_map, List.length_take]; omega
      obtain ⟨csW, oWr⟩ := oW.row
      obtain ⟨wa, wc, rfl⟩ := own_form oWr
      rw [hlw] at st oW oWr
      have PB : Hid (∀ W, Below wr.heap.size wr W → W.cell? ⟨bp, op, none⟩ = some (.string nm) ∧ W.cell? ⟨bp, op + 1, none⟩ = some (.int .i64 c)) := fun W g => ⟨below_cell g p0, below_cell g p1⟩
      have ST : Hid (∀ W, Below wr.heap.size wr W → Stands W B #[.slice none 0 0, .slice none 0 0, .slice wa i wc, .slice none 0 0, .int .u32 16, .slice ta 1 tc, .int .i64 (-1), .slice none 0 0, .int .i64 (-1), .string ⟨#[]⟩] 32) := fun W g => st.below g
      have hrd : Hid (Below wr.heap.size wr wr.drew) := below_drewN (Below.refl _ _) 1
      have OW := hid oW
      have OL := hid oL
      have OT := hid oT
      have SZ := hid sz
      have HB := hid hb
      have PC : Hid (∀ W, OwnR 37 2 prmR w2.heap.size W vl prmL → W.cell? ⟨bp, op, none⟩ = some (.string nm) ∧ W.cell? ⟨bp, op + 1, none⟩ = some (.int .i64 c)) := by
        show ∀ W, _
        intro W q
        obtain ⟨bq, oq, nq, rq, q0, q1, eq⟩ := prm_cell (q.read (R := prmR) (by decide) (fun _ _ q => q)) i hil
        have e := (rq W).symm.trans (rp W)
        simp at e
        obtain ⟨rfl, rfl⟩ := e
        rw [hc] at q1
        rw [show nm = nq by rw [← en, eq]]
        exact ⟨q0, q1⟩
      have EN := hid en
      have HROW := hid hrow
      have HTK := hid htk
      clear st sz oW oL oT hb p0 p1 htk hrow hc en hb0
      go_wp2_with fail
      have hwL : w2.heap.size ≤ wr.heap.size := by
        obtain ⟨csL, oLr⟩ := OL.out.row
        rcases oLr.2 with ⟨_, h0⟩ | ⟨gL, cL, curL, hvL, hgL, hxL, _⟩
        · rw [prm_len] at h0
          omega
        · have := (Array.getElem?_eq_some_iff.1 hxL).1
          omega
      refine wp_region_held_drew (S := fun W => W.cell? ⟨bp, op, none⟩ = some (.string nm) ∧ W.cell? ⟨bp, op + 1, none⟩ = some (.int .i64 c)) (by kernel_rfl) (PB.out _ hrd.out) (fun hHeld => ?_)
      refine wpAnyH_take (i := 0) (v := ?v1) rfl (by kernel_rfl) (by kernel_rfl) (by kernel_rfl) (fun _ _ _ h => h) (Or.inl ⟨by rfl, ?h1⟩) (by assumption) ?r1
      case h1 => intro W hSw; (try dsimp only at hSw); obtain ⟨s0, s1⟩ := hSw; go_simp; try with_reducible rfl
      simp only [Act.put, List.setIfInBounds_toArray, List.set_cons_zero, List.set_cons_succ]
      refine wpAnyH_take (i := 2) (v := ?v2) rfl (by kernel_rfl) (by kernel_rfl) (by kernel_rfl) (fun _ _ _ h => h) (Or.inl ⟨by rfl, ?h2⟩) (by assumption) ?r2
      case h2 => intro W hSw; (try dsimp only at hSw); obtain ⟨s0, s1⟩ := hSw; go_simp; try with_reducible rfl
      simp only [Act.put, List.setIfInBounds_toArray, List.set_cons_zero, List.set_cons_succ]
      refine wpAnyH_take (i := 3) (v := ?v3) rfl (by kernel_rfl) (by kernel_rfl) (by kernel_rfl) (fun _ _ _ h => h) (Or.inl ⟨by rfl, ?h3⟩) (by assumption) ?r3
      case h3 => intro W hSw; (try dsimp only at hSw); obtain ⟨s0, s1⟩ := hSw; go_simp; try with_reducible rfl
      simp only [Act.put, List.setIfInBounds_toArray, List.set_cons_zero, List.set_cons_succ]
      refine wpAnyH_take (i := 4) (v := ?v4) rfl (by kernel_rfl) (by kernel_rfl) (by kernel_rfl) (fun _ _ _ h => h) (Or.inl ⟨by rfl, ?h4⟩) (by assumption) ?r4
      case h4 => intro W hSw; (try dsimp only at hSw); obtain ⟨s0, s1⟩ := hSw; go_simp; try with_reducible rfl
      simp only [Act.put, List.setIfInBounds_toArray, List.set_cons_zero, List.set_cons_succ]
      refine wpAnyH_take (i := 5) (v := ?v5) rfl (by kernel_rfl) (by kernel_rfl) (by kernel_rfl) (fun _ _ _ h => h) (Or.inl ⟨by rfl, ?h5⟩) (by assumption) ?r5
      case h5 => intro W hSw; (try dsimp only at hSw); obtain ⟨s0, s1⟩ := hSw; go_simp; try with_reducible rfl
      simp only [Act.put, List.setIfInBounds_toArray, List.set_cons_zero, List.set_cons_succ]
      refine wpAnyH_take (i := 6) (v := ?v6) rfl (by kernel_rfl) (by kernel_rfl) (by kernel_rfl) (fun _ _ _ h => h) (Or.inl ⟨by rfl, ?h6⟩) (by assumption) ?r6
      case h6 => intro W hSw; (try dsimp only at hSw); obtain ⟨s0, s1⟩ := hSw; go_simp; try with_reducible rfl
      simp only [Act.put, List.setIfInBounds_toArray, List.set_cons_zero, List.set_cons_succ]
      refine wpAnyH_take (i := 7) (v := ?v7) rfl (by kernel_rfl) (by kernel_rfl) (by kernel_rfl) (fun _ _ _ h => h) (Or.inl ⟨by rfl, ?h7⟩) (by assumption) ?r7
      case h7 => intro W hSw; (try dsimp only at hSw); obtain ⟨s0, s1⟩ := hSw; go_simp; try with_reducible rfl
      simp only [Act.put, List.setIfInBounds_toArray, List.set_cons_zero, List.set_cons_succ]
      refine wpAnyH_take (i := 8) (v := ?v8) rfl (by kernel_rfl) (by kernel_rfl) (by kernel_rfl) (fun _ _ _ h => h) (Or.inl ⟨by rfl, ?h8⟩) (by assumption) ?r8
      case h8 => intro W hSw; (try dsimp only at hSw); obtain ⟨s0, s1⟩ := hSw; go_simp; try with_reducible rfl
      simp only [Act.put, List.setIfInBounds_toArray, List.set_cons_zero, List.set_cons_succ]
      refine wpAnyH_take (i := 9) (v := ?v9) rfl (by kernel_rfl) (by kernel_rfl) (by kernel_rfl) (fun _ _ _ h => h) (Or.inl ⟨by rfl, ?h9⟩) (by assumption) ?r9
      case h9 => intro W hSw; (try dsimp only at hSw); obtain ⟨s0, s1⟩ := hSw; go_simp; try with_reducible rfl
      simp only [Act.put, List.setIfInBounds_toArray, List.set_cons_zero, List.set_cons_succ]
      refine wpAnyH_take (i := 10) (v := ?v10) rfl (by kernel_rfl) (by kernel_rfl) (by kernel_rfl) (fun _ _ _ h => h) (Or.inl ⟨by rfl, ?h10⟩) (by assumption) ?r10
      case h10 => intro W hSw; (try dsimp only at hSw); obtain ⟨s0, s1⟩ := hSw; go_simp; try with_reducible rfl
      simp only [Act.put, List.setIfInBounds_toArray, List.set_cons_zero, List.set_cons_succ]
      refine wpAnyH_take (i := 11) (v := ?v11) rfl (by kernel_rfl) (by kernel_rfl) (by kernel_rfl) (fun _ _ _ h => h) (Or.inl ⟨by rfl, ?h11⟩) (by assumption) ?r11
      case h11 => intro W hSw; (try dsimp only at hSw); obtain ⟨s0, s1⟩ := hSw; go_simp; try with_reducible rfl
      simp only [Act.put, List.setIfInBounds_toArray, List.set_cons_zero, List.set_cons_succ]
      refine wpAnyH_take (i := 12) (v := ?v12) rfl (by kernel_rfl) (by kernel_rfl) (by kernel_rfl) (fun _ _ _ h => h) (Or.inl ⟨by rfl, ?h12⟩) (by assumption) ?r12
      case h12 => intro W hSw; (try dsimp only at hSw); obtain ⟨s0, s1⟩ := hSw; go_simp; try with_reducible rfl
      simp only [Act.put, List.setIfInBounds_toArray, List.set_cons_zero, List.set_cons_succ]
      refine wpAnyH_take (i := 13) (v := ?v13) rfl (by kernel_rfl) (by kernel_rfl) (by kernel_rfl) (fun _ _ _ h => h) (Or.inl ⟨by rfl, ?h13⟩) (by assumption) ?r13
      case h13 => intro W hSw; (try dsimp only at hSw); obtain ⟨s0, s1⟩ := hSw; go_simp; try with_reducible rfl
      simp only [Act.put, List.setIfInBounds_toArray, List.set_cons_zero, List.set_cons_succ]
      refine wpAnyH_ready (rs := [1, 14]) (by kernel_rfl) (by simp) ?_
      refine AllReadyH.cons rfl (fun K hK => ?_) ?_
      · skip
        have zb := (ST.out _ hrd.out).cell 2 _ rfl
        go_simp
        clear zb
        refine hK.out _ _ (PB.out _ hrd.out) (fun hHeld => ?_)
        clear hK K
        refine wpAnyH_ready (rs := [14]) (by kernel_rfl) (by simp) ?_
        refine AllReadyH.cons rfl (fun K hK => ?_) AllReadyH.nil
        go_simp
        refine hK.out _ _ (PB.out _ (hrd.out.alloc hrd.out.size (.cells #[.string nm, .int .i64 (-1), .int .i64 1, .int .u32 c, .slice none 0 0] 51))) (fun hHeld => ?_)
        clear hK K
        have BX : Below wr.heap.size wr (wr.drew.alloc (.cells #[.string nm, .int .i64 (-1), .int .i64 1, .int .u32 c, .slice none 0 0] 51)) := (hrd.out.alloc hrd.out.size (.cells #[.string nm, .int .i64 (-1), .int .i64 1, .int .u32 c, .slice none 0 0] 51))
        obtain ⟨wrows, h1, h2, h3, h4⟩ := OwnR.below OW.out BX (wrdO_below BX)
        rw [hlw] at h3
        have hx : wrdO w2.heap.size (wr.drew.alloc (.cells #[.string nm, .int .i64 (-1), .int .i64 1, .int .u32 c, .slice none 0 0] 51)) [Value.string nm, .int .i64 (-1), .int .i64 1, .int .u32 c, .slice none 0 0] (prmW prmL[i]) := by rw [HROW.out]; exact ⟨_, by rw [EN.out], OwnR.nil _ _ _ _ _⟩
        refine wpAnyH_ready (rs := [15]) (by kernel_rfl) (by simp) ?_
        refine AllReadyH.cons rfl (fun K hK => ?_) AllReadyH.nil
        refine step_append_rows rfl _ _ 26 rfl w2.heap.size 51 i9 _ 5 64 Try.underlying26 hi9 hz9 hz8 hz7 rfl (by decide) _ i _ rfl h3 _ [[Value.string nm, .int .i64 (-1), .int .i64 1, .int .u32 c, .slice none 0 0]] rfl (slc_one wr.drew [Value.string nm, .int .i64 (-1), .int .i64 1, .int .u32 c, .slice none 0 0] 51 5 rfl) (fun r hr u hu => by rw [List.mem_singleton] at hr; subst hr; simp at hu; rcases hu with rfl | rfl | rfl | rfl | rfl <;> rfl) (by unfold maxLen; simp only [List.length_singleton]; omega) (by simp only [List.length_singleton]; omega) (Nat.le_trans hwL BX.size) ?_
        intro v9 w9 ho9 hg9
        obtain ⟨a9, c9, rfl⟩ := own_form ho9
        have k9 := Kept.own h3 hg9
        have oW9 := OwnR.snoc (e := 51) (wrdO_apt (by decide)) h1 h2 (by rw [hlw]; exact h3) h4 rfl hx (by rw [hlw]; simpa using ho9) hg9
        rw [← HTK.out] at oW9
        have oL9 := OwnR.kept (OwnR.below OL.out BX (fun _ _ q => q)) k9 (by decide) (fun _ _ _ _ _ q => q)
        have oT9 := OwnR.kept (OwnT8.below OT.out BX) k9 (by decide) (nodO_apt (by decide) (by decide) (by decide))
        have st9 : Stands w9 B #[.slice none 0 0, .slice none 0 0, .slice wa i wc, .slice none 0 0, .int .u32 16, .slice ta 1 tc, .int .i64 (-1), .slice none 0 0, .int .i64 (-1), .string ⟨#[]⟩] 32 := Stands.grown (ST.out _ BX) hg9 (stands_apart (ST.out _ BX) h3 (by decide))
        have sz9 : Stands w9 w.heap.size #[.slice none 0 0, .slice none 0 0, .slice none 0 0, .slice none 0 0, .int .u32 0, .slice none 0 0, .int .i64 0, .slice none 0 0, .int .i64 0, .string ⟨#[]⟩] 32 := Stands.grown (SZ.out.below BX) hg9 (stands_apart (SZ.out.below BX) h3 (by decide))
        have hb9 := below_grown (below_trans HB.out BX) hg9 (fun k hk => Nat.le_trans W2L (h3.lt k hk).1)
        have y1 := st9.cell 2 _ rfl
        have y2 := st9.free 2
        have kM := set_kept st9 2 (.slice a9 (i + [[Value.string nm, .int .i64 (-1), .int .i64 1, .int .u32 c, .slice none 0 0]].length) c9)
        have stF := hid (st9.set 2 (.slice a9 (i + [[Value.string nm, .int .i64 (-1), .int .i64 1, .int .u32 c, .slice none 0 0]].length) c9))
        have szF := hid (sz9.other (b' := B) 2 (.slice a9 (i + [[Value.string nm, .int .i64 (-1), .int .i64 1, .int .u32 c, .slice none 0 0]].length) c9) (by omega))
        have oWF := hid (OwnR.kept oW9 kM (by decide) (wrdO_apt (by decide)))
        have oLF := hid (OwnR.kept oL9 kM (by decide) (fun _ _ _ _ _ q => q))
        have oTF := hid (OwnR.kept oT9 kM (by decide) (nodO_apt (by decide) (by decide) (by decide)))
        have bF := hid (below_set hb9 B 2 (.slice a9 (i + [[Value.string nm, .int .i64 (-1), .int .i64 1, .int .u32 c, .slice none 0 0]].length) c9) hBW)
        have OL9 := hid oL9
        refine hK.out _ _ (PC.out _ OL9.out) (fun hHeld => ?_)
        clear hK K
        clear k9 h1 h2 h3 h4 hx ho9 hg9 BX oW9 oL9 oT9 st9 sz9 hb9 kM
        refine wpAnyH_take (i := 16) (v := ?v14) rfl (by kernel_rfl) (by kernel_rfl) (by kernel_rfl) (fun _ _ _ h => h) (Or.inl ⟨by rfl, ?h14⟩) (by assumption) ?r14
        case h14 => intro W hSw; (try dsimp only at hSw); obtain ⟨s0, s1⟩ := hSw; go_simp; try with_reducible rfl
        simp only [Act.put, List.setIfInBounds_toArray, List.set_cons_zero, List.set_cons_succ]
        refine wpAnyH_ready (rs := [17]) (by kernel_rfl) (by simp) ?_
        refine AllReadyH.cons rfl (fun K hK => ?_) AllReadyH.nil
        go_simp
        refine hK.out _ _ (PC.out _ oLF.out) (fun hHeld => ?_)
        clear hK K
        refine wpAnyH_done (by kernel_rfl) ?_ _
        clear y1 y2
        go_wp2_with fail
        go_roundw
        case rel => exact ⟨i + 1, _, by omega, by go_num, by simpa using stF.out, szF.out, oWF.out, oLF.out, oTF.out, bF.out⟩
        case measure => simp [intOf]; omega
      · refine AllReadyH.cons rfl (fun K hK => ?_) AllReadyH.nil
        go_simp
        refine hK.out _ _ (PB.out _ (hrd.out.alloc hrd.out.size (.cells #[.string nm, .int .i64 (-1), .int .i64 1, .int .u32 c, .slice none 0 0] 51))) (fun hHeld => ?_)
        clear hK K
        refine wpAnyH_ready (rs := [1]) (by kernel_rfl) (by simp) ?_
        refine AllReadyH.cons rfl (fun K hK => ?_) AllReadyH.nil
        have zb := (ST.out (wr.alloc (.cells #[.string nm, .int .i64 (-1), .int .i64 1, .int .u32 c, .slice none 0 0] 51)) ((Below.refl _ wr).alloc (Nat.le_refl _) _)).cell 2 _ rfl
        go_simp
        clear zb
        refine hK.out _ _ (PB.out _ (hrd.out.alloc hrd.out.size (.cells #[.string nm, .int .i64 (-1), .int .i64 1, .int .u32 c, .slice none 0 0] 51))) (fun hHeld => ?_)
        clear hK K
        have BX : Below wr.heap.size wr (wr.drew.alloc (.cells #[.string nm, .int .i64 (-1), .int .i64 1, .int .u32 c, .slice none 0 0] 51)) := (hrd.out.alloc hrd.out.size (.cells #[.string nm, .int .i64 (-1), .int .i64 1, .int .u32 c, .slice none 0 0] 51))
        obtain ⟨wrows, h1, h2, h3, h4⟩ := OwnR.below OW.out BX (wrdO_below BX)
        rw [hlw] at h3
        have hx : wrdO w2.heap.size (wr.drew.alloc (.cells #[.string nm, .int .i64 (-1), .int .i64 1, .int .u32 c, .slice none 0 0] 51)) [Value.string nm, .int .i64 (-1), .int .i64 1, .int .u32 c, .slice none 0 0] (prmW prmL[i]) := by rw [HROW.out]; exact ⟨_, by rw [EN.out], OwnR.nil _ _ _ _ _⟩
        refine wpAnyH_ready (rs := [15]) (by kernel_rfl) (by simp) ?_
        refine AllReadyH.cons rfl (fun K hK => ?_) AllReadyH.nil
        refine step_append_rows rfl _ _ 26 rfl w2.heap.size 51 i9 _ 5 64 Try.underlying26 hi9 hz9 hz8 hz7 rfl (by decide) _ i _ rfl h3 _ [[Value.string nm, .int .i64 (-1), .int .i64 1, .int .u32 c, .slice none 0 0]] rfl (slc_one wr.drew [Value.string nm, .int .i64 (-1), .int .i64 1, .int .u32 c, .slice none 0 0] 51 5 rfl) (fun r hr u hu => by rw [List.mem_singleton] at hr; subst hr; simp at hu; rcases hu with rfl | rfl | rfl | rfl | rfl <;> rfl) (by unfold maxLen; simp only [List.length_singleton]; omega) (by simp only [List.length_singleton]; omega) (Nat.le_trans hwL BX.size) ?_
        intro v9 w9 ho9 hg9
        obtain ⟨a9, c9, rfl⟩ := own_form ho9
        have k9 := Kept.own h3 hg9
        have oW9 := OwnR.snoc (e := 51) (wrdO_apt (by decide)) h1 h2 (by rw [hlw]; exact h3) h4 rfl hx (by rw [hlw]; simpa using ho9) hg9
        rw [← HTK.out] at oW9
        have oL9 := OwnR.kept (OwnR.below OL.out BX (fun _ _ q => q)) k9 (by decide) (fun _ _ _ _ _ q => q)
        have oT9 := OwnR.kept (OwnT8.below OT.out BX) k9 (by decide) (nodO_apt (by decide) (by decide) (by decide))
        have st9 : Stands w9 B #[.slice none 0 0, .slice none 0 0, .slice wa i wc, .slice none 0 0, .int .u32 16, .slice ta 1 tc, .int .i64 (-1), .slice none 0 0, .int .i64 (-1), .string ⟨#[]⟩] 32 := Stands.grown (ST.out _ BX) hg9 (stands_apart (ST.out _ BX) h3 (by decide))
        have sz9 : Stands w9 w.heap.size #[.slice none 0 0, .slice none 0 0, .slice none 0 0, .slice none 0 0, .int .u32 0, .slice none 0 0, .int .i64 0, .slice none 0 0, .int .i64 0, .string ⟨#[]⟩] 32 := Stands.grown (SZ.out.below BX) hg9 (stands_apart (SZ.out.below BX) h3 (by decide))
        have hb9 := below_grown (below_trans HB.out BX) hg9 (fun k hk => Nat.le_trans W2L (h3.lt k hk).1)
        have y1 := st9.cell 2 _ rfl
        have y2 := st9.free 2
        have kM := set_kept st9 2 (.slice a9 (i + [[Value.string nm, .int .i64 (-1), .int .i64 1, .int .u32 c, .slice none 0 0]].length) c9)
        have stF := hid (st9.set 2 (.slice a9 (i + [[Value.string nm, .int .i64 (-1), .int .i64 1, .int .u32 c, .slice none 0 0]].length) c9))
        have szF := hid (sz9.other (b' := B) 2 (.slice a9 (i + [[Value.string nm, .int .i64 (-1), .int .i64 1, .int .u32 c, .slice none 0 0]].length) c9) (by omega))
        have oWF := hid (OwnR.kept oW9 kM (by decide) (wrdO_apt (by decide)))
        have oLF := hid (OwnR.kept oL9 kM (by decide) (fun _ _ _ _ _ q => q))
        have oTF := hid (OwnR.kept oT9 kM (by decide) (nodO_apt (by decide) (by decide) (by decide)))
        have bF := hid (below_set hb9 B 2 (.slice a9 (i + [[Value.string nm, .int .i64 (-1), .int .i64 1, .int .u32 c, .slice none 0 0]].length) c9) hBW)
        have OL9 := hid oL9
        refine hK.out _ _ (PC.out _ OL9.out) (fun hHeld => ?_)
        clear hK K
        clear k9 h1 h2 h3 h4 hx ho9 hg9 BX oW9 oL9 oT9 st9 sz9 hb9 kM
        refine wpAnyH_take (i := 16) (v := ?v15) rfl (by kernel_rfl) (by kernel_rfl) (by kernel_rfl) (fun _ _ _ h => h) (Or.inl ⟨by rfl, ?h15⟩) (by assumption) ?r15
        case h15 => intro W hSw; (try dsimp only at hSw); obtain ⟨s0, s1⟩ := hSw; go_simp; try with_reducible rfl
        simp only [Act.put, List.setIfInBounds_toArray, List.set_cons_zero, List.set_cons_succ]
        refine wpAnyH_ready (rs := [17]) (by kernel_rfl) (by simp) ?_
        refine AllReadyH.cons rfl (fun K hK => ?_) AllReadyH.nil
        go_simp
        refine hK.out _ _ (PC.out _ oLF.out) (fun hHeld => ?_)
        clear hK K
        refine wpAnyH_done (by kernel_rfl) ?_ _
        clear y1 y2
        go_wp2_with fail
        go_roundw
        case rel => exact ⟨i + 1, _, by omega, by go_num, by simpa using stF.out, szF.out, oWF.out, oLF.out, oTF.out, bF.out⟩
        case measure => simp [intOf]; omega
    · have hi1 : i = 111 := by omega
      subst hi1
      have hfull : (prmL.take 111).map prmW = newM.words := by rw [List.take_of_length_le (by rw [prm_len]; exact Nat.le_refl _)]; rfl
      rw [hfull] at oW
      obtain ⟨csW, oWr⟩ := oW.row
      have hnl : newM.words.length = 111 := by show (prmL.map prmW).length = 111; rw [List.length_map, prm_len]
      obtain ⟨wa, wc, rfl⟩ := own_form oWr
      rw [hnl] at st oW oWr
      have u0 := st.cell 0 _ rfl
      have u1 := st.cell 1 _ rfl
      have u2 := st.cell 2 _ rfl
      have u3 := st.cell 3 _ rfl
      have u4 := st.cell 4 _ rfl
      have u5 := st.cell 5 _ rfl
      have u6 := st.cell 6 _ rfl
      have u7 := st.cell 7 _ rfl
      have u8 := st.cell 8 _ rfl
      have u9 := st.cell 9 _ rfl
      have y0 := sz.cell 0 _ rfl
      have y1 := sz.cell 1 _ rfl
      have y2 := sz.cell 2 _ rfl
      have y3 := sz.cell 3 _ rfl
      have y4 := sz.cell 4 _ rfl
      have y5 := sz.cell 5 _ rfl
      have y6 := sz.cell 6 _ rfl
      have y7 := sz.cell 7 _ rfl
      have y8 := sz.cell 8 _ rfl
      have y9 := sz.cell 9 _ rfl
      have yf := sz.free
      obtain ⟨k1, k2⟩ := set10 sz (.slice none 0 0) (.slice none 0 0) (.slice wa 111 wc) (.slice none 0 0) (.int .u32 16) (.slice ta 1 tc) (.int .i64 (-1)) (.slice none 0 0) (.int .i64 (-1)) (.string ⟨#[]⟩)
      have K1 := hid k1
      have J3 := hid (k2 (fun u => OwW w2.heap.size u (.slice wa 111 wc) newM.words) (fun u u' kk x => OwnR.kept x kk (by decide) (wrdO_apt (by decide))) oW)
      have J5 := hid (k2 (fun u => OwnT8 W0.heap.size u (.slice ta 1 tc) [([], [], -1, [], [])]) (fun u u' kk x => OwnT8.kept x kk (by decide) (by decide) (by decide) (by decide)) oT)
      have J7 : Hid (Below w.heap.size w _) := below_set (below_set (below_set (below_set (below_set (below_set (below_set (below_set (below_set (below_set (hb0) w.heap.size 0 (.slice none 0 0) (Nat.le_refl _)) w.heap.size 1 (.slice none 0 0) (Nat.le_refl _)) w.heap.size 2 (.slice wa 111 wc) (Nat.le_refl _)) w.heap.size 3 (.slice none 0 0) (Nat.le_refl _)) w.heap.size 4 (.int .u32 16) (Nat.le_refl _)) w.heap.size 5 (.slice ta 1 tc) (Nat.le_refl _)) w.heap.size 6 (.int .i64 (-1)) (Nat.le_refl _)) w.heap.size 7 (.slice none 0 0) (Nat.le_refl _)) w.heap.size 8 (.int .i64 (-1)) (Nat.le_refl _)) w.heap.size 9 (.string ⟨#[]⟩) (Nat.le_refl _)
      have HZ := hid bz.size
      have HZ2 : Hid (w.heap.size ≤ w2.heap.size) := hid (Nat.le_trans bz.size W2L)
      clear k1 k2 oW oT oWr hb hb0 st sz
      go_wp2_with fail
      (try simp only [Exit.inBlock, Exit.then])
      refine bodyPost_ret (results_cell_row rfl _ _ w.heap.size 32 _ (0, 0) _ rfl K1.out Try.underlying32 rfl (show _ = some 10 by kernel_rfl)) rfl ?_
      exact ⟨⟨.slice none 0 0, .slice none 0 0, .slice wa 111 wc, .slice none 0 0, .slice ta 1 tc, .slice none 0 0⟩, rfl, ⟨World.ownsRow_nil _ _ _ _, World.ownsRow_nil _ _ _ _, OwnR.le HZ2.out J3.out (wrdO_le HZ2.out), World.ownsRow_nil _ _ _ _, OwnT8.le HZ.out J5.out, OwnR.nil _ _ _ _ _, by decide +kernel⟩, J7.out⟩

end Go.Proofs.Ytfljcfpcokimcaa
