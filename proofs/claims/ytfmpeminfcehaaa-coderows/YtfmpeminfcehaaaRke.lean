/-
  Act of the document's answer for code: acts 11.
-/
import Derived.Test.YtfmpeminfcehaaaRk8
import Derived.Deep.RegionHeld2
namespace Go.Proofs.Ytfmpeminfcehaaa
open Go.ChangeShapes Go.WideShapes Go.ChangeAt Go.RowKit
set_option linter.unusedVariables false
set_option linter.unusedSimpArgs false

set_option maxHeartbeats 8000000 in
set_option maxRecDepth 100000 in
theorem w_r10act11 (v : Dv) (d : Dft) (w : World) (h : RdD w v d) (z : szD d) (ze : szE d) :
    Calls Try.prog 11 #[.agg v.cs, .int .i64 11] w fun e w' => ∃ v1, e = .returned (.tuple #[.agg (Dv.cs v1), .int .i64 (actD d 11).2]) ∧ OwQ w' v1 (actD d 11).1 ∧ Below w.heap.size w w' := by
  have cf := fun W (b : Below w.heap.size w W) => w_r10formed v d W (h.below b)
  have ck := fun W (b : Below w.heap.size w W) => w_r10lacks v d 11 W (h.below b) (by decide) (by decide)
  have cl := fun W => w_r10laid 11 W (by decide) (by decide)
  rw [show ladF 11 = 9 from rfl] at cl
  have cc := fun W (b : Below w.heap.size w W) => w_r10copy v d W (h.below b) z
  have l0 := slr_len h.code uO (P := Try.prog)
  have m1 := rd_maxI h.origs
  have m2 := rd_maxI h.dests
  have m3 := slr_max h.loops
  have m4 := slr_max h.cases
  unfold maxLen at m1 m2 m3 m4
  have s0 := (stands_new w v.cs 26).below (box_below _ (.cells #[.slice none 0 0, .slice none 0 0, .slice none 0 0, .slice none 0 0, .slice none 0 0] 26))
  have s2 := stands_new (w.alloc (.cells v.cs 26)) #[.slice none 0 0, .slice none 0 0, .slice none 0 0, .slice none 0 0, .slice none 0 0] 26
  rw [size_al] at s2
  have bw := below_trans (box_below w (.cells v.cs 26)) (box_below _ (.cells #[.slice none 0 0, .slice none 0 0, .slice none 0 0, .slice none 0 0, .slice none 0 0] 26))
  have CC := hid cc
  clear cc z h
  obtain ⟨x0, x1, x2, x3, x4⟩ := v
  simp only [Dv.cs] at cf ck s0 s2 bw l0 CC ⊢
  cases c1 : frmD d with
  | false =>
    rw [act_no1 c1]
    simp only [c1] at cf
    clear ck m1 m2 m3 m4
    go_enter Try.func11, Try.ntmps11
    go_upto_region 1 with fail
    generalize (w.alloc (.cells #[x0, x1, x2, x3, x4] 26)).alloc (.cells #[.slice none 0 0, .slice none 0 0, .slice none 0 0, .slice none 0 0, .slice none 0 0] 26) = W0 at s0 s2 bw ⊢
    have f0 := s0.cell 0 _ rfl
    have f1 := s0.cell 1 _ rfl
    have f2 := s0.cell 2 _ rfl
    have f3 := s0.cell 3 _ rfl
    have f4 := s0.cell 4 _ rfl
    go_wp2_with (first | (go_at_call 13; refine (cf _ bw).mono ?_; rintro e q1 ⟨rfl, b1⟩; have p0 := (s0.below b1).cell 0 _ rfl; have p1 := (s0.below b1).cell 1 _ rfl; have p2 := (s0.below b1).cell 2 _ rfl; have p3 := (s0.below b1).cell 3 _ rfl; have p4 := (s0.below b1).cell 4 _ rfl; have zz0 := (s2.below b1).cell 0 _ rfl; have zz1 := (s2.below b1).cell 1 _ rfl; have zz2 := (s2.below b1).cell 2 _ rfl; have zz3 := (s2.below b1).cell 3 _ rfl; have zz4 := (s2.below b1).cell 4 _ rfl; have zf := (s2.below b1).free))
    obtain ⟨g1, g2⟩ := set5q (s2.below b1) (.slice none 0 0) (.slice none 0 0) (.slice none 0 0) (.slice none 0 0) (.slice none 0 0)
    have J7 := below_set (below_set (below_set (below_set (below_set (below_trans bw b1) (w.heap.size + 1) 0 (.slice none 0 0) (by omega)) (w.heap.size + 1) 1 (.slice none 0 0) (by omega)) (w.heap.size + 1) 2 (.slice none 0 0) (by omega)) (w.heap.size + 1) 3 (.slice none 0 0) (by omega)) (w.heap.size + 1) 4 (.slice none 0 0) (by omega)
    (try simp only [Exit.inBlock, Exit.then])
    refine bodyPost_ret (res_row2 rfl _ _ (w.heap.size + 1) 26 _ (0, 0) _ rfl g1 Try.underlying26 rfl (show _ = some 5 by kernel_rfl)) rfl ?_
    exact ⟨nilDv, rfl, OwQ.nil _, J7⟩
  | true =>
    simp only [c1] at cf
    cases c2 : lakF d 11 with
    | true =>
      rw [act_no2 c1 (by decide) (by decide) c2]
      simp only [c2] at ck
      clear m1 m2 m3 m4
      go_enter Try.func11, Try.ntmps11
      go_upto_region 1 with fail
      generalize (w.alloc (.cells #[x0, x1, x2, x3, x4] 26)).alloc (.cells #[.slice none 0 0, .slice none 0 0, .slice none 0 0, .slice none 0 0, .slice none 0 0] 26) = W0 at s0 s2 bw ⊢
      have f0 := s0.cell 0 _ rfl
      have f1 := s0.cell 1 _ rfl
      have f2 := s0.cell 2 _ rfl
      have f3 := s0.cell 3 _ rfl
      have f4 := s0.cell 4 _ rfl
      go_wp2_with (first | (go_at_call 13; refine (cf _ bw).mono ?_; rintro e q1 ⟨rfl, b1⟩; have p0 := (s0.below b1).cell 0 _ rfl; have p1 := (s0.below b1).cell 1 _ rfl; have p2 := (s0.below b1).cell 2 _ rfl; have p3 := (s0.below b1).cell 3 _ rfl; have p4 := (s0.below b1).cell 4 _ rfl; have zz0 := (s2.below b1).cell 0 _ rfl; have zz1 := (s2.below b1).cell 1 _ rfl; have zz2 := (s2.below b1).cell 2 _ rfl; have zz3 := (s2.below b1).cell 3 _ rfl; have zz4 := (s2.below b1).cell 4 _ rfl; have zf := (s2.below b1).free) | (go_at_call 24; refine (ck _ (below_trans bw b1)).mono ?_; rintro e q2 ⟨rfl, b2⟩; have b12 := below_trans b1 b2; have p0 := (s0.below b12).cell 0 _ rfl; have p1 := (s0.below b12).cell 1 _ rfl; have p2 := (s0.below b12).cell 2 _ rfl; have p3 := (s0.below b12).cell 3 _ rfl; have p4 := (s0.below b12).cell 4 _ rfl; have zz0 := (s2.below b12).cell 0 _ rfl; have zz1 := (s2.below b12).cell 1 _ rfl; have zz2 := (s2.below b12).cell 2 _ rfl; have zz3 := (s2.below b12).cell 3 _ rfl; have zz4 := (s2.below b12).cell 4 _ rfl; have zf := (s2.below b12).free))
      obtain ⟨g1, g2⟩ := set5q (s2.below b12) (.slice none 0 0) (.slice none 0 0) (.slice none 0 0) (.slice none 0 0) (.slice none 0 0)
      have J7 := below_set (below_set (below_set (below_set (below_set (below_trans bw b12) (w.heap.size + 1) 0 (.slice none 0 0) (by omega)) (w.heap.size + 1) 1 (.slice none 0 0) (by omega)) (w.heap.size + 1) 2 (.slice none 0 0) (by omega)) (w.heap.size + 1) 3 (.slice none 0 0) (by omega)) (w.heap.size + 1) 4 (.slice none 0 0) (by omega)
      (try simp only [Exit.inBlock, Exit.then])
      refine bodyPost_ret (res_row2 rfl _ _ (w.heap.size + 1) 26 _ (0, 0) _ rfl g1 Try.underlying26 rfl (show _ = some 5 by kernel_rfl)) rfl ?_
      exact ⟨nilDv, rfl, OwQ.nil _, J7⟩
    | false =>
      simp only [c2] at ck
      by_cases c3 : (256 : Int) ≤ d.code.length
      · rw [act_no3 c1 (by decide) (by decide) c2 (by decide) (by omega)]
        clear m1 m2 m3 m4
        go_enter Try.func11, Try.ntmps11
        go_upto_region 1 with fail
        generalize (w.alloc (.cells #[x0, x1, x2, x3, x4] 26)).alloc (.cells #[.slice none 0 0, .slice none 0 0, .slice none 0 0, .slice none 0 0, .slice none 0 0] 26) = W0 at s0 s2 bw ⊢
        have f0 := s0.cell 0 _ rfl
        have f1 := s0.cell 1 _ rfl
        have f2 := s0.cell 2 _ rfl
        have f3 := s0.cell 3 _ rfl
        have f4 := s0.cell 4 _ rfl
        go_wp2_with (first | (go_at_call 13; refine (cf _ bw).mono ?_; rintro e q1 ⟨rfl, b1⟩; have p0 := (s0.below b1).cell 0 _ rfl; have p1 := (s0.below b1).cell 1 _ rfl; have p2 := (s0.below b1).cell 2 _ rfl; have p3 := (s0.below b1).cell 3 _ rfl; have p4 := (s0.below b1).cell 4 _ rfl; have zz0 := (s2.below b1).cell 0 _ rfl; have zz1 := (s2.below b1).cell 1 _ rfl; have zz2 := (s2.below b1).cell 2 _ rfl; have zz3 := (s2.below b1).cell 3 _ rfl; have zz4 := (s2.below b1).cell 4 _ rfl; have zf := (s2.below b1).free) | (go_at_call 24; refine (ck _ (below_trans bw b1)).mono ?_; rintro e q2 ⟨rfl, b2⟩; have b12 := below_trans b1 b2; have p0 := (s0.below b12).cell 0 _ rfl; have p1 := (s0.below b12).cell 1 _ rfl; have p2 := (s0.below b12).cell 2 _ rfl; have p3 := (s0.below b12).cell 3 _ rfl; have p4 := (s0.below b12).cell 4 _ rfl; have zz0 := (s2.below b12).cell 0 _ rfl; have zz1 := (s2.below b12).cell 1 _ rfl; have zz2 := (s2.below b12).cell 2 _ rfl; have zz3 := (s2.below b12).cell 3 _ rfl; have zz4 := (s2.below b12).cell 4 _ rfl; have zf := (s2.below b12).free) | (go_at_call 25; refine (cl _).mono ?_; rintro e q3 ⟨rfl, rfl⟩))
        obtain ⟨g1, g2⟩ := set5q (s2.below b12) (.slice none 0 0) (.slice none 0 0) (.slice none 0 0) (.slice none 0 0) (.slice none 0 0)
        have J7 := below_set (below_set (below_set (below_set (below_set (below_trans bw b12) (w.heap.size + 1) 0 (.slice none 0 0) (by omega)) (w.heap.size + 1) 1 (.slice none 0 0) (by omega)) (w.heap.size + 1) 2 (.slice none 0 0) (by omega)) (w.heap.size + 1) 3 (.slice none 0 0) (by omega)) (w.heap.size + 1) 4 (.slice none 0 0) (by omega)
        (try simp only [Exit.inBlock, Exit.then])
        refine bodyPost_ret (res_row2 rfl _ _ (w.heap.size + 1) 26 _ (0, 0) _ rfl g1 Try.underlying26 rfl (show _ = some 5 by kernel_rfl)) rfl ?_
        exact ⟨nilDv, rfl, OwQ.nil _, J7⟩
      · rw [act_yes c1 (by decide) (by decide) c2 (fun h => by omega)]
        have hD : doD d 11 (layF d 11) d.code.length (layF d 11).length (ladF 11) = ⟨(d.code ++ [(9, 0)]), d.origs, d.dests, d.loops.set (d.loops.length - 1) ((nwO d.loops).1, (nwO d.loops).2 ++ [(d.code.length : Int)]), d.cases⟩ := by simp [doD, layF, ladF]
        rw [hD]
        clear hD
        go_enter Try.func11, Try.ntmps11
        go_upto_region 1 with fail
        generalize (w.alloc (.cells #[x0, x1, x2, x3, x4] 26)).alloc (.cells #[.slice none 0 0, .slice none 0 0, .slice none 0 0, .slice none 0 0, .slice none 0 0] 26) = W0 at s0 s2 bw ⊢
        have f0 := s0.cell 0 _ rfl
        have f1 := s0.cell 1 _ rfl
        have f2 := s0.cell 2 _ rfl
        have f3 := s0.cell 3 _ rfl
        have f4 := s0.cell 4 _ rfl
        go_upto_region 9 with (first | (go_at_call 13; refine (cf _ bw).mono ?_; rintro e q1 ⟨rfl, b1⟩; have p0 := (s0.below b1).cell 0 _ rfl; have p1 := (s0.below b1).cell 1 _ rfl; have p2 := (s0.below b1).cell 2 _ rfl; have p3 := (s0.below b1).cell 3 _ rfl; have p4 := (s0.below b1).cell 4 _ rfl; have zz0 := (s2.below b1).cell 0 _ rfl; have zz1 := (s2.below b1).cell 1 _ rfl; have zz2 := (s2.below b1).cell 2 _ rfl; have zz3 := (s2.below b1).cell 3 _ rfl; have zz4 := (s2.below b1).cell 4 _ rfl; have zf := (s2.below b1).free) | (go_at_call 24; refine (ck _ (below_trans bw b1)).mono ?_; rintro e q2 ⟨rfl, b2⟩; have b12 := below_trans b1 b2; have p0 := (s0.below b12).cell 0 _ rfl; have p1 := (s0.below b12).cell 1 _ rfl; have p2 := (s0.below b12).cell 2 _ rfl; have p3 := (s0.below b12).cell 3 _ rfl; have p4 := (s0.below b12).cell 4 _ rfl; have zz0 := (s2.below b12).cell 0 _ rfl; have zz1 := (s2.below b12).cell 1 _ rfl; have zz2 := (s2.below b12).cell 2 _ rfl; have zz3 := (s2.below b12).cell 3 _ rfl; have zz4 := (s2.below b12).cell 4 _ rfl; have zf := (s2.below b12).free) | (go_at_call 25; refine (cl _).mono ?_; rintro e q3 ⟨rfl, rfl⟩) | (go_at_call 9; refine (CC.out _ (below_trans bw b12)).mono ?_; rintro e q4 ⟨v1, t1, t2, t3, rfl, oD, b4⟩; obtain ⟨cs0, r0⟩ := oD.code.row; obtain ⟨ca, cq, e0⟩ := own_form r0; obtain ⟨oa, oq, e1⟩ := own_form oD.origs; obtain ⟨da, dq, e2⟩ := own_form oD.dests; obtain ⟨cs3, r3⟩ := oD.loops.own.row; obtain ⟨la, lq, e3⟩ := own_form r3; obtain ⟨cs4, r4⟩ := oD.cases.own.row; obtain ⟨ka, kq, e4⟩ := own_form r4; obtain ⟨y0, y1, y2, y3, y4⟩ := v1; (try dsimp only at e0 e1 e2 e3 e4); subst e0 e1 e2 e3 e4; simp only [Dv.cs]))
        have bo := box_below q4 (.cells #[.slice ca d.code.length cq, .slice oa d.origs.length oq, .slice da d.dests.length dq, .slice la d.loops.length lq, .slice ka d.cases.length kq] 26)
        have so := stands_new q4 #[.slice ca d.code.length cq, .slice oa d.origs.length oq, .slice da d.dests.length dq, .slice la d.loops.length lq, .slice ka d.cases.length kq] 26
        have oD4 := oD.below bo
        have b15 := below_trans (below_trans b12 b4) bo
        have B15 := below_trans bw b15
        have sz4 := s2.below b15
        obtain ⟨BX, hBX⟩ : ∃ B, q4.heap.size = B := ⟨_, rfl⟩
        have hW0 : w.heap.size + 1 < W0.heap.size := (Array.getElem?_eq_some_iff.1 s2).1
        have hWq : W0.heap.size ≤ q3.heap.size := b12.size
        have hBq : q3.heap.size ≤ BX := by rw [← hBX]; exact b4.size
        have hBs : q3.heap.size ≤ (q4.alloc (.cells #[.slice ca d.code.length cq, .slice oa d.origs.length oq, .slice da d.dests.length dq, .slice la d.loops.length lq, .slice ka d.cases.length kq] 26)).heap.size := Nat.le_trans b4.size bo.size
        obtain ⟨base, hba⟩ : ∃ B, q3.heap.size = B := ⟨_, rfl⟩
        rw [hBX] at so
        simp only [hBX]
        rw [hba] at oD4 hBq hWq hBs
        generalize q4.alloc (.cells #[.slice ca d.code.length cq, .slice oa d.origs.length oq, .slice da d.dests.length dq, .slice la d.loops.length lq, .slice ka d.cases.length kq] 26) = q5 at so oD4 sz4 B15 hBs ⊢
        clear bo b15 oD b4 hba hBX b12 f0 f1 f2 f3 f4 bw s0 s2 r0 r3 r4
        have u0 := so.cell 0 _ rfl
        go_upto_region 11 with fail
        have bX := box_below q5 (.cells #[.int .i64 9, .int .u32 0] 37)
        have oDX := oD4.below bX
        obtain ⟨rows, p1, p2, p3, p4⟩ := oDX.code
        obtain ⟨i9, hi9, hz9, hz8, hz7⟩ := info_parts infoOp10
        have one : ∀ r ∈ [[Value.int .i64 9, .int .u32 0]], ∀ u ∈ r, u.oneCell' = true := fun r hr u hu => by rw [List.mem_singleton] at hr; subst hr; simp at hu; rcases hu with rfl | rfl <;> rfl
        have P1 := hid p1
        have P2 := hid p2
        have P4 := hid p4
        have OX := hid oDX
        clear p1 p2 p4 oDX oD4
        go_upto_region 12 with (at_builtin; refine wpList_append_rows rfl _ _ 22 rfl base 37 i9 _ 2 16 Try.underlying22 hi9 hz9 hz8 hz7 rfl (by decide) _ d.code.length _ rfl p3 _ [[Value.int .i64 9, .int .u32 0]] rfl (slc_one q5 [Value.int .i64 9, .int .u32 0] 37 2 rfl) one (by unfold maxLen; simp only [List.length_singleton]; omega) (by simp only [List.length_singleton]; omega) (Nat.le_trans hBs bX.size) ?_; intro v9 w9 ho9 hg9; obtain ⟨a9, c9, rfl⟩ := own_form ho9; have so9 := Stands.grown (so.below bX) hg9 (stands_apart (so.below bX) p3 (by decide)); have y2 := so9.cell 0 _ rfl; have yg := so9.free 0)
        have kW := Kept.own p3 hg9
        have szF := (Stands.grown (sz4.below bX) hg9 (stands_apart (sz4.below bX) p3 (by decide))).other (b' := BX) 0 (.slice a9 (d.code.length + [[Value.int .i64 9, .int .u32 0]].length) c9) (by omega)
        have oC9 : OwC base w9 (.slice a9 (d.code.length + 1) c9) (d.code ++ [(9, 0)]) := OwnR.snoc (e := 37) (O := opR) opR_apt10 P1.out P2.out p3 P4.out rfl (x := (9, 0)) rfl (by simpa using ho9) hg9
        have oD9 := OX.out.code' kW oC9
        have oDF := oD9.kept (set_kept so9 0 (.slice a9 (d.code.length + [[Value.int .i64 9, .int .u32 0]].length) c9)) (by decide) (by decide) (by decide)
        have soF := so9.set 0 (.slice a9 (d.code.length + [[Value.int .i64 9, .int .u32 0]].length) c9)
        have BF := below_set (below_grown (below_trans B15 bX) hg9 (fun q hq => by have := (p3.lt q hq).1; omega)) BX 0 (.slice a9 (d.code.length + [[Value.int .i64 9, .int .u32 0]].length) c9) (by omega)
        have hsF : base ≤ (w9.setCell ⟨BX, 0, none⟩ (.slice a9 (d.code.length + [[Value.int .i64 9, .int .u32 0]].length) c9)).heap.size := Nat.le_trans hBs (Nat.le_trans bX.size (Nat.le_trans hg9.size (set_kept so9 0 (.slice a9 (d.code.length + [[Value.int .i64 9, .int .u32 0]].length) c9)).size))
        generalize w9.setCell ⟨BX, 0, none⟩ (.slice a9 (d.code.length + [[Value.int .i64 9, .int .u32 0]].length) c9) = q9 at szF oDF soF BF hsF ⊢
        have soF : Stands q9 BX #[.slice a9 (d.code.length + 1) c9, .slice oa d.origs.length oq, .slice da d.dests.length dq, .slice la d.loops.length lq, .slice ka d.cases.length kq] 26 := soF
        clear p3 ho9 hg9 kW oD9 oC9 so9 y2 yg bX so sz4 B15 u0 one OX P1 P2 P4
        have u0 := soF.cell 0 _ rfl
        have u1 := soF.cell 1 _ rfl
        have u2 := soF.cell 2 _ rfl
        have u3 := soF.cell 3 _ rfl
        have u4 := soF.cell 4 _ rfl
        go_upto_region 13 with fail
        have hp := lak_l (Or.inr <| Or.inr rfl) c2
        obtain ⟨csr, ror⟩ := oDF.loops.own.row
        obtain ⟨gl, cz, ez⟩ := own_some ror hp
        obtain ⟨rfl, rfl⟩ := slice_inj ez
        clear ez
        clear ror csr
        have bd : Below q9.heap.size q9 q9.drew := below_drewN (Below.refl q9.heap.size q9) 1
        have soD := soF.below bd
        have szD := szF.below bd
        have oDD := oDF.below bd
        have BD := below_trans BF bd
        have hsD := Nat.le_trans hsF bd.size
        clear oDF
        go_region
        go_upto_region 40 with fail
        generalize q9.drew = q10 at soD szD oDD BD hsD bd ⊢
        clear soF szF BF hsF u0 u1 u2 u3 u4 bd
        have u1 := soD.cell 3 _ rfl
        obtain ⟨gx, cx, rowsNn, vo, Nn⟩ := oDD.loops.newest hp
        obtain ⟨hgx, rfl⟩ := slice_inj Nn.form
        cases hgx
        (try dsimp only at Nn)
        obtain ⟨va, vq, rfl⟩ := own_form Nn.outs
        have ix := idx_opn gl d.loops.length lq hp
        have cO := Nn.cellO
        have bX := box_below q10 (.cells #[.int .i64 (d.code.length : Int)] 3)
        have b2 : Below (q10.alloc (.cells #[.int .i64 (d.code.length : Int)] 3)).heap.size (q10.alloc (.cells #[.int .i64 (d.code.length : Int)] 3)) (q10.alloc (.cells #[.int .i64 (d.code.length : Int)] 3)).drew := below_drewN (Below.refl _ _) 1
        have cO2 := (Nn.kept hp (Kept.below (T := 35) bX) (by decide) (by decide)).cellO
        have u2 := (soD.below bX).cell 3 _ rfl
        have rX := Rd.below (rd_one (k := .i64) q10 (d.code.length : Int) 3) b2
        have b3 := below_trans bX b2
        have NX := Nn.kept hp (Kept.below (T := 35) b3) (by decide) (by decide)
        have l1 := oDD.le1
        have l2 := oDD.le2
        have l3 := oDD.le3
        have l4 := oDD.le4
        have pX := NX.outs
        have soX := soD.below b3
        have szX := szD.below b3
        have BX2 := below_trans BD b3
        have hsX := Nat.le_trans (show t2 ≤ q10.heap.size by omega) b3.size
        have oX : OwC base _ _ _ := OwnR.below oDD.code b3 (fun _ _ q => q)
        obtain ⟨i8, hi8, hz6, hz5, hz4⟩ := info_parts infoJ10
        have zo := ze.louts _ (nwO_mem (List.length_pos_iff.1 hp))
        have hlY : ((nwO d.loops).2 ++ [(d.code.length : Int)]).length = (nwO d.loops).2.length + 1 := by simp
        have rng := NX.rng
        have rg2 := oDD.loops.rng
        have UX := hid (Out.below (lo := t2) (hi := t3) b3)
        have O0 := hid oDD
        have HN := hid NX
        have OX := hid oX
        have RX := hid rX
        clear oDD Nn NX oX b2 bX b3 l4 rX
        have cD : q10.drew.cell? ⟨gl, (d.loops.length - 1) * 2 + 1, none⟩ = some (.slice va (nwO d.loops).2.length vq) := cO
        refine wp_region_held_drew (S := fun W => W.cell? ⟨BX, 3, none⟩ = some (.slice (some ⟨gl, 0, none⟩) d.loops.length lq)) (by kernel_rfl) u1 (fun hHeld => ?_)
        refine wpAnyH_take (i := 0) (v := ?v1) rfl (by kernel_rfl) (by kernel_rfl) (by kernel_rfl) (fun _ _ _ h => h) (Or.inl ⟨by kernel_rfl, ?h1⟩) hHeld ?r1
        case h1 => intro W hSw; (try dsimp only at hSw); go_simp; try with_reducible rfl
        simp only [Act.put, List.setIfInBounds_toArray, List.set_cons_zero, List.set_cons_succ]
        refine wpAnyH_take (i := 1) (v := ?v2) rfl (by kernel_rfl) (by kernel_rfl) (by kernel_rfl) (fun _ _ _ h => h) (Or.inl ⟨by kernel_rfl, ?h2⟩) hHeld ?r2
        case h2 => intro W hSw; (try dsimp only at hSw); go_simp; try with_reducible rfl
        simp only [Act.put, List.setIfInBounds_toArray, List.set_cons_zero, List.set_cons_succ]
        refine wpAnyH_take (i := 2) (v := ?v3) rfl (by kernel_rfl) (by kernel_rfl) (by kernel_rfl) (fun _ _ _ h => h) (Or.inl ⟨by kernel_rfl, ?h3⟩) hHeld ?r3
        case h3 => intro W hSw; (try dsimp only at hSw); go_simp; try with_reducible rfl
        simp only [Act.put, List.setIfInBounds_toArray, List.set_cons_zero, List.set_cons_succ]
        refine wpAnyH_take (i := 3) (v := ?v4) rfl (by kernel_rfl) (by kernel_rfl) (by kernel_rfl) (fun _ _ _ h => h) (Or.inl ⟨by kernel_rfl, ?h4⟩) hHeld ?r4
        case h4 => intro W hSw; (try dsimp only at hSw); go_simp; try with_reducible rfl
        simp only [Act.put, List.setIfInBounds_toArray, List.set_cons_zero, List.set_cons_succ]
        refine wpAnyH_take (i := 4) (v := ?v5) rfl (by kernel_rfl) (by kernel_rfl) (by kernel_rfl) (fun _ _ _ h => h) (Or.inl ⟨by kernel_rfl, ?h5⟩) hHeld ?r5
        case h5 => intro W hSw; (try dsimp only at hSw); go_simp; try with_reducible rfl
        simp only [Act.put, List.setIfInBounds_toArray, List.set_cons_zero, List.set_cons_succ]
        refine wpAnyH_take (i := 5) (v := ?v6) rfl (by kernel_rfl) (by kernel_rfl) (by kernel_rfl) (fun _ _ _ h => h) (Or.inl ⟨by kernel_rfl, ?h6⟩) hHeld ?r6
        case h6 => intro W hSw; (try dsimp only at hSw); go_simp; try with_reducible rfl
        simp only [Act.put, List.setIfInBounds_toArray, List.set_cons_zero, List.set_cons_succ]
        refine wpAnyH_take (i := 6) (v := ?v7) rfl (by kernel_rfl) (by kernel_rfl) (by kernel_rfl) (fun _ _ _ h => h) (Or.inl ⟨by kernel_rfl, ?h7⟩) hHeld ?r7
        case h7 => intro W hSw; (try dsimp only at hSw); go_simp; try with_reducible rfl
        simp only [Act.put, List.setIfInBounds_toArray, List.set_cons_zero, List.set_cons_succ]
        refine wpAnyH_take (i := 7) (v := ?v8) rfl (by kernel_rfl) (by kernel_rfl) (by kernel_rfl) (fun _ _ _ h => h) (Or.inl ⟨by kernel_rfl, ?h8⟩) hHeld ?r8
        case h8 => intro W hSw; (try dsimp only at hSw); go_simp; try with_reducible rfl
        simp only [Act.put, List.setIfInBounds_toArray, List.set_cons_zero, List.set_cons_succ]
        refine wpAnyH_take (i := 9) (v := ?v9) rfl (by kernel_rfl) (by kernel_rfl) (by kernel_rfl) (fun _ _ _ h => h) (Or.inl ⟨by kernel_rfl, ?h9⟩) hHeld ?r9
        case h9 => intro W hSw; (try dsimp only at hSw); go_simp; try with_reducible rfl
        simp only [Act.put, List.setIfInBounds_toArray, List.set_cons_zero, List.set_cons_succ]
        refine wpAnyH_ready (rs := [8, 10]) (by kernel_rfl) (by simp) ?_
        refine AllReadyH.cons rfl (fun K hK => ?_) (AllReadyH.cons rfl (fun K hK => ?_) AllReadyH.nil)
        · go_simp
          refine hK.out _ _ (u1) (fun hHeld => ?_)
          clear hK K
          refine wpAnyH_ready (rs := [10]) (by kernel_rfl) (by simp) ?_
          refine AllReadyH.cons rfl (fun K hK => ?_) AllReadyH.nil
          go_simp
          refine hK.out _ _ (u2) (fun hHeld => ?_)
          clear hK K
          refine wpAnyH_ready (rs := [11]) (by kernel_rfl) (by simp) ?_
          refine AllReadyH.cons rfl (fun K hK => ?_) AllReadyH.nil
          refine step_append_rd (k := .i64) rfl _ _ 23 rfl t2 3 i8 8 Try.underlying23 hi8 hz6 hz5 hz4 (.slice va (nwO d.loops).2.length vq) (nwO d.loops).2 rfl pX (.slice (some ⟨q10.heap.size, 0, none⟩) 1 1) [(d.code.length : Int)] rfl RX.out (by unfold maxLen; simp; omega) (by simp; omega) hsX ?_
          intro v9 w9 ho9 hg9
          have ho8 := ho9
          rw [hlY] at ho8
          obtain ⟨a8, c8, rfl⟩ := own_form ho8
          have so9 := Stands.grown soX hg9 (stands_apart soX pX (by decide))
          have NP := HN.out.put hp hg9 (.slice a8 ((nwO d.loops).2.length + 1) c8) ((nwO d.loops).2 ++ [(d.code.length : Int)]) ho9
          obtain ⟨n1, n2, n3, ⟨u9, y1⟩, y2⟩ := NP
          have soB := stands_kept n3 (by decide) so9
          have szB := stands_kept n3 (by decide) (Stands.grown szX hg9 (stands_apart szX pX (by decide)))
          have oCB : OwC base _ _ _ := OwnR.kept (OwnR.kept OX.out (Kept.own pX hg9) (by decide) opR_apt10) n3 (by decide) opR_apt10
          have BB := below_grown (below_grown BX2 hg9 (fun q hq => by have := (pX.lt q hq).1; omega)) n2 (fun q hq => by have := (rg2 q hq).1; omega)
          have uB := UX.out.trans ((Out.grown hg9 rng).trans (Out.grown n2 rg2))
          have nRB := n1
          have y3 := so9.cell 3 _ rfl
          have y4 := soB.cell 3 _ rfl
          refine hK.out _ _ (y3) (fun hHeld => ?_)
          clear hK K
          have hsoB := hid soB
          have hszB := hid szB
          have hoCB := hid oCB
          have hBB := hid BB
          have huB := hid uB
          have hnRB := hid nRB
          clear soB szB oCB BB uB nRB n1 n2 n3 ho9 ho8
          refine wpAnyH_take (i := 12) (v := ?v10) rfl (by kernel_rfl) (by kernel_rfl) (by kernel_rfl) (fun _ _ _ h => h) (Or.inl ⟨by kernel_rfl, ?h10⟩) hHeld ?r10
          case h10 => intro W hSw; (try dsimp only at hSw); go_simp; try with_reducible rfl
          simp only [Act.put, List.setIfInBounds_toArray, List.set_cons_zero, List.set_cons_succ]
          refine wpAnyH_take (i := 13) (v := ?v11) rfl (by kernel_rfl) (by kernel_rfl) (by kernel_rfl) (fun _ _ _ h => h) (Or.inl ⟨by kernel_rfl, ?h11⟩) hHeld ?r11
          case h11 => intro W hSw; (try dsimp only at hSw); go_simp; try with_reducible rfl
          simp only [Act.put, List.setIfInBounds_toArray, List.set_cons_zero, List.set_cons_succ]
          refine wpAnyH_ready (rs := [14]) (by kernel_rfl) (by simp) ?_
          refine AllReadyH.cons rfl (fun K hK => ?_) AllReadyH.nil
          go_simp
          refine hK.out _ _ (y4) (fun hHeld => ?_)
          clear hK K
          refine wpAnyH_done (by kernel_rfl) ?_ _
          have soB := hsoB.out
          have szB := hszB.out
          have oCB := hoCB.out
          have BB := hBB.out
          have uB := huB.out
          have nRB := hnRB.out
          clear hsoB hszB hoCB hBB huB hnRB y1 y2 y3 y4 so9 soX szX pX OX UX HN BX2 rng cO2 u2 RX cD u1 cO soD szD BD hsD hg9 hHeld
          have oEZ := OwD.toL O0.out uB oCB (opnO_leR (base := base) nRB (by omega))
          have soZ := soB
          have szZ := szB
          have BZ := BB
          clear nRB uB oCB hsX hlY rg2 ix zo i8 hi8 hz6 hz5 hz4 soF
          go_upto_region 52 with fail
          generalize (w9.setCell ⟨gl, (d.loops.length - 1) * 2 + 1, none⟩ (.slice a8 ((nwO d.loops).2.length + 1) c8)) = qz at soZ szZ oEZ BZ soB szB BB ⊢
          clear soB szB BB
          have u0 := soZ.cell 0 _ rfl
          have u1 := soZ.cell 1 _ rfl
          have u2 := soZ.cell 2 _ rfl
          have u3 := soZ.cell 3 _ rfl
          have u4 := soZ.cell 4 _ rfl
          have zz0 := szZ.cell 0 _ rfl
          have zz1 := szZ.cell 1 _ rfl
          have zz2 := szZ.cell 2 _ rfl
          have zz3 := szZ.cell 3 _ rfl
          have zz4 := szZ.cell 4 _ rfl
          have zf := szZ.free
          obtain ⟨g1, g2⟩ := set5q szZ (.slice a9 (d.code.length + 1) c9) (.slice oa d.origs.length oq) (.slice da d.dests.length dq) (.slice (some ⟨gl, 0, none⟩) d.loops.length lq) (.slice ka d.cases.length kq)
          have G1 := hid g1
          have GM := hid (g2 (fun u => OwE base u ⟨.slice a9 (d.code.length + 1) c9, .slice oa d.origs.length oq, .slice da d.dests.length dq, .slice (some ⟨gl, 0, none⟩) d.loops.length lq, .slice ka d.cases.length kq⟩ ⟨(d.code ++ [(9, 0)]), d.origs, d.dests, d.loops.set (d.loops.length - 1) ((nwO d.loops).1, (nwO d.loops).2 ++ [(d.code.length : Int)]), d.cases⟩) (fun u u' kk q => q.kept kk (by decide) (by decide) (by decide)) oEZ)
          have J7 : Hid (Below w.heap.size w _) := below_set (below_set (below_set (below_set (below_set (BZ) (w.heap.size + 1) 0 (.slice a9 (d.code.length + 1) c9) (by omega)) (w.heap.size + 1) 1 (.slice oa d.origs.length oq) (by omega)) (w.heap.size + 1) 2 (.slice da d.dests.length dq) (by omega)) (w.heap.size + 1) 3 (.slice (some ⟨gl, 0, none⟩) d.loops.length lq) (by omega)) (w.heap.size + 1) 4 (.slice ka d.cases.length kq) (by omega)
          clear g1 g2 oEZ BZ szZ soZ
          go_wp2_with fail
          (try simp only [Exit.inBlock, Exit.then])
          refine bodyPost_ret (res_row2 rfl _ _ (w.heap.size + 1) 26 _ (0, 0) _ rfl G1.out Try.underlying26 rfl (show _ = some 5 by kernel_rfl)) rfl ?_
          exact ⟨⟨.slice a9 (d.code.length + 1) c9, .slice oa d.origs.length oq, .slice da d.dests.length dq, .slice (some ⟨gl, 0, none⟩) d.loops.length lq, .slice ka d.cases.length kq⟩, rfl, ⟨_, GM.out⟩, J7.out⟩
        · go_simp
          refine hK.out _ _ (u2) (fun hHeld => ?_)
          clear hK K
          refine wpAnyH_ready (rs := [8]) (by kernel_rfl) (by simp) ?_
          refine AllReadyH.cons rfl (fun K hK => ?_) AllReadyH.nil
          go_simp
          refine hK.out _ _ (u2) (fun hHeld => ?_)
          clear hK K
          refine wpAnyH_ready (rs := [11]) (by kernel_rfl) (by simp) ?_
          refine AllReadyH.cons rfl (fun K hK => ?_) AllReadyH.nil
          refine step_append_rd (k := .i64) rfl _ _ 23 rfl t2 3 i8 8 Try.underlying23 hi8 hz6 hz5 hz4 (.slice va (nwO d.loops).2.length vq) (nwO d.loops).2 rfl pX (.slice (some ⟨q10.heap.size, 0, none⟩) 1 1) [(d.code.length : Int)] rfl RX.out (by unfold maxLen; simp; omega) (by simp; omega) hsX ?_
          intro v9 w9 ho9 hg9
          have ho8 := ho9
          rw [hlY] at ho8
          obtain ⟨a8, c8, rfl⟩ := own_form ho8
          have so9 := Stands.grown soX hg9 (stands_apart soX pX (by decide))
          have NP := HN.out.put hp hg9 (.slice a8 ((nwO d.loops).2.length + 1) c8) ((nwO d.loops).2 ++ [(d.code.length : Int)]) ho9
          obtain ⟨n1, n2, n3, ⟨u9, y1⟩, y2⟩ := NP
          have soB := stands_kept n3 (by decide) so9
          have szB := stands_kept n3 (by decide) (Stands.grown szX hg9 (stands_apart szX pX (by decide)))
          have oCB : OwC base _ _ _ := OwnR.kept (OwnR.kept OX.out (Kept.own pX hg9) (by decide) opR_apt10) n3 (by decide) opR_apt10
          have BB := below_grown (below_grown BX2 hg9 (fun q hq => by have := (pX.lt q hq).1; omega)) n2 (fun q hq => by have := (rg2 q hq).1; omega)
          have uB := UX.out.trans ((Out.grown hg9 rng).trans (Out.grown n2 rg2))
          have nRB := n1
          have y3 := so9.cell 3 _ rfl
          have y4 := soB.cell 3 _ rfl
          refine hK.out _ _ (y3) (fun hHeld => ?_)
          clear hK K
          have hsoB := hid soB
          have hszB := hid szB
          have hoCB := hid oCB
          have hBB := hid BB
          have huB := hid uB
          have hnRB := hid nRB
          clear soB szB oCB BB uB nRB n1 n2 n3 ho9 ho8
          refine wpAnyH_take (i := 12) (v := ?v12) rfl (by kernel_rfl) (by kernel_rfl) (by kernel_rfl) (fun _ _ _ h => h) (Or.inl ⟨by kernel_rfl, ?h12⟩) hHeld ?r12
          case h12 => intro W hSw; (try dsimp only at hSw); go_simp; try with_reducible rfl
          simp only [Act.put, List.setIfInBounds_toArray, List.set_cons_zero, List.set_cons_succ]
          refine wpAnyH_take (i := 13) (v := ?v13) rfl (by kernel_rfl) (by kernel_rfl) (by kernel_rfl) (fun _ _ _ h => h) (Or.inl ⟨by kernel_rfl, ?h13⟩) hHeld ?r13
          case h13 => intro W hSw; (try dsimp only at hSw); go_simp; try with_reducible rfl
          simp only [Act.put, List.setIfInBounds_toArray, List.set_cons_zero, List.set_cons_succ]
          refine wpAnyH_ready (rs := [14]) (by kernel_rfl) (by simp) ?_
          refine AllReadyH.cons rfl (fun K hK => ?_) AllReadyH.nil
          go_simp
          refine hK.out _ _ (y4) (fun hHeld => ?_)
          clear hK K
          refine wpAnyH_done (by kernel_rfl) ?_ _
          have soB := hsoB.out
          have szB := hszB.out
          have oCB := hoCB.out
          have BB := hBB.out
          have uB := huB.out
          have nRB := hnRB.out
          clear hsoB hszB hoCB hBB huB hnRB y1 y2 y3 y4 so9 soX szX pX OX UX HN BX2 rng cO2 u2 RX cD u1 cO soD szD BD hsD hg9 hHeld
          have oEZ := OwD.toL O0.out uB oCB (opnO_leR (base := base) nRB (by omega))
          have soZ := soB
          have szZ := szB
          have BZ := BB
          clear nRB uB oCB hsX hlY rg2 ix zo i8 hi8 hz6 hz5 hz4 soF
          go_upto_region 52 with fail
          generalize (w9.setCell ⟨gl, (d.loops.length - 1) * 2 + 1, none⟩ (.slice a8 ((nwO d.loops).2.length + 1) c8)) = qz at soZ szZ oEZ BZ soB szB BB ⊢
          clear soB szB BB
          have u0 := soZ.cell 0 _ rfl
          have u1 := soZ.cell 1 _ rfl
          have u2 := soZ.cell 2 _ rfl
          have u3 := soZ.cell 3 _ rfl
          have u4 := soZ.cell 4 _ rfl
          have zz0 := szZ.cell 0 _ rfl
          have zz1 := szZ.cell 1 _ rfl
          have zz2 := szZ.cell 2 _ rfl
          have zz3 := szZ.cell 3 _ rfl
          have zz4 := szZ.cell 4 _ rfl
          have zf := szZ.free
          obtain ⟨g1, g2⟩ := set5q szZ (.slice a9 (d.code.length + 1) c9) (.slice oa d.origs.length oq) (.slice da d.dests.length dq) (.slice (some ⟨gl, 0, none⟩) d.loops.length lq) (.slice ka d.cases.length kq)
          have G1 := hid g1
          have GM := hid (g2 (fun u => OwE base u ⟨.slice a9 (d.code.length + 1) c9, .slice oa d.origs.length oq, .slice da d.dests.length dq, .slice (some ⟨gl, 0, none⟩) d.loops.length lq, .slice ka d.cases.length kq⟩ ⟨(d.code ++ [(9, 0)]), d.origs, d.dests, d.loops.set (d.loops.length - 1) ((nwO d.loops).1, (nwO d.loops).2 ++ [(d.code.length : Int)]), d.cases⟩) (fun u u' kk q => q.kept kk (by decide) (by decide) (by decide)) oEZ)
          have J7 : Hid (Below w.heap.size w _) := below_set (below_set (below_set (below_set (below_set (BZ) (w.heap.size + 1) 0 (.slice a9 (d.code.length + 1) c9) (by omega)) (w.heap.size + 1) 1 (.slice oa d.origs.length oq) (by omega)) (w.heap.size + 1) 2 (.slice da d.dests.length dq) (by omega)) (w.heap.size + 1) 3 (.slice (some ⟨gl, 0, none⟩) d.loops.length lq) (by omega)) (w.heap.size + 1) 4 (.slice ka d.cases.length kq) (by omega)
          clear g1 g2 oEZ BZ szZ soZ
          go_wp2_with fail
          (try simp only [Exit.inBlock, Exit.then])
          refine bodyPost_ret (res_row2 rfl _ _ (w.heap.size + 1) 26 _ (0, 0) _ rfl G1.out Try.underlying26 rfl (show _ = some 5 by kernel_rfl)) rfl ?_
          exact ⟨⟨.slice a9 (d.code.length + 1) c9, .slice oa d.origs.length oq, .slice da d.dests.length dq, .slice (some ⟨gl, 0, none⟩) d.loops.length lq, .slice ka d.cases.length kq⟩, rfl, ⟨_, GM.out⟩, J7.out⟩
end Go.Proofs.Ytfmpeminfcehaaa
