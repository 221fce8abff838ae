/-
  Act of the document's answer for code: acts 5, 6, 7, 8.
-/
import Derived.Test.YtfmpeminfcehaaaRk8
namespace Go.Proofs.Ytfmpeminfcehaaa
open Go.ChangeShapes Go.WideShapes Go.ChangeAt Go.RowKit
set_option linter.unusedVariables false
set_option linter.unusedSimpArgs false

set_option maxHeartbeats 8000000 in
set_option maxRecDepth 100000 in
theorem w_r10act5 (v : Dv) (d : Dft) (w : World) (h : RdD w v d) (z : szD d) (ze : szE d) :
    Calls Try.prog 11 #[.agg v.cs, .int .i64 5] w fun e w' => ∃ v1, e = .returned (.tuple #[.agg (Dv.cs v1), .int .i64 (actD d 5).2]) ∧ OwQ w' v1 (actD d 5).1 ∧ Below w.heap.size w w' := by
  have cf := fun W (b : Below w.heap.size w W) => w_r10formed v d W (h.below b)
  have ck := fun W (b : Below w.heap.size w W) => w_r10lacks v d 5 W (h.below b) (by decide) (by decide)
  have cl := fun W => w_r10laid 5 W (by decide) (by decide)
  rw [show ladF 5 = 3 from rfl] at cl
  have cc := fun W (b : Below w.heap.size w W) => w_r10copy v d W (h.below b) z
  have l0 := slr_len h.code uO (P := Try.prog)
  have m1 := rd_maxI h.origs
  have m2 := rd_maxI h.dests
  have m3 := slr_max h.loops
  have m4 := slr_max h.cases
  unfold maxLen at m1 m2 m3 m4
  have s0 := (stands_new w v.cs 26).below (box_below _ (.cells #[.slice none 0 0, .slice none 0 0, .slice none 0 0, .slice none 0 0, .slice none 0 0] 26))
  have s2 := stands_new (w.alloc (.cells v.cs 26)) #[.slice none 0 0, .slice none 0 0, .slice none 0 0, .slice none 0 0, .slice none 0 0] 26
  rw [size_al] at s2
  have bw := below_trans (box_below w (.cells v.cs 26)) (box_below _ (.cells #[.slice none 0 0, .slice none 0 0, .slice none 0 0, .slice none 0 0, .slice none 0 0] 26))
  have CC := hid cc
  clear cc z h
  obtain ⟨x0, x1, x2, x3, x4⟩ := v
  simp only [Dv.cs] at cf ck s0 s2 bw l0 CC ⊢
  cases c1 : frmD d with
  | false =>
    rw [act_no1 c1]
    simp only [c1] at cf
    clear ck m1 m2 m3 m4
    go_enter Try.func11, Try.ntmps11
    go_upto_region 1 with fail
    generalize (w.alloc (.cells #[x0, x1, x2, x3, x4] 26)).alloc (.cells #[.slice none 0 0, .slice none 0 0, .slice none 0 0, .slice none 0 0, .slice none 0 0] 26) = W0 at s0 s2 bw ⊢
    have f0 := s0.cell 0 _ rfl
    have f1 := s0.cell 1 _ rfl
    have f2 := s0.cell 2 _ rfl
    have f3 := s0.cell 3 _ rfl
    have f4 := s0.cell 4 _ rfl
    go_wp2_with (first | (go_at_call 13; refine (cf _ bw).mono ?_; rintro e q1 ⟨rfl, b1⟩; have p0 := (s0.below b1).cell 0 _ rfl; have p1 := (s0.below b1).cell 1 _ rfl; have p2 := (s0.below b1).cell 2 _ rfl; have p3 := (s0.below b1).cell 3 _ rfl; have p4 := (s0.below b1).cell 4 _ rfl; have zz0 := (s2.below b1).cell 0 _ rfl; have zz1 := (s2.below b1).cell 1 _ rfl; have zz2 := (s2.below b1).cell 2 _ rfl; have zz3 := (s2.below b1).cell 3 _ rfl; have zz4 := (s2.below b1).cell 4 _ rfl; have zf := (s2.below b1).free))
    obtain ⟨g1, g2⟩ := set5q (s2.below b1) (.slice none 0 0) (.slice none 0 0) (.slice none 0 0) (.slice none 0 0) (.slice none 0 0)
    have J7 := below_set (below_set (below_set (below_set (below_set (below_trans bw b1) (w.heap.size + 1) 0 (.slice none 0 0) (by omega)) (w.heap.size + 1) 1 (.slice none 0 0) (by omega)) (w.heap.size + 1) 2 (.slice none 0 0) (by omega)) (w.heap.size + 1) 3 (.slice none 0 0) (by omega)) (w.heap.size + 1) 4 (.slice none 0 0) (by omega)
    (try simp only [Exit.inBlock, Exit.then])
    refine bodyPost_ret (res_row2 rfl _ _ (w.heap.size + 1) 26 _ (0, 0) _ rfl g1 Try.underlying26 rfl (show _ = some 5 by kernel_rfl)) rfl ?_
    exact ⟨nilDv, rfl, OwQ.nil _, J7⟩
  | true =>
    simp only [c1] at cf
    cases c2 : lakF d 5 with
    | true =>
      rw [act_no2 c1 (by decide) (by decide) c2]
      simp only [c2] at ck
      clear m1 m2 m3 m4
      go_enter Try.func11, Try.ntmps11
      go_upto_region 1 with fail
      generalize (w.alloc (.cells #[x0, x1, x2, x3, x4] 26)).alloc (.cells #[.slice none 0 0, .slice none 0 0, .slice none 0 0, .slice none 0 0, .slice none 0 0] 26) = W0 at s0 s2 bw ⊢
      have f0 := s0.cell 0 _ rfl
      have f1 := s0.cell 1 _ rfl
      have f2 := s0.cell 2 _ rfl
      have f3 := s0.cell 3 _ rfl
      have f4 := s0.cell 4 _ rfl
      go_wp2_with (first | (go_at_call 13; refine (cf _ bw).mono ?_; rintro e q1 ⟨rfl, b1⟩; have p0 := (s0.below b1).cell 0 _ rfl; have p1 := (s0.below b1).cell 1 _ rfl; have p2 := (s0.below b1).cell 2 _ rfl; have p3 := (s0.below b1).cell 3 _ rfl; have p4 := (s0.below b1).cell 4 _ rfl; have zz0 := (s2.below b1).cell 0 _ rfl; have zz1 := (s2.below b1).cell 1 _ rfl; have zz2 := (s2.below b1).cell 2 _ rfl; have zz3 := (s2.below b1).cell 3 _ rfl; have zz4 := (s2.below b1).cell 4 _ rfl; have zf := (s2.below b1).free) | (go_at_call 24; refine (ck _ (below_trans bw b1)).mono ?_; rintro e q2 ⟨rfl, b2⟩; have b12 := below_trans b1 b2; have p0 := (s0.below b12).cell 0 _ rfl; have p1 := (s0.below b12).cell 1 _ rfl; have p2 := (s0.below b12).cell 2 _ rfl; have p3 := (s0.below b12).cell 3 _ rfl; have p4 := (s0.below b12).cell 4 _ rfl; have zz0 := (s2.below b12).cell 0 _ rfl; have zz1 := (s2.below b12).cell 1 _ rfl; have zz2 := (s2.below b12).cell 2 _ rfl; have zz3 := (s2.below b12).cell 3 _ rfl; have zz4 := (s2.below b12).cell 4 _ rfl; have zf := (s2.below b12).free))
      obtain ⟨g1, g2⟩ := set5q (s2.below b12) (.slice none 0 0) (.slice none 0 0) (.slice none 0 0) (.slice none 0 0) (.slice none 0 0)
      have J7 := below_set (below_set (below_set (below_set (below_set (below_trans bw b12) (w.heap.size + 1) 0 (.slice none 0 0) (by omega)) (w.heap.size + 1) 1 (.slice none 0 0) (by omega)) (w.heap.size + 1) 2 (.slice none 0 0) (by omega)) (w.heap.size + 1) 3 (.slice none 0 0) (by omega)) (w.heap.size + 1) 4 (.slice none 0 0) (by omega)
      (try simp only [Exit.inBlock, Exit.then])
      refine bodyPost_ret (res_row2 rfl _ _ (w.heap.size + 1) 26 _ (0, 0) _ rfl g1 Try.underlying26 rfl (show _ = some 5 by kernel_rfl)) rfl ?_
      exact ⟨nilDv, rfl, OwQ.nil _, J7⟩
    | false =>
      simp only [c2] at ck
      by_cases c3 : (256 : Int) ≤ d.code.length
      · rw [act_no3 c1 (by decide) (by decide) c2 (by decide) (by omega)]
        clear m1 m2 m3 m4
        go_enter Try.func11, Try.ntmps11
        go_upto_region 1 with fail
        generalize (w.alloc (.cells #[x0, x1, x2, x3, x4] 26)).alloc (.cells #[.slice none 0 0, .slice none 0 0, .slice none 0 0, .slice none 0 0, .slice none 0 0] 26) = W0 at s0 s2 bw ⊢
        have f0 := s0.cell 0 _ rfl
        have f1 := s0.cell 1 _ rfl
        have f2 := s0.cell 2 _ rfl
        have f3 := s0.cell 3 _ rfl
        have f4 := s0.cell 4 _ rfl
        go_wp2_with (first | (go_at_call 13; refine (cf _ bw).mono ?_; rintro e q1 ⟨rfl, b1⟩; have p0 := (s0.below b1).cell 0 _ rfl; have p1 := (s0.below b1).cell 1 _ rfl; have p2 := (s0.below b1).cell 2 _ rfl; have p3 := (s0.below b1).cell 3 _ rfl; have p4 := (s0.below b1).cell 4 _ rfl; have zz0 := (s2.below b1).cell 0 _ rfl; have zz1 := (s2.below b1).cell 1 _ rfl; have zz2 := (s2.below b1).cell 2 _ rfl; have zz3 := (s2.below b1).cell 3 _ rfl; have zz4 := (s2.below b1).cell 4 _ rfl; have zf := (s2.below b1).free) | (go_at_call 24; refine (ck _ (below_trans bw b1)).mono ?_; rintro e q2 ⟨rfl, b2⟩; have b12 := below_trans b1 b2; have p0 := (s0.below b12).cell 0 _ rfl; have p1 := (s0.below b12).cell 1 _ rfl; have p2 := (s0.below b12).cell 2 _ rfl; have p3 := (s0.below b12).cell 3 _ rfl; have p4 := (s0.below b12).cell 4 _ rfl; have zz0 := (s2.below b12).cell 0 _ rfl; have zz1 := (s2.below b12).cell 1 _ rfl; have zz2 := (s2.below b12).cell 2 _ rfl; have zz3 := (s2.below b12).cell 3 _ rfl; have zz4 := (s2.below b12).cell 4 _ rfl; have zf := (s2.below b12).free) | (go_at_call 25; refine (cl _).mono ?_; rintro e q3 ⟨rfl, rfl⟩))
        obtain ⟨g1, g2⟩ := set5q (s2.below b12) (.slice none 0 0) (.slice none 0 0) (.slice none 0 0) (.slice none 0 0) (.slice none 0 0)
        have J7 := below_set (below_set (below_set (below_set (below_set (below_trans bw b12) (w.heap.size + 1) 0 (.slice none 0 0) (by omega)) (w.heap.size + 1) 1 (.slice none 0 0) (by omega)) (w.heap.size + 1) 2 (.slice none 0 0) (by omega)) (w.heap.size + 1) 3 (.slice none 0 0) (by omega)) (w.heap.size + 1) 4 (.slice none 0 0) (by omega)
        (try simp only [Exit.inBlock, Exit.then])
        refine bodyPost_ret (res_row2 rfl _ _ (w.heap.size + 1) 26 _ (0, 0) _ rfl g1 Try.underlying26 rfl (show _ = some 5 by kernel_rfl)) rfl ?_
        exact ⟨nilDv, rfl, OwQ.nil _, J7⟩
      · rw [act_yes c1 (by decide) (by decide) c2 (fun h => by omega)]
        have hD : doD d 5 (layF d 5) d.code.length (layF d 5).length (ladF 5) = ⟨setN (d.code ++ [(3, 0)]) (d.code.length : Int) (nwI d.dests), d.origs, d.dests.take (d.dests.length - 1), d.loops, d.cases⟩ := by simp [doD, layF, ladF]
        rw [hD]
        clear hD
        go_enter Try.func11, Try.ntmps11
        go_upto_region 1 with fail
        generalize (w.alloc (.cells #[x0, x1, x2, x3, x4] 26)).alloc (.cells #[.slice none 0 0, .slice none 0 0, .slice none 0 0, .slice none 0 0, .slice none 0 0] 26) = W0 at s0 s2 bw ⊢
        have f0 := s0.cell 0 _ rfl
        have f1 := s0.cell 1 _ rfl
        have f2 := s0.cell 2 _ rfl
        have f3 := s0.cell 3 _ rfl
        have f4 := s0.cell 4 _ rfl
        go_upto_region 9 with (first | (go_at_call 13; refine (cf _ bw).mono ?_; rintro e q1 ⟨rfl, b1⟩; have p0 := (s0.below b1).cell 0 _ rfl; have p1 := (s0.below b1).cell 1 _ rfl; have p2 := (s0.below b1).cell 2 _ rfl; have p3 := (s0.below b1).cell 3 _ rfl; have p4 := (s0.below b1).cell 4 _ rfl; have zz0 := (s2.below b1).cell 0 _ rfl; have zz1 := (s2.below b1).cell 1 _ rfl; have zz2 := (s2.below b1).cell 2 _ rfl; have zz3 := (s2.below b1).cell 3 _ rfl; have zz4 := (s2.below b1).cell 4 _ rfl; have zf := (s2.below b1).free) | (go_at_call 24; refine (ck _ (below_trans bw b1)).mono ?_; rintro e q2 ⟨rfl, b2⟩; have b12 := below_trans b1 b2; have p0 := (s0.below b12).cell 0 _ rfl; have p1 := (s0.below b12).cell 1 _ rfl; have p2 := (s0.below b12).cell 2 _ rfl; have p3 := (s0.below b12).cell 3 _ rfl; have p4 := (s0.below b12).cell 4 _ rfl; have zz0 := (s2.below b12).cell 0 _ rfl; have zz1 := (s2.below b12).cell 1 _ rfl; have zz2 := (s2.below b12).cell 2 _ rfl; have zz3 := (s2.below b12).cell 3 _ rfl; have zz4 := (s2.below b12).cell 4 _ rfl; have zf := (s2.below b12).free) | (go_at_call 25; refine (cl _).mono ?_; rintro e q3 ⟨rfl, rfl⟩) | (go_at_call 9; refine (CC.out _ (below_trans bw b12)).mono ?_; rintro e q4 ⟨v1, t1, t2, t3, rfl, oD, b4⟩; obtain ⟨cs0, r0⟩ := oD.code.row; obtain ⟨ca, cq, e0⟩ := own_form r0; obtain ⟨oa, oq, e1⟩ := own_form oD.origs; obtain ⟨da, dq, e2⟩ := own_form oD.dests; obtain ⟨cs3, r3⟩ := oD.loops.own.row; obtain ⟨la, lq, e3⟩ := own_form r3; obtain ⟨cs4, r4⟩ := oD.cases.own.row; obtain ⟨ka, kq, e4⟩ := own_form r4; obtain ⟨y0, y1, y2, y3, y4⟩ := v1; (try dsimp only at e0 e1 e2 e3 e4); subst e0 e1 e2 e3 e4; simp only [Dv.cs]))
        have bo := box_below q4 (.cells #[.slice ca d.code.length cq, .slice oa d.origs.length oq, .slice da d.dests.length dq, .slice la d.loops.length lq, .slice ka d.cases.length kq] 26)
        have so := stands_new q4 #[.slice ca d.code.length cq, .slice oa d.origs.length oq, .slice da d.dests.length dq, .slice la d.loops.length lq, .slice ka d.cases.length kq] 26
        have oD4 := oD.below bo
        have b15 := below_trans (below_trans b12 b4) bo
        have B15 := below_trans bw b15
        have sz4 := s2.below b15
        obtain ⟨BX, hBX⟩ : ∃ B, q4.heap.size = B := ⟨_, rfl⟩
        have hW0 : w.heap.size + 1 < W0.heap.size := (Array.getElem?_eq_some_iff.1 s2).1
        have hWq : W0.heap.size ≤ q3.heap.size := b12.size
        have hBq : q3.heap.size ≤ BX := by rw [← hBX]; exact b4.size
        have hBs : q3.heap.size ≤ (q4.alloc (.cells #[.slice ca d.code.length cq, .slice oa d.origs.length oq, .slice da d.dests.length dq, .slice la d.loops.length lq, .slice ka d.cases.length kq] 26)).heap.size := Nat.le_trans b4.size bo.size
        obtain ⟨base, hba⟩ : ∃ B, q3.heap.size = B := ⟨_, rfl⟩
        rw [hBX] at so
        simp only [hBX]
        rw [hba] at oD4 hBq hWq hBs
        generalize q4.alloc (.cells #[.slice ca d.code.length cq, .slice oa d.origs.length oq, .slice da d.dests.length dq, .slice la d.loops.length lq, .slice ka d.cases.length kq] 26) = q5 at so oD4 sz4 B15 hBs ⊢
        clear bo b15 oD b4 hba hBX b12 f0 f1 f2 f3 f4 bw s0 s2 r0 r3 r4
        have u0 := so.cell 0 _ rfl
        go_upto_region 11 with fail
        have bX := box_below q5 (.cells #[.int .i64 3, .int .u32 0] 37)
        have oDX := oD4.below bX
        obtain ⟨rows, p1, p2, p3, p4⟩ := oDX.code
        obtain ⟨i9, hi9, hz9, hz8, hz7⟩ := info_parts infoOp10
        have one : ∀ r ∈ [[Value.int .i64 3, .int .u32 0]], ∀ u ∈ r, u.oneCell' = true := fun r hr u hu => by rw [List.mem_singleton] at hr; subst hr; simp at hu; rcases hu with rfl | rfl <;> rfl
        have P1 := hid p1
        have P2 := hid p2
        have P4 := hid p4
        have OX := hid oDX
        clear p1 p2 p4 oDX oD4
        go_upto_region 12 with (at_builtin; refine wpList_append_rows rfl _ _ 22 rfl base 37 i9 _ 2 16 Try.underlying22 hi9 hz9 hz8 hz7 rfl (by decide) _ d.code.length _ rfl p3 _ [[Value.int .i64 3, .int .u32 0]] rfl (slc_one q5 [Value.int .i64 3, .int .u32 0] 37 2 rfl) one (by unfold maxLen; simp only [List.length_singleton]; omega) (by simp only [List.length_singleton]; omega) (Nat.le_trans hBs bX.size) ?_; intro v9 w9 ho9 hg9; obtain ⟨a9, c9, rfl⟩ := own_form ho9; have so9 := Stands.grown (so.below bX) hg9 (stands_apart (so.below bX) p3 (by decide)); have y2 := so9.cell 0 _ rfl; have yg := so9.free 0)
        have kW := Kept.own p3 hg9
        have szF := (Stands.grown (sz4.below bX) hg9 (stands_apart (sz4.below bX) p3 (by decide))).other (b' := BX) 0 (.slice a9 (d.code.length + [[Value.int .i64 3, .int .u32 0]].length) c9) (by omega)
        have oC9 : OwC base w9 (.slice a9 (d.code.length + 1) c9) (d.code ++ [(3, 0)]) := OwnR.snoc (e := 37) (O := opR) opR_apt10 P1.out P2.out p3 P4.out rfl (x := (3, 0)) rfl (by simpa using ho9) hg9
        have oD9 := OX.out.code' kW oC9
        have oDF := oD9.kept (set_kept so9 0 (.slice a9 (d.code.length + [[Value.int .i64 3, .int .u32 0]].length) c9)) (by decide) (by decide) (by decide)
        have soF := so9.set 0 (.slice a9 (d.code.length + [[Value.int .i64 3, .int .u32 0]].length) c9)
        have BF := below_set (below_grown (below_trans B15 bX) hg9 (fun q hq => by have := (p3.lt q hq).1; omega)) BX 0 (.slice a9 (d.code.length + [[Value.int .i64 3, .int .u32 0]].length) c9) (by omega)
        have hsF : base ≤ (w9.setCell ⟨BX, 0, none⟩ (.slice a9 (d.code.length + [[Value.int .i64 3, .int .u32 0]].length) c9)).heap.size := Nat.le_trans hBs (Nat.le_trans bX.size (Nat.le_trans hg9.size (set_kept so9 0 (.slice a9 (d.code.length + [[Value.int .i64 3, .int .u32 0]].length) c9)).size))
        generalize w9.setCell ⟨BX, 0, none⟩ (.slice a9 (d.code.length + [[Value.int .i64 3, .int .u32 0]].length) c9) = q9 at szF oDF soF BF hsF ⊢
        have soF : Stands q9 BX #[.slice a9 (d.code.length + 1) c9, .slice oa d.origs.length oq, .slice da d.dests.length dq, .slice la d.loops.length lq, .slice ka d.cases.length kq] 26 := soF
        clear p3 ho9 hg9 kW oD9 oC9 so9 y2 yg bX so sz4 B15 u0 one OX P1 P2 P4
        have u0 := soF.cell 0 _ rfl
        have u1 := soF.cell 1 _ rfl
        have u2 := soF.cell 2 _ rfl
        have u3 := soF.cell 3 _ rfl
        have u4 := soF.cell 4 _ rfl
        go_upto_region 13 with fail
        have hp := lak_d (Or.inl rfl) c2
        have hin := frm_d c1 hp
        have hcl := frm_code c1
        have hc9 : (d.code ++ [(3, 0)]).length = d.code.length + 1 := by simp
        obtain ⟨csr, rC0⟩ := oDF.code.row
        obtain ⟨gc, cz, ez⟩ := own_some rC0 (by rw [hc9]; omega)
        obtain ⟨rfl, rfl⟩ := slice_inj ez
        clear ez
        clear rC0 csr
        obtain ⟨gd, cz, ez⟩ := own_some oDF.dests hp
        obtain ⟨rfl, rfl⟩ := slice_inj ez
        clear ez
        have bd : Below q9.heap.size q9 q9.drew := below_drewN (Below.refl q9.heap.size q9) 1
        have soD := soF.below bd
        have szD := szF.below bd
        have oDD := oDF.below bd
        have BD := below_trans BF bd
        have hsD := Nat.le_trans hsF bd.size
        clear oDF
        go_region
        go_upto_region 28 with fail
        generalize q9.drew = q10 at soD szD oDD BD hsD bd ⊢
        clear soF szF BF hsF u0 u1 u2 u3 u4 bd
        have u0 := soD.cell 0 _ rfl
        have u2 := soD.cell 2 _ rfl
        have ix := idx_int gd d.dests.length dq hp
        have iy := idx_op gc (d.code.length + 1) c9 d.code.length (by omega)
        have hcD := own_cell oDD.dests (d.dests.length - 1) _ (nwI_get hp)
        have hwr := wrap32 (nwI d.dests) (by omega) (by omega)
        obtain ⟨csr, rC⟩ := oDD.code.row
        have oc0 : OwC base q10 (.slice (some ⟨gc, 0, none⟩) (d.code ++ [(3, 0)]).length c9) (d.code ++ [(3, 0)]) := by rw [hc9]; exact oDD.code
        obtain ⟨s0, ⟨uy, y1⟩, y2⟩ := OwC.put oc0 d.code.length (by rw [hc9]; omega) (nwI d.dests)
        have b2 : Below (q10.setCell ⟨gc, d.code.length * 2 + 1, none⟩ (.int .u32 (nwI d.dests))).heap.size (q10.setCell ⟨gc, d.code.length * 2 + 1, none⟩ (.int .u32 (nwI d.dests))) (q10.setCell ⟨gc, d.code.length * 2 + 1, none⟩ (.int .u32 (nwI d.dests))).drew := below_drewN (Below.refl _ _) 1
        have s1 : OwC base _ _ _ := OwnR.below s0 b2 (fun _ _ q => q)
        rw [hc9] at s1
        have hg1 : q10.grownBy (q10.setCell ⟨gc, d.code.length * 2 + 1, none⟩ (.int .u32 (nwI d.dests))).drew (some gc) := gb_below (gb_set (gb_refl q10 _) _ _) b2
        have k1 := Kept.own rC hg1
        have so11 := stands_kept k1 (by decide) soD
        have sz11 := stands_kept k1 (by decide) szD
        have B11 := below_grown BD hg1 (fun q hq => by have := (rC.lt q hq).1; omega)
        have cu := cut_int gd d.dests.length dq hp (own_cap oDD.dests)
        have O0 := hid oDD
        have S1 := hid s1
        have K1 := hid k1
        clear oDD oc0 s0 s1 rC hg1 k1 hin b2
        go_region
        go_upto_region 29 with fail
        have oC1 := S1.out
        have kC := K1.out
        clear S1 K1
        generalize (q10.setCell ⟨gc, d.code.length * 2 + 1, none⟩ (.int .u32 (nwI d.dests))).drew = q11 at oC1 kC so11 sz11 B11 ⊢
        have u2 := so11.cell 2 _ rfl
        have yg := so11.free 2
        have OC := hid oC1
        have KC := hid kC
        clear oC1 kC u0 y1 y2 hcD
        go_upto_region 52 with fail
        have kC := KC.out
        have soZ := so11.set 2 (.slice (some ⟨gd, 0, none⟩) (d.dests.length - 1) dq)
        have szZ := sz11.other (b' := BX) 2 (.slice (some ⟨gd, 0, none⟩) (d.dests.length - 1) dq) (by omega)
        have pT := own_take (own_kept kC (by decide) (own_le O0.out.le1 O0.out.dests)) (d.dests.length - 1) (by omega)
        have oE9 := OwD.toD O0.out (Out.kept kC (by decide) (by decide)) OC.out (xs := d.dests.take (d.dests.length - 1)) (by simpa [List.map_take] using pT)
        have oEZ := oE9.kept (set_kept so11 2 (.slice (some ⟨gd, 0, none⟩) (d.dests.length - 1) dq)) (by decide) (by decide) (by decide)
        have BZ := below_set B11 BX 2 (.slice (some ⟨gd, 0, none⟩) (d.dests.length - 1) dq) (by omega)
        generalize q11.setCell ⟨BX, 2, none⟩ (.slice (some ⟨gd, 0, none⟩) (d.dests.length - 1) dq) = qz at soZ szZ oEZ BZ ⊢
        have soZ : Stands qz BX #[.slice (some ⟨gc, 0, none⟩) (d.code.length + 1) c9, .slice oa d.origs.length oq, .slice (some ⟨gd, 0, none⟩) (d.dests.length - 1) dq, .slice la d.loops.length lq, .slice ka d.cases.length kq] 26 := soZ
        clear oE9 pT kC so11 u2 yg sz11 B11 O0 OC KC cu
        have u0 := soZ.cell 0 _ rfl
        have u1 := soZ.cell 1 _ rfl
        have u2 := soZ.cell 2 _ rfl
        have u3 := soZ.cell 3 _ rfl
        have u4 := soZ.cell 4 _ rfl
        have zz0 := szZ.cell 0 _ rfl
        have zz1 := szZ.cell 1 _ rfl
        have zz2 := szZ.cell 2 _ rfl
        have zz3 := szZ.cell 3 _ rfl
        have zz4 := szZ.cell 4 _ rfl
        have zf := szZ.free
        obtain ⟨g1, g2⟩ := set5q szZ (.slice (some ⟨gc, 0, none⟩) (d.code.length + 1) c9) (.slice oa d.origs.length oq) (.slice (some ⟨gd, 0, none⟩) (d.dests.length - 1) dq) (.slice la d.loops.length lq) (.slice ka d.cases.length kq)
        have G1 := hid g1
        have GM := hid (g2 (fun u => OwE base u ⟨.slice (some ⟨gc, 0, none⟩) (d.code.length + 1) c9, .slice oa d.origs.length oq, .slice (some ⟨gd, 0, none⟩) (d.dests.length - 1) dq, .slice la d.loops.length lq, .slice ka d.cases.length kq⟩ ⟨setN (d.code ++ [(3, 0)]) (d.code.length : Int) (nwI d.dests), d.origs, d.dests.take (d.dests.length - 1), d.loops, d.cases⟩) (fun u u' kk q => q.kept kk (by decide) (by decide) (by decide)) oEZ)
        have J7 : Hid (Below w.heap.size w _) := below_set (below_set (below_set (below_set (below_set (BZ) (w.heap.size + 1) 0 (.slice (some ⟨gc, 0, none⟩) (d.code.length + 1) c9) (by omega)) (w.heap.size + 1) 1 (.slice oa d.origs.length oq) (by omega)) (w.heap.size + 1) 2 (.slice (some ⟨gd, 0, none⟩) (d.dests.length - 1) dq) (by omega)) (w.heap.size + 1) 3 (.slice la d.loops.length lq) (by omega)) (w.heap.size + 1) 4 (.slice ka d.cases.length kq) (by omega)
        clear g1 g2 oEZ BZ szZ soZ
        go_wp2_with fail
        (try simp only [Exit.inBlock, Exit.then])
        refine bodyPost_ret (res_row2 rfl _ _ (w.heap.size + 1) 26 _ (0, 0) _ rfl G1.out Try.underlying26 rfl (show _ = some 5 by kernel_rfl)) rfl ?_
        exact ⟨⟨.slice (some ⟨gc, 0, none⟩) (d.code.length + 1) c9, .slice oa d.origs.length oq, .slice (some ⟨gd, 0, none⟩) (d.dests.length - 1) dq, .slice la d.loops.length lq, .slice ka d.cases.length kq⟩, rfl, ⟨_, GM.out⟩, J7.out⟩

set_option maxHeartbeats 8000000 in
set_option maxRecDepth 100000 in
theorem w_r10act6 (v : Dv) (d : Dft) (w : World) (h : RdD w v d) (z : szD d) (ze : szE d) :
    Calls Try.prog 11 #[.agg v.cs, .int .i64 6] w fun e w' => ∃ v1, e = .returned (.tuple #[.agg (Dv.cs v1), .int .i64 (actD d 6).2]) ∧ OwQ w' v1 (actD d 6).1 ∧ Below w.heap.size w w' := by
  have cf := fun W (b : Below w.heap.size w W) => w_r10formed v d W (h.below b)
  have ck := fun W (b : Below w.heap.size w W) => w_r10lacks v d 6 W (h.below b) (by decide) (by decide)
  have cl := fun W => w_r10laid 6 W (by decide) (by decide)
  rw [show ladF 6 = 4 from rfl] at cl
  have cc := fun W (b : Below w.heap.size w W) => w_r10copy v d W (h.below b) z
  have l0 := slr_len h.code uO (P := Try.prog)
  have m1 := rd_maxI h.origs
  have m2 := rd_maxI h.dests
  have m3 := slr_max h.loops
  have m4 := slr_max h.cases
  unfold maxLen at m1 m2 m3 m4
  have s0 := (stands_new w v.cs 26).below (box_below _ (.cells #[.slice none 0 0, .slice none 0 0, .slice none 0 0, .slice none 0 0, .slice none 0 0] 26))
  have s2 := stands_new (w.alloc (.cells v.cs 26)) #[.slice none 0 0, .slice none 0 0, .slice none 0 0, .slice none 0 0, .slice none 0 0] 26
  rw [size_al] at s2
  have bw := below_trans (box_below w (.cells v.cs 26)) (box_below _ (.cells #[.slice none 0 0, .slice none 0 0, .slice none 0 0, .slice none 0 0, .slice none 0 0] 26))
  have CC := hid cc
  clear cc z h
  obtain ⟨x0, x1, x2, x3, x4⟩ := v
  simp only [Dv.cs] at cf ck s0 s2 bw l0 CC ⊢
  cases c1 : frmD d with
  | false =>
    rw [act_no1 c1]
    simp only [c1] at cf
    clear ck m1 m2 m3 m4
    go_enter Try.func11, Try.ntmps11
    go_upto_region 1 with fail
    generalize (w.alloc (.cells #[x0, x1, x2, x3, x4] 26)).alloc (.cells #[.slice none 0 0, .slice none 0 0, .slice none 0 0, .slice none 0 0, .slice none 0 0] 26) = W0 at s0 s2 bw ⊢
    have f0 := s0.cell 0 _ rfl
    have f1 := s0.cell 1 _ rfl
    have f2 := s0.cell 2 _ rfl
    have f3 := s0.cell 3 _ rfl
    have f4 := s0.cell 4 _ rfl
    go_wp2_with (first | (go_at_call 13; refine (cf _ bw).mono ?_; rintro e q1 ⟨rfl, b1⟩; have p0 := (s0.below b1).cell 0 _ rfl; have p1 := (s0.below b1).cell 1 _ rfl; have p2 := (s0.below b1).cell 2 _ rfl; have p3 := (s0.below b1).cell 3 _ rfl; have p4 := (s0.below b1).cell 4 _ rfl; have zz0 := (s2.below b1).cell 0 _ rfl; have zz1 := (s2.below b1).cell 1 _ rfl; have zz2 := (s2.below b1).cell 2 _ rfl; have zz3 := (s2.below b1).cell 3 _ rfl; have zz4 := (s2.below b1).cell 4 _ rfl; have zf := (s2.below b1).free))
    obtain ⟨g1, g2⟩ := set5q (s2.below b1) (.slice none 0 0) (.slice none 0 0) (.slice none 0 0) (.slice none 0 0) (.slice none 0 0)
    have J7 := below_set (below_set (below_set (below_set (below_set (below_trans bw b1) (w.heap.size + 1) 0 (.slice none 0 0) (by omega)) (w.heap.size + 1) 1 (.slice none 0 0) (by omega)) (w.heap.size + 1) 2 (.slice none 0 0) (by omega)) (w.heap.size + 1) 3 (.slice none 0 0) (by omega)) (w.heap.size + 1) 4 (.slice none 0 0) (by omega)
    (try simp only [Exit.inBlock, Exit.then])
    refine bodyPost_ret (res_row2 rfl _ _ (w.heap.size + 1) 26 _ (0, 0) _ rfl g1 Try.underlying26 rfl (show _ = some 5 by kernel_rfl)) rfl ?_
    exact ⟨nilDv, rfl, OwQ.nil _, J7⟩
  | true =>
    simp only [c1] at cf
    cases c2 : lakF d 6 with
    | true =>
      rw [act_no2 c1 (by decide) (by decide) c2]
      simp only [c2] at ck
      clear m1 m2 m3 m4
      go_enter Try.func11, Try.ntmps11
      go_upto_region 1 with fail
      generalize (w.alloc (.cells #[x0, x1, x2, x3, x4] 26)).alloc (.cells #[.slice none 0 0, .slice none 0 0, .slice none 0 0, .slice none 0 0, .slice none 0 0] 26) = W0 at s0 s2 bw ⊢
      have f0 := s0.cell 0 _ rfl
      have f1 := s0.cell 1 _ rfl
      have f2 := s0.cell 2 _ rfl
      have f3 := s0.cell 3 _ rfl
      have f4 := s0.cell 4 _ rfl
      go_wp2_with (first | (go_at_call 13; refine (cf _ bw).mono ?_; rintro e q1 ⟨rfl, b1⟩; have p0 := (s0.below b1).cell 0 _ rfl; have p1 := (s0.below b1).cell 1 _ rfl; have p2 := (s0.below b1).cell 2 _ rfl; have p3 := (s0.below b1).cell 3 _ rfl; have p4 := (s0.below b1).cell 4 _ rfl; have zz0 := (s2.below b1).cell 0 _ rfl; have zz1 := (s2.below b1).cell 1 _ rfl; have zz2 := (s2.below b1).cell 2 _ rfl; have zz3 := (s2.below b1).cell 3 _ rfl; have zz4 := (s2.below b1).cell 4 _ rfl; have zf := (s2.below b1).free) | (go_at_call 24; refine (ck _ (below_trans bw b1)).mono ?_; rintro e q2 ⟨rfl, b2⟩; have b12 := below_trans b1 b2; have p0 := (s0.below b12).cell 0 _ rfl; have p1 := (s0.below b12).cell 1 _ rfl; have p2 := (s0.below b12).cell 2 _ rfl; have p3 := (s0.below b12).cell 3 _ rfl; have p4 := (s0.below b12).cell 4 _ rfl; have zz0 := (s2.below b12).cell 0 _ rfl; have zz1 := (s2.below b12).cell 1 _ rfl; have zz2 := (s2.below b12).cell 2 _ rfl; have zz3 := (s2.below b12).cell 3 _ rfl; have zz4 := (s2.below b12).cell 4 _ rfl; have zf := (s2.below b12).free))
      obtain ⟨g1, g2⟩ := set5q (s2.below b12) (.slice none 0 0) (.slice none 0 0) (.slice none 0 0) (.slice none 0 0) (.slice none 0 0)
      have J7 := below_set (below_set (below_set (below_set (below_set (below_trans bw b12) (w.heap.size + 1) 0 (.slice none 0 0) (by omega)) (w.heap.size + 1) 1 (.slice none 0 0) (by omega)) (w.heap.size + 1) 2 (.slice none 0 0) (by omega)) (w.heap.size + 1) 3 (.slice none 0 0) (by omega)) (w.heap.size + 1) 4 (.slice none 0 0) (by omega)
      (try simp only [Exit.inBlock, Exit.then])
      refine bodyPost_ret (res_row2 rfl _ _ (w.heap.size + 1) 26 _ (0, 0) _ rfl g1 Try.underlying26 rfl (show _ = some 5 by kernel_rfl)) rfl ?_
      exact ⟨nilDv, rfl, OwQ.nil _, J7⟩
    | false =>
      simp only [c2] at ck
      by_cases c3 : (256 : Int) ≤ d.code.length
      · rw [act_no3 c1 (by decide) (by decide) c2 (by decide) (by omega)]
        clear m1 m2 m3 m4
        go_enter Try.func11, Try.ntmps11
        go_upto_region 1 with fail
        generalize (w.alloc (.cells #[x0, x1, x2, x3, x4] 26)).alloc (.cells #[.slice none 0 0, .slice none 0 0, .slice none 0 0, .slice none 0 0, .slice none 0 0] 26) = W0 at s0 s2 bw ⊢
        have f0 := s0.cell 0 _ rfl
        have f1 := s0.cell 1 _ rfl
        have f2 := s0.cell 2 _ rfl
        have f3 := s0.cell 3 _ rfl
        have f4 := s0.cell 4 _ rfl
        go_wp2_with (first | (go_at_call 13; refine (cf _ bw).mono ?_; rintro e q1 ⟨rfl, b1⟩; have p0 := (s0.below b1).cell 0 _ rfl; have p1 := (s0.below b1).cell 1 _ rfl; have p2 := (s0.below b1).cell 2 _ rfl; have p3 := (s0.below b1).cell 3 _ rfl; have p4 := (s0.below b1).cell 4 _ rfl; have zz0 := (s2.below b1).cell 0 _ rfl; have zz1 := (s2.below b1).cell 1 _ rfl; have zz2 := (s2.below b1).cell 2 _ rfl; have zz3 := (s2.below b1).cell 3 _ rfl; have zz4 := (s2.below b1).cell 4 _ rfl; have zf := (s2.below b1).free) | (go_at_call 24; refine (ck _ (below_trans bw b1)).mono ?_; rintro e q2 ⟨rfl, b2⟩; have b12 := below_trans b1 b2; have p0 := (s0.below b12).cell 0 _ rfl; have p1 := (s0.below b12).cell 1 _ rfl; have p2 := (s0.below b12).cell 2 _ rfl; have p3 := (s0.below b12).cell 3 _ rfl; have p4 := (s0.below b12).cell 4 _ rfl; have zz0 := (s2.below b12).cell 0 _ rfl; have zz1 := (s2.below b12).cell 1 _ rfl; have zz2 := (s2.below b12).cell 2 _ rfl; have zz3 := (s2.below b12).cell 3 _ rfl; have zz4 := (s2.below b12).cell 4 _ rfl; have zf := (s2.below b12).free) | (go_at_call 25; refine (cl _).mono ?_; rintro e q3 ⟨rfl, rfl⟩))
        obtain ⟨g1, g2⟩ := set5q (s2.below b12) (.slice none 0 0) (.slice none 0 0) (.slice none 0 0) (.slice none 0 0) (.slice none 0 0)
        have J7 := below_set (below_set (below_set (below_set (below_set (below_trans bw b12) (w.heap.size + 1) 0 (.slice none 0 0) (by omega)) (w.heap.size + 1) 1 (.slice none 0 0) (by omega)) (w.heap.size + 1) 2 (.slice none 0 0) (by omega)) (w.heap.size + 1) 3 (.slice none 0 0) (by omega)) (w.heap.size + 1) 4 (.slice none 0 0) (by omega)
        (try simp only [Exit.inBlock, Exit.then])
        refine bodyPost_ret (res_row2 rfl _ _ (w.heap.size + 1) 26 _ (0, 0) _ rfl g1 Try.underlying26 rfl (show _ = some 5 by kernel_rfl)) rfl ?_
        exact ⟨nilDv, rfl, OwQ.nil _, J7⟩
      · rw [act_yes c1 (by decide) (by decide) c2 (fun h => by omega)]
        have hD : doD d 6 (layF d 6) d.code.length (layF d 6).length (ladF 6) = ⟨setN (d.code ++ [(4, 0)]) (d.code.length : Int) (nwI d.dests), d.origs, d.dests.take (d.dests.length - 1), d.loops, d.cases⟩ := by simp [doD, layF, ladF]
        rw [hD]
        clear hD
        go_enter Try.func11, Try.ntmps11
        go_upto_region 1 with fail
        generalize (w.alloc (.cells #[x0, x1, x2, x3, x4] 26)).alloc (.cells #[.slice none 0 0, .slice none 0 0, .slice none 0 0, .slice none 0 0, .slice none 0 0] 26) = W0 at s0 s2 bw ⊢
        have f0 := s0.cell 0 _ rfl
        have f1 := s0.cell 1 _ rfl
        have f2 := s0.cell 2 _ rfl
        have f3 := s0.cell 3 _ rfl
        have f4 := s0.cell 4 _ rfl
        go_upto_region 9 with (first | (go_at_call 13; refine (cf _ bw).mono ?_; rintro e q1 ⟨rfl, b1⟩; have p0 := (s0.below b1).cell 0 _ rfl; have p1 := (s0.below b1).cell 1 _ rfl; have p2 := (s0.below b1).cell 2 _ rfl; have p3 := (s0.below b1).cell 3 _ rfl; have p4 := (s0.below b1).cell 4 _ rfl; have zz0 := (s2.below b1).cell 0 _ rfl; have zz1 := (s2.below b1).cell 1 _ rfl; have zz2 := (s2.below b1).cell 2 _ rfl; have zz3 := (s2.below b1).cell 3 _ rfl; have zz4 := (s2.below b1).cell 4 _ rfl; have zf := (s2.below b1).free) | (go_at_call 24; refine (ck _ (below_trans bw b1)).mono ?_; rintro e q2 ⟨rfl, b2⟩; have b12 := below_trans b1 b2; have p0 := (s0.below b12).cell 0 _ rfl; have p1 := (s0.below b12).cell 1 _ rfl; have p2 := (s0.below b12).cell 2 _ rfl; have p3 := (s0.below b12).cell 3 _ rfl; have p4 := (s0.below b12).cell 4 _ rfl; have zz0 := (s2.below b12).cell 0 _ rfl; have zz1 := (s2.below b12).cell 1 _ rfl; have zz2 := (s2.below b12).cell 2 _ rfl; have zz3 := (s2.below b12).cell 3 _ rfl; have zz4 := (s2.below b12).cell 4 _ rfl; have zf := (s2.below b12).free) | (go_at_call 25; refine (cl _).mono ?_; rintro e q3 ⟨rfl, rfl⟩) | (go_at_call 9; refine (CC.out _ (below_trans bw b12)).mono ?_; rintro e q4 ⟨v1, t1, t2, t3, rfl, oD, b4⟩; obtain ⟨cs0, r0⟩ := oD.code.row; obtain ⟨ca, cq, e0⟩ := own_form r0; obtain ⟨oa, oq, e1⟩ := own_form oD.origs; obtain ⟨da, dq, e2⟩ := own_form oD.dests; obtain ⟨cs3, r3⟩ := oD.loops.own.row; obtain ⟨la, lq, e3⟩ := own_form r3; obtain ⟨cs4, r4⟩ := oD.cases.own.row; obtain ⟨ka, kq, e4⟩ := own_form r4; obtain ⟨y0, y1, y2, y3, y4⟩ := v1; (try dsimp only at e0 e1 e2 e3 e4); subst e0 e1 e2 e3 e4; simp only [Dv.cs]))
        have bo := box_below q4 (.cells #[.slice ca d.code.length cq, .slice oa d.origs.length oq, .slice da d.dests.length dq, .slice la d.loops.length lq, .slice ka d.cases.length kq] 26)
        have so := stands_new q4 #[.slice ca d.code.length cq, .slice oa d.origs.length oq, .slice da d.dests.length dq, .slice la d.loops.length lq, .slice ka d.cases.length kq] 26
        have oD4 := oD.below bo
        have b15 := below_trans (below_trans b12 b4) bo
        have B15 := below_trans bw b15
        have sz4 := s2.below b15
        obtain ⟨BX, hBX⟩ : ∃ B, q4.heap.size = B := ⟨_, rfl⟩
        have hW0 : w.heap.size + 1 < W0.heap.size := (Array.getElem?_eq_some_iff.1 s2).1
        have hWq : W0.heap.size ≤ q3.heap.size := b12.size
        have hBq : q3.heap.size ≤ BX := by rw [← hBX]; exact b4.size
        have hBs : q3.heap.size ≤ (q4.alloc (.cells #[.slice ca d.code.length cq, .slice oa d.origs.length oq, .slice da d.dests.length dq, .slice la d.loops.length lq, .slice ka d.cases.length kq] 26)).heap.size := Nat.le_trans b4.size bo.size
        obtain ⟨base, hba⟩ : ∃ B, q3.heap.size = B := ⟨_, rfl⟩
        rw [hBX] at so
        simp only [hBX]
        rw [hba] at oD4 hBq hWq hBs
        generalize q4.alloc (.cells #[.slice ca d.code.length cq, .slice oa d.origs.length oq, .slice da d.dests.length dq, .slice la d.loops.length lq, .slice ka d.cases.length kq] 26) = q5 at so oD4 sz4 B15 hBs ⊢
        clear bo b15 oD b4 hba hBX b12 f0 f1 f2 f3 f4 bw s0 s2 r0 r3 r4
        have u0 := so.cell 0 _ rfl
        go_upto_region 11 with fail
        have bX := box_below q5 (.cells #[.int .i64 4, .int .u32 0] 37)
        have oDX := oD4.below bX
        obtain ⟨rows, p1, p2, p3, p4⟩ := oDX.code
        obtain ⟨i9, hi9, hz9, hz8, hz7⟩ := info_parts infoOp10
        have one : ∀ r ∈ [[Value.int .i64 4, .int .u32 0]], ∀ u ∈ r, u.oneCell' = true := fun r hr u hu => by rw [List.mem_singleton] at hr; subst hr; simp at hu; rcases hu with rfl | rfl <;> rfl
        have P1 := hid p1
        have P2 := hid p2
        have P4 := hid p4
        have OX := hid oDX
        clear p1 p2 p4 oDX oD4
        go_upto_region 12 with (at_builtin; refine wpList_append_rows rfl _ _ 22 rfl base 37 i9 _ 2 16 Try.underlying22 hi9 hz9 hz8 hz7 rfl (by decide) _ d.code.length _ rfl p3 _ [[Value.int .i64 4, .int .u32 0]] rfl (slc_one q5 [Value.int .i64 4, .int .u32 0] 37 2 rfl) one (by unfold maxLen; simp only [List.length_singleton]; omega) (by simp only [List.length_singleton]; omega) (Nat.le_trans hBs bX.size) ?_; intro v9 w9 ho9 hg9; obtain ⟨a9, c9, rfl⟩ := own_form ho9; have so9 := Stands.grown (so.below bX) hg9 (stands_apart (so.below bX) p3 (by decide)); have y2 := so9.cell 0 _ rfl; have yg := so9.free 0)
        have kW := Kept.own p3 hg9
        have szF := (Stands.grown (sz4.below bX) hg9 (stands_apart (sz4.below bX) p3 (by decide))).other (b' := BX) 0 (.slice a9 (d.code.length + [[Value.int .i64 4, .int .u32 0]].length) c9) (by omega)
        have oC9 : OwC base w9 (.slice a9 (d.code.length + 1) c9) (d.code ++ [(4, 0)]) := OwnR.snoc (e := 37) (O := opR) opR_apt10 P1.out P2.out p3 P4.out rfl (x := (4, 0)) rfl (by simpa using ho9) hg9
        have oD9 := OX.out.code' kW oC9
        have oDF := oD9.kept (set_kept so9 0 (.slice a9 (d.code.length + [[Value.int .i64 4, .int .u32 0]].length) c9)) (by decide) (by decide) (by decide)
        have soF := so9.set 0 (.slice a9 (d.code.length + [[Value.int .i64 4, .int .u32 0]].length) c9)
        have BF := below_set (below_grown (below_trans B15 bX) hg9 (fun q hq => by have := (p3.lt q hq).1; omega)) BX 0 (.slice a9 (d.code.length + [[Value.int .i64 4, .int .u32 0]].length) c9) (by omega)
        have hsF : base ≤ (w9.setCell ⟨BX, 0, none⟩ (.slice a9 (d.code.length + [[Value.int .i64 4, .int .u32 0]].length) c9)).heap.size := Nat.le_trans hBs (Nat.le_trans bX.size (Nat.le_trans hg9.size (set_kept so9 0 (.slice a9 (d.code.length + [[Value.int .i64 4, .int .u32 0]].length) c9)).size))
        generalize w9.setCell ⟨BX, 0, none⟩ (.slice a9 (d.code.length + [[Value.int .i64 4, .int .u32 0]].length) c9) = q9 at szF oDF soF BF hsF ⊢
        have soF : Stands q9 BX #[.slice a9 (d.code.length + 1) c9, .slice oa d.origs.length oq, .slice da d.dests.length dq, .slice la d.loops.length lq, .slice ka d.cases.length kq] 26 := soF
        clear p3 ho9 hg9 kW oD9 oC9 so9 y2 yg bX so sz4 B15 u0 one OX P1 P2 P4
        have u0 := soF.cell 0 _ rfl
        have u1 := soF.cell 1 _ rfl
        have u2 := soF.cell 2 _ rfl
        have u3 := soF.cell 3 _ rfl
        have u4 := soF.cell 4 _ rfl
        go_upto_region 13 with fail
        have hp := lak_d (Or.inr rfl) c2
        have hin := frm_d c1 hp
        have hcl := frm_code c1
        have hc9 : (d.code ++ [(4, 0)]).length = d.code.length + 1 := by simp
        obtain ⟨csr, rC0⟩ := oDF.code.row
        obtain ⟨gc, cz, ez⟩ := own_some rC0 (by rw [hc9]; omega)
        obtain ⟨rfl, rfl⟩ := slice_inj ez
        clear ez
        clear rC0 csr
        obtain ⟨gd, cz, ez⟩ := own_some oDF.dests hp
        obtain ⟨rfl, rfl⟩ := slice_inj ez
        clear ez
        have bd : Below q9.heap.size q9 q9.drew := below_drewN (Below.refl q9.heap.size q9) 1
        have soD := soF.below bd
        have szD := szF.below bd
        have oDD := oDF.below bd
        have BD := below_trans BF bd
        have hsD := Nat.le_trans hsF bd.size
        clear oDF
        go_region
        go_upto_region 28 with fail
        generalize q9.drew = q10 at soD szD oDD BD hsD bd ⊢
        clear soF szF BF hsF u0 u1 u2 u3 u4 bd
        have u0 := soD.cell 0 _ rfl
        have u2 := soD.cell 2 _ rfl
        have ix := idx_int gd d.dests.length dq hp
        have iy := idx_op gc (d.code.length + 1) c9 d.code.length (by omega)
        have hcD := own_cell oDD.dests (d.dests.length - 1) _ (nwI_get hp)
        have hwr := wrap32 (nwI d.dests) (by omega) (by omega)
        obtain ⟨csr, rC⟩ := oDD.code.row
        have oc0 : OwC base q10 (.slice (some ⟨gc, 0, none⟩) (d.code ++ [(4, 0)]).length c9) (d.code ++ [(4, 0)]) := by rw [hc9]; exact oDD.code
        obtain ⟨s0, ⟨uy, y1⟩, y2⟩ := OwC.put oc0 d.code.length (by rw [hc9]; omega) (nwI d.dests)
        have b2 : Below (q10.setCell ⟨gc, d.code.length * 2 + 1, none⟩ (.int .u32 (nwI d.dests))).heap.size (q10.setCell ⟨gc, d.code.length * 2 + 1, none⟩ (.int .u32 (nwI d.dests))) (q10.setCell ⟨gc, d.code.length * 2 + 1, none⟩ (.int .u32 (nwI d.dests))).drew := below_drewN (Below.refl _ _) 1
        have s1 : OwC base _ _ _ := OwnR.below s0 b2 (fun _ _ q => q)
        rw [hc9] at s1
        have hg1 : q10.grownBy (q10.setCell ⟨gc, d.code.length * 2 + 1, none⟩ (.int .u32 (nwI d.dests))).drew (some gc) := gb_below (gb_set (gb_refl q10 _) _ _) b2
        have k1 := Kept.own rC hg1
        have so11 := stands_kept k1 (by decide) soD
        have sz11 := stands_kept k1 (by decide) szD
        have B11 := below_grown BD hg1 (fun q hq => by have := (rC.lt q hq).1; omega)
        have cu := cut_int gd d.dests.length dq hp (own_cap oDD.dests)
        have O0 := hid oDD
        have S1 := hid s1
        have K1 := hid k1
        clear oDD oc0 s0 s1 rC hg1 k1 hin b2
        go_region
        go_upto_region 29 with fail
        have oC1 := S1.out
        have kC := K1.out
        clear S1 K1
        generalize (q10.setCell ⟨gc, d.code.length * 2 + 1, none⟩ (.int .u32 (nwI d.dests))).drew = q11 at oC1 kC so11 sz11 B11 ⊢
        have u2 := so11.cell 2 _ rfl
        have yg := so11.free 2
        have OC := hid oC1
        have KC := hid kC
        clear oC1 kC u0 y1 y2 hcD
        go_upto_region 52 with fail
        have kC := KC.out
        have soZ := so11.set 2 (.slice (some ⟨gd, 0, none⟩) (d.dests.length - 1) dq)
        have szZ := sz11.other (b' := BX) 2 (.slice (some ⟨gd, 0, none⟩) (d.dests.length - 1) dq) (by omega)
        have pT := own_take (own_kept kC (by decide) (own_le O0.out.le1 O0.out.dests)) (d.dests.length - 1) (by omega)
        have oE9 := OwD.toD O0.out (Out.kept kC (by decide) (by decide)) OC.out (xs := d.dests.take (d.dests.length - 1)) (by simpa [List.map_take] using pT)
        have oEZ := oE9.kept (set_kept so11 2 (.slice (some ⟨gd, 0, none⟩) (d.dests.length - 1) dq)) (by decide) (by decide) (by decide)
        have BZ := below_set B11 BX 2 (.slice (some ⟨gd, 0, none⟩) (d.dests.length - 1) dq) (by omega)
        generalize q11.setCell ⟨BX, 2, none⟩ (.slice (some ⟨gd, 0, none⟩) (d.dests.length - 1) dq) = qz at soZ szZ oEZ BZ ⊢
        have soZ : Stands qz BX #[.slice (some ⟨gc, 0, none⟩) (d.code.length + 1) c9, .slice oa d.origs.length oq, .slice (some ⟨gd, 0, none⟩) (d.dests.length - 1) dq, .slice la d.loops.length lq, .slice ka d.cases.length kq] 26 := soZ
        clear oE9 pT kC so11 u2 yg sz11 B11 O0 OC KC cu
        have u0 := soZ.cell 0 _ rfl
        have u1 := soZ.cell 1 _ rfl
        have u2 := soZ.cell 2 _ rfl
        have u3 := soZ.cell 3 _ rfl
        have u4 := soZ.cell 4 _ rfl
        have zz0 := szZ.cell 0 _ rfl
        have zz1 := szZ.cell 1 _ rfl
        have zz2 := szZ.cell 2 _ rfl
        have zz3 := szZ.cell 3 _ rfl
        have zz4 := szZ.cell 4 _ rfl
        have zf := szZ.free
        obtain ⟨g1, g2⟩ := set5q szZ (.slice (some ⟨gc, 0, none⟩) (d.code.length + 1) c9) (.slice oa d.origs.length oq) (.slice (some ⟨gd, 0, none⟩) (d.dests.length - 1) dq) (.slice la d.loops.length lq) (.slice ka d.cases.length kq)
        have G1 := hid g1
        have GM := hid (g2 (fun u => OwE base u ⟨.slice (some ⟨gc, 0, none⟩) (d.code.length + 1) c9, .slice oa d.origs.length oq, .slice (some ⟨gd, 0, none⟩) (d.dests.length - 1) dq, .slice la d.loops.length lq, .slice ka d.cases.length kq⟩ ⟨setN (d.code ++ [(4, 0)]) (d.code.length : Int) (nwI d.dests), d.origs, d.dests.take (d.dests.length - 1), d.loops, d.cases⟩) (fun u u' kk q => q.kept kk (by decide) (by decide) (by decide)) oEZ)
        have J7 : Hid (Below w.heap.size w _) := below_set (below_set (below_set (below_set (below_set (BZ) (w.heap.size + 1) 0 (.slice (some ⟨gc, 0, none⟩) (d.code.length + 1) c9) (by omega)) (w.heap.size + 1) 1 (.slice oa d.origs.length oq) (by omega)) (w.heap.size + 1) 2 (.slice (some ⟨gd, 0, none⟩) (d.dests.length - 1) dq) (by omega)) (w.heap.size + 1) 3 (.slice la d.loops.length lq) (by omega)) (w.heap.size + 1) 4 (.slice ka d.cases.length kq) (by omega)
        clear g1 g2 oEZ BZ szZ soZ
        go_wp2_with fail
        (try simp only [Exit.inBlock, Exit.then])
        refine bodyPost_ret (res_row2 rfl _ _ (w.heap.size + 1) 26 _ (0, 0) _ rfl G1.out Try.underlying26 rfl (show _ = some 5 by kernel_rfl)) rfl ?_
        exact ⟨⟨.slice (some ⟨gc, 0, none⟩) (d.code.length + 1) c9, .slice oa d.origs.length oq, .slice (some ⟨gd, 0, none⟩) (d.dests.length - 1) dq, .slice la d.loops.length lq, .slice ka d.cases.length kq⟩, rfl, ⟨_, GM.out⟩, J7.out⟩

set_option maxHeartbeats 8000000 in
set_option maxRecDepth 100000 in
theorem w_r10act7 (v : Dv) (d : Dft) (w : World) (h : RdD w v d) (z : szD d) (ze : szE d) :
    Calls Try.prog 11 #[.agg v.cs, .int .i64 7] w fun e w' => ∃ v1, e = .returned (.tuple #[.agg (Dv.cs v1), .int .i64 (actD d 7).2]) ∧ OwQ w' v1 (actD d 7).1 ∧ Below w.heap.size w w' := by
  have cf := fun W (b : Below w.heap.size w W) => w_r10formed v d W (h.below b)
  have ck := fun W (b : Below w.heap.size w W) => w_r10lacks v d 7 W (h.below b) (by decide) (by decide)
  have cl := fun W => w_r10laid 7 W (by decide) (by decide)
  rw [show ladF 7 = 5 from rfl] at cl
  have cc := fun W (b : Below w.heap.size w W) => w_r10copy v d W (h.below b) z
  have l0 := slr_len h.code uO (P := Try.prog)
  have m1 := rd_maxI h.origs
  have m2 := rd_maxI h.dests
  have m3 := slr_max h.loops
  have m4 := slr_max h.cases
  unfold maxLen at m1 m2 m3 m4
  have s0 := (stands_new w v.cs 26).below (box_below _ (.cells #[.slice none 0 0, .slice none 0 0, .slice none 0 0, .slice none 0 0, .slice none 0 0] 26))
  have s2 := stands_new (w.alloc (.cells v.cs 26)) #[.slice none 0 0, .slice none 0 0, .slice none 0 0, .slice none 0 0, .slice none 0 0] 26
  rw [size_al] at s2
  have bw := below_trans (box_below w (.cells v.cs 26)) (box_below _ (.cells #[.slice none 0 0, .slice none 0 0, .slice none 0 0, .slice none 0 0, .slice none 0 0] 26))
  have CC := hid cc
  clear cc z h
  obtain ⟨x0, x1, x2, x3, x4⟩ := v
  simp only [Dv.cs] at cf ck s0 s2 bw l0 CC ⊢
  cases c1 : frmD d with
  | false =>
    rw [act_no1 c1]
    simp only [c1] at cf
    clear ck m1 m2 m3 m4
    go_enter Try.func11, Try.ntmps11
    go_upto_region 1 with fail
    generalize (w.alloc (.cells #[x0, x1, x2, x3, x4] 26)).alloc (.cells #[.slice none 0 0, .slice none 0 0, .slice none 0 0, .slice none 0 0, .slice none 0 0] 26) = W0 at s0 s2 bw ⊢
    have f0 := s0.cell 0 _ rfl
    have f1 := s0.cell 1 _ rfl
    have f2 := s0.cell 2 _ rfl
    have f3 := s0.cell 3 _ rfl
    have f4 := s0.cell 4 _ rfl
    go_wp2_with (first | (go_at_call 13; refine (cf _ bw).mono ?_; rintro e q1 ⟨rfl, b1⟩; have p0 := (s0.below b1).cell 0 _ rfl; have p1 := (s0.below b1).cell 1 _ rfl; have p2 := (s0.below b1).cell 2 _ rfl; have p3 := (s0.below b1).cell 3 _ rfl; have p4 := (s0.below b1).cell 4 _ rfl; have zz0 := (s2.below b1).cell 0 _ rfl; have zz1 := (s2.below b1).cell 1 _ rfl; have zz2 := (s2.below b1).cell 2 _ rfl; have zz3 := (s2.below b1).cell 3 _ rfl; have zz4 := (s2.below b1).cell 4 _ rfl; have zf := (s2.below b1).free))
    obtain ⟨g1, g2⟩ := set5q (s2.below b1) (.slice none 0 0) (.slice none 0 0) (.slice none 0 0) (.slice none 0 0) (.slice none 0 0)
    have J7 := below_set (below_set (below_set (below_set (below_set (below_trans bw b1) (w.heap.size + 1) 0 (.slice none 0 0) (by omega)) (w.heap.size + 1) 1 (.slice none 0 0) (by omega)) (w.heap.size + 1) 2 (.slice none 0 0) (by omega)) (w.heap.size + 1) 3 (.slice none 0 0) (by omega)) (w.heap.size + 1) 4 (.slice none 0 0) (by omega)
    (try simp only [Exit.inBlock, Exit.then])
    refine bodyPost_ret (res_row2 rfl _ _ (w.heap.size + 1) 26 _ (0, 0) _ rfl g1 Try.underlying26 rfl (show _ = some 5 by kernel_rfl)) rfl ?_
    exact ⟨nilDv, rfl, OwQ.nil _, J7⟩
  | true =>
    simp only [c1] at cf
    cases c2 : lakF d 7 with
    | true =>
      cases c2
    | false =>
      simp only [c2] at ck
      by_cases c3 : (256 : Int) ≤ d.code.length
      · rw [act_no3 c1 (by decide) (by decide) c2 (by decide) (by omega)]
        clear m1 m2 m3 m4
        go_enter Try.func11, Try.ntmps11
        go_upto_region 1 with fail
        generalize (w.alloc (.cells #[x0, x1, x2, x3, x4] 26)).alloc (.cells #[.slice none 0 0, .slice none 0 0, .slice none 0 0, .slice none 0 0, .slice none 0 0] 26) = W0 at s0 s2 bw ⊢
        have f0 := s0.cell 0 _ rfl
        have f1 := s0.cell 1 _ rfl
        have f2 := s0.cell 2 _ rfl
        have f3 := s0.cell 3 _ rfl
        have f4 := s0.cell 4 _ rfl
        go_wp2_with (first | (go_at_call 13; refine (cf _ bw).mono ?_; rintro e q1 ⟨rfl, b1⟩; have p0 := (s0.below b1).cell 0 _ rfl; have p1 := (s0.below b1).cell 1 _ rfl; have p2 := (s0.below b1).cell 2 _ rfl; have p3 := (s0.below b1).cell 3 _ rfl; have p4 := (s0.below b1).cell 4 _ rfl; have zz0 := (s2.below b1).cell 0 _ rfl; have zz1 := (s2.below b1).cell 1 _ rfl; have zz2 := (s2.below b1).cell 2 _ rfl; have zz3 := (s2.below b1).cell 3 _ rfl; have zz4 := (s2.below b1).cell 4 _ rfl; have zf := (s2.below b1).free) | (go_at_call 24; refine (ck _ (below_trans bw b1)).mono ?_; rintro e q2 ⟨rfl, b2⟩; have b12 := below_trans b1 b2; have p0 := (s0.below b12).cell 0 _ rfl; have p1 := (s0.below b12).cell 1 _ rfl; have p2 := (s0.below b12).cell 2 _ rfl; have p3 := (s0.below b12).cell 3 _ rfl; have p4 := (s0.below b12).cell 4 _ rfl; have zz0 := (s2.below b12).cell 0 _ rfl; have zz1 := (s2.below b12).cell 1 _ rfl; have zz2 := (s2.below b12).cell 2 _ rfl; have zz3 := (s2.below b12).cell 3 _ rfl; have zz4 := (s2.below b12).cell 4 _ rfl; have zf := (s2.below b12).free) | (go_at_call 25; refine (cl _).mono ?_; rintro e q3 ⟨rfl, rfl⟩))
        obtain ⟨g1, g2⟩ := set5q (s2.below b12) (.slice none 0 0) (.slice none 0 0) (.slice none 0 0) (.slice none 0 0) (.slice none 0 0)
        have J7 := below_set (below_set (below_set (below_set (below_set (below_trans bw b12) (w.heap.size + 1) 0 (.slice none 0 0) (by omega)) (w.heap.size + 1) 1 (.slice none 0 0) (by omega)) (w.heap.size + 1) 2 (.slice none 0 0) (by omega)) (w.heap.size + 1) 3 (.slice none 0 0) (by omega)) (w.heap.size + 1) 4 (.slice none 0 0) (by omega)
        (try simp only [Exit.inBlock, Exit.then])
        refine bodyPost_ret (res_row2 rfl _ _ (w.heap.size + 1) 26 _ (0, 0) _ rfl g1 Try.underlying26 rfl (show _ = some 5 by kernel_rfl)) rfl ?_
        exact ⟨nilDv, rfl, OwQ.nil _, J7⟩
      · rw [act_yes c1 (by decide) (by decide) c2 (fun h => by omega)]
        have hD : doD d 7 (layF d 7) d.code.length (layF d 7).length (ladF 7) = ⟨(d.code ++ [(5, 0)]), d.origs, d.dests, d.loops ++ [((d.code.length : Int), [])], d.cases⟩ := by simp [doD, layF, ladF]
        rw [hD]
        clear hD
        go_enter Try.func11, Try.ntmps11
        go_upto_region 1 with fail
        generalize (w.alloc (.cells #[x0, x1, x2, x3, x4] 26)).alloc (.cells #[.slice none 0 0, .slice none 0 0, .slice none 0 0, .slice none 0 0, .slice none 0 0] 26) = W0 at s0 s2 bw ⊢
        have f0 := s0.cell 0 _ rfl
        have f1 := s0.cell 1 _ rfl
        have f2 := s0.cell 2 _ rfl
        have f3 := s0.cell 3 _ rfl
        have f4 := s0.cell 4 _ rfl
        go_upto_region 9 with (first | (go_at_call 13; refine (cf _ bw).mono ?_; rintro e q1 ⟨rfl, b1⟩; have p0 := (s0.below b1).cell 0 _ rfl; have p1 := (s0.below b1).cell 1 _ rfl; have p2 := (s0.below b1).cell 2 _ rfl; have p3 := (s0.below b1).cell 3 _ rfl; have p4 := (s0.below b1).cell 4 _ rfl; have zz0 := (s2.below b1).cell 0 _ rfl; have zz1 := (s2.below b1).cell 1 _ rfl; have zz2 := (s2.below b1).cell 2 _ rfl; have zz3 := (s2.below b1).cell 3 _ rfl; have zz4 := (s2.below b1).cell 4 _ rfl; have zf := (s2.below b1).free) | (go_at_call 24; refine (ck _ (below_trans bw b1)).mono ?_; rintro e q2 ⟨rfl, b2⟩; have b12 := below_trans b1 b2; have p0 := (s0.below b12).cell 0 _ rfl; have p1 := (s0.below b12).cell 1 _ rfl; have p2 := (s0.below b12).cell 2 _ rfl; have p3 := (s0.below b12).cell 3 _ rfl; have p4 := (s0.below b12).cell 4 _ rfl; have zz0 := (s2.below b12).cell 0 _ rfl; have zz1 := (s2.below b12).cell 1 _ rfl; have zz2 := (s2.below b12).cell 2 _ rfl; have zz3 := (s2.below b12).cell 3 _ rfl; have zz4 := (s2.below b12).cell 4 _ rfl; have zf := (s2.below b12).free) | (go_at_call 25; refine (cl _).mono ?_; rintro e q3 ⟨rfl, rfl⟩) | (go_at_call 9; refine (CC.out _ (below_trans bw b12)).mono ?_; rintro e q4 ⟨v1, t1, t2, t3, rfl, oD, b4⟩; obtain ⟨cs0, r0⟩ := oD.code.row; obtain ⟨ca, cq, e0⟩ := own_form r0; obtain ⟨oa, oq, e1⟩ := own_form oD.origs; obtain ⟨da, dq, e2⟩ := own_form oD.dests; obtain ⟨cs3, r3⟩ := oD.loops.own.row; obtain ⟨la, lq, e3⟩ := own_form r3; obtain ⟨cs4, r4⟩ := oD.cases.own.row; obtain ⟨ka, kq, e4⟩ := own_form r4; obtain ⟨y0, y1, y2, y3, y4⟩ := v1; (try dsimp only at e0 e1 e2 e3 e4); subst e0 e1 e2 e3 e4; simp only [Dv.cs]))
        have bo := box_below q4 (.cells #[.slice ca d.code.length cq, .slice oa d.origs.length oq, .slice da d.dests.length dq, .slice la d.loops.length lq, .slice ka d.cases.length kq] 26)
        have so := stands_new q4 #[.slice ca d.code.length cq, .slice oa d.origs.length oq, .slice da d.dests.length dq, .slice la d.loops.length lq, .slice ka d.cases.length kq] 26
        have oD4 := oD.below bo
        have b15 := below_trans (below_trans b12 b4) bo
        have B15 := below_trans bw b15
        have sz4 := s2.below b15
        obtain ⟨BX, hBX⟩ : ∃ B, q4.heap.size = B := ⟨_, rfl⟩
        have hW0 : w.heap.size + 1 < W0.heap.size := (Array.getElem?_eq_some_iff.1 s2).1
        have hWq : W0.heap.size ≤ q3.heap.size := b12.size
        have hBq : q3.heap.size ≤ BX := by rw [← hBX]; exact b4.size
        have hBs : q3.heap.size ≤ (q4.alloc (.cells #[.slice ca d.code.length cq, .slice oa d.origs.length oq, .slice da d.dests.length dq, .slice la d.loops.length lq, .slice ka d.cases.length kq] 26)).heap.size := Nat.le_trans b4.size bo.size
        obtain ⟨base, hba⟩ : ∃ B, q3.heap.size = B := ⟨_, rfl⟩
        rw [hBX] at so
        simp only [hBX]
        rw [hba] at oD4 hBq hWq hBs
        generalize q4.alloc (.cells #[.slice ca d.code.length cq, .slice oa d.origs.length oq, .slice da d.dests.length dq, .slice la d.loops.length lq, .slice ka d.cases.length kq] 26) = q5 at so oD4 sz4 B15 hBs ⊢
        clear bo b15 oD b4 hba hBX b12 f0 f1 f2 f3 f4 bw s0 s2 r0 r3 r4
        have u0 := so.cell 0 _ rfl
        go_upto_region 11 with fail
        have bX := box_below q5 (.cells #[.int .i64 5, .int .u32 0] 37)
        have oDX := oD4.below bX
        obtain ⟨rows, p1, p2, p3, p4⟩ := oDX.code
        obtain ⟨i9, hi9, hz9, hz8, hz7⟩ := info_parts infoOp10
        have one : ∀ r ∈ [[Value.int .i64 5, .int .u32 0]], ∀ u ∈ r, u.oneCell' = true := fun r hr u hu => by rw [List.mem_singleton] at hr; subst hr; simp at hu; rcases hu with rfl | rfl <;> rfl
        have P1 := hid p1
        have P2 := hid p2
        have P4 := hid p4
        have OX := hid oDX
        clear p1 p2 p4 oDX oD4
        go_upto_region 12 with (at_builtin; refine wpList_append_rows rfl _ _ 22 rfl base 37 i9 _ 2 16 Try.underlying22 hi9 hz9 hz8 hz7 rfl (by decide) _ d.code.length _ rfl p3 _ [[Value.int .i64 5, .int .u32 0]] rfl (slc_one q5 [Value.int .i64 5, .int .u32 0] 37 2 rfl) one (by unfold maxLen; simp only [List.length_singleton]; omega) (by simp only [List.length_singleton]; omega) (Nat.le_trans hBs bX.size) ?_; intro v9 w9 ho9 hg9; obtain ⟨a9, c9, rfl⟩ := own_form ho9; have so9 := Stands.grown (so.below bX) hg9 (stands_apart (so.below bX) p3 (by decide)); have y2 := so9.cell 0 _ rfl; have yg := so9.free 0)
        have kW := Kept.own p3 hg9
        have szF := (Stands.grown (sz4.below bX) hg9 (stands_apart (sz4.below bX) p3 (by decide))).other (b' := BX) 0 (.slice a9 (d.code.length + [[Value.int .i64 5, .int .u32 0]].length) c9) (by omega)
        have oC9 : OwC base w9 (.slice a9 (d.code.length + 1) c9) (d.code ++ [(5, 0)]) := OwnR.snoc (e := 37) (O := opR) opR_apt10 P1.out P2.out p3 P4.out rfl (x := (5, 0)) rfl (by simpa using ho9) hg9
        have oD9 := OX.out.code' kW oC9
        have oDF := oD9.kept (set_kept so9 0 (.slice a9 (d.code.length + [[Value.int .i64 5, .int .u32 0]].length) c9)) (by decide) (by decide) (by decide)
        have soF := so9.set 0 (.slice a9 (d.code.length + [[Value.int .i64 5, .int .u32 0]].length) c9)
        have BF := below_set (below_grown (below_trans B15 bX) hg9 (fun q hq => by have := (p3.lt q hq).1; omega)) BX 0 (.slice a9 (d.code.length + [[Value.int .i64 5, .int .u32 0]].length) c9) (by omega)
        have hsF : base ≤ (w9.setCell ⟨BX, 0, none⟩ (.slice a9 (d.code.length + [[Value.int .i64 5, .int .u32 0]].length) c9)).heap.size := Nat.le_trans hBs (Nat.le_trans bX.size (Nat.le_trans hg9.size (set_kept so9 0 (.slice a9 (d.code.length + [[Value.int .i64 5, .int .u32 0]].length) c9)).size))
        generalize w9.setCell ⟨BX, 0, none⟩ (.slice a9 (d.code.length + [[Value.int .i64 5, .int .u32 0]].length) c9) = q9 at szF oDF soF BF hsF ⊢
        have soF : Stands q9 BX #[.slice a9 (d.code.length + 1) c9, .slice oa d.origs.length oq, .slice da d.dests.length dq, .slice la d.loops.length lq, .slice ka d.cases.length kq] 26 := soF
        clear p3 ho9 hg9 kW oD9 oC9 so9 y2 yg bX so sz4 B15 u0 one OX P1 P2 P4
        have u0 := soF.cell 0 _ rfl
        have u1 := soF.cell 1 _ rfl
        have u2 := soF.cell 2 _ rfl
        have u3 := soF.cell 3 _ rfl
        have u4 := soF.cell 4 _ rfl
        go_upto_region 13 with fail
        have bd : Below q9.heap.size q9 q9.drew := below_drewN (Below.refl q9.heap.size q9) 1
        have soD := soF.below bd
        have szD := szF.below bd
        have oDD := oDF.below bd
        have BD := below_trans BF bd
        have hsD := Nat.le_trans hsF bd.size
        clear oDF
        go_region
        go_upto_region 32 with fail
        generalize q9.drew = q10 at soD szD oDD BD hsD bd ⊢
        clear soF szF BF hsF u0 u1 u2 u3 u4 bd
        have u0 := soD.cell 3 _ rfl
        have bX := box_below q10 (.cells #[.int .i64 (d.code.length : Int), .slice none 0 0] 58)
        have oDX := oDD.below bX
        have l1 := oDX.le1
        have l2 := oDX.le2
        have l3 := oDX.le3
        obtain ⟨rows, p1, p2, p3, p4⟩ := oDX.loops.owe (base := base) (by omega)
        have prA := oDX.loops.rng
        obtain ⟨i9n, hi9n, hz9n, hz8n, hz7n⟩ := info_parts infoOn10
        have one : ∀ r ∈ [[Value.int .i64 (d.code.length : Int), .slice none 0 0]], ∀ u ∈ r, u.oneCell' = true := fun r hr u hu => by rw [List.mem_singleton] at hr; subst hr; simp at hu; rcases hu with rfl | rfl <;> rfl
        have ze1 := ze.loops
        have soX := soD.below bX
        have szX := szD.below bX
        have P1 := hid p1
        have P2 := hid p2
        have P4 := hid p4
        have OX := hid oDX
        clear p1 p2 p4 oDX oDD l1 l2 l3
        go_upto_region 52 with (at_builtin; refine wpList_append_rowsB rfl _ _ 24 rfl base 58 i9n _ 2 32 Try.underlying24 hi9n hz9n hz8n hz7n rfl (by decide) _ d.loops.length _ rfl p3 _ [[Value.int .i64 (d.code.length : Int), .slice none 0 0]] rfl (slc_one q10 [Value.int .i64 (d.code.length : Int), .slice none 0 0] 58 2 rfl) one (by unfold maxLen; simp only [List.length_singleton]; omega) (by simp only [List.length_singleton]; omega) (Nat.le_trans hsD bX.size) ?_; intro v9 w9 ho9 hg9; obtain ⟨a8, c8, rfl⟩ := own_form ho9; have so9 := Stands.grown soX hg9 (stands_apart soX p3 (by decide)); have y2 := so9.cell 3 _ rfl; have yg := so9.free 3)
        have soZ := so9.set 3 (.slice a8 (d.loops.length + [[Value.int .i64 (d.code.length : Int), .slice none 0 0]].length) c8)
        have szZ := (Stands.grown szX hg9 (stands_apart szX p3 (by decide))).other (b' := BX) 3 (.slice a8 (d.loops.length + [[Value.int .i64 (d.code.length : Int), .slice none 0 0]].length) c8) (by omega)
        have nR : OwnR 58 2 (opnO base) base w9 (.slice a8 (d.loops.length + 1) c8) (d.loops ++ [((d.code.length : Int), [])]) := OwnR.snoc (e := 58) (O := opnO base) (opnO_apt (by decide)) P1.out P2.out p3 P4.out rfl (x := ((d.code.length : Int), [])) ⟨.slice none 0 0, rfl, World.ownsRow_nil _ _ _ _⟩ (by simpa using ho9) hg9
        have oE9 := OwD.toL OX.out (Out.grown hg9 prA) (OwnR.kept OX.out.code (Kept.own p3 hg9) (by decide) opR_apt10) nR
        have oEZ := oE9.kept (set_kept so9 3 (.slice a8 (d.loops.length + [[Value.int .i64 (d.code.length : Int), .slice none 0 0]].length) c8)) (by decide) (by decide) (by decide)
        have BZ := below_set (below_grown (below_trans BD bX) hg9 (fun q hq => by have := (p3.lt q hq).1; omega)) BX 3 (.slice a8 (d.loops.length + [[Value.int .i64 (d.code.length : Int), .slice none 0 0]].length) c8) (by omega)
        generalize w9.setCell ⟨BX, 3, none⟩ (.slice a8 (d.loops.length + [[Value.int .i64 (d.code.length : Int), .slice none 0 0]].length) c8) = qz at soZ szZ oEZ BZ ⊢
        have soZ : Stands qz BX #[.slice a9 (d.code.length + 1) c9, .slice oa d.origs.length oq, .slice da d.dests.length dq, .slice a8 (d.loops.length + 1) c8, .slice ka d.cases.length kq] 26 := soZ
        clear oE9 so9 y2 yg ho9 hg9 p3 soX soD szX szD BD bX OX P1 P2 P4 nR prA one
        have u0 := soZ.cell 0 _ rfl
        have u1 := soZ.cell 1 _ rfl
        have u2 := soZ.cell 2 _ rfl
        have u3 := soZ.cell 3 _ rfl
        have u4 := soZ.cell 4 _ rfl
        have zz0 := szZ.cell 0 _ rfl
        have zz1 := szZ.cell 1 _ rfl
        have zz2 := szZ.cell 2 _ rfl
        have zz3 := szZ.cell 3 _ rfl
        have zz4 := szZ.cell 4 _ rfl
        have zf := szZ.free
        obtain ⟨g1, g2⟩ := set5q szZ (.slice a9 (d.code.length + 1) c9) (.slice oa d.origs.length oq) (.slice da d.dests.length dq) (.slice a8 (d.loops.length + 1) c8) (.slice ka d.cases.length kq)
        have G1 := hid g1
        have GM := hid (g2 (fun u => OwE base u ⟨.slice a9 (d.code.length + 1) c9, .slice oa d.origs.length oq, .slice da d.dests.length dq, .slice a8 (d.loops.length + 1) c8, .slice ka d.cases.length kq⟩ ⟨(d.code ++ [(5, 0)]), d.origs, d.dests, d.loops ++ [((d.code.length : Int), [])], d.cases⟩) (fun u u' kk q => q.kept kk (by decide) (by decide) (by decide)) oEZ)
        have J7 : Hid (Below w.heap.size w _) := below_set (below_set (below_set (below_set (below_set (BZ) (w.heap.size + 1) 0 (.slice a9 (d.code.length + 1) c9) (by omega)) (w.heap.size + 1) 1 (.slice oa d.origs.length oq) (by omega)) (w.heap.size + 1) 2 (.slice da d.dests.length dq) (by omega)) (w.heap.size + 1) 3 (.slice a8 (d.loops.length + 1) c8) (by omega)) (w.heap.size + 1) 4 (.slice ka d.cases.length kq) (by omega)
        clear g1 g2 oEZ BZ szZ soZ
        go_wp2_with fail
        (try simp only [Exit.inBlock, Exit.then])
        refine bodyPost_ret (res_row2 rfl _ _ (w.heap.size + 1) 26 _ (0, 0) _ rfl G1.out Try.underlying26 rfl (show _ = some 5 by kernel_rfl)) rfl ?_
        exact ⟨⟨.slice a9 (d.code.length + 1) c9, .slice oa d.origs.length oq, .slice da d.dests.length dq, .slice a8 (d.loops.length + 1) c8, .slice ka d.cases.length kq⟩, rfl, ⟨_, GM.out⟩, J7.out⟩

set_option maxHeartbeats 8000000 in
set_option maxRecDepth 100000 in
theorem w_r10act8 (v : Dv) (d : Dft) (w : World) (h : RdD w v d) (z : szD d) (ze : szE d) :
    Calls Try.prog 11 #[.agg v.cs, .int .i64 8] w fun e w' => ∃ v1, e = .returned (.tuple #[.agg (Dv.cs v1), .int .i64 (actD d 8).2]) ∧ OwQ w' v1 (actD d 8).1 ∧ Below w.heap.size w w' := by
  have cf := fun W (b : Below w.heap.size w W) => w_r10formed v d W (h.below b)
  have ck := fun W (b : Below w.heap.size w W) => w_r10lacks v d 8 W (h.below b) (by decide) (by decide)
  have cl := fun W => w_r10laid 8 W (by decide) (by decide)
  rw [show ladF 8 = 6 from rfl] at cl
  have cc := fun W (b : Below w.heap.size w W) => w_r10copy v d W (h.below b) z
  have l0 := slr_len h.code uO (P := Try.prog)
  have m1 := rd_maxI h.origs
  have m2 := rd_maxI h.dests
  have m3 := slr_max h.loops
  have m4 := slr_max h.cases
  unfold maxLen at m1 m2 m3 m4
  have s0 := (stands_new w v.cs 26).below (box_below _ (.cells #[.slice none 0 0, .slice none 0 0, .slice none 0 0, .slice none 0 0, .slice none 0 0] 26))
  have s2 := stands_new (w.alloc (.cells v.cs 26)) #[.slice none 0 0, .slice none 0 0, .slice none 0 0, .slice none 0 0, .slice none 0 0] 26
  rw [size_al] at s2
  have bw := below_trans (box_below w (.cells v.cs 26)) (box_below _ (.cells #[.slice none 0 0, .slice none 0 0, .slice none 0 0, .slice none 0 0, .slice none 0 0] 26))
  have CC := hid cc
  clear cc z h
  obtain ⟨x0, x1, x2, x3, x4⟩ := v
  simp only [Dv.cs] at cf ck s0 s2 bw l0 CC ⊢
  cases c1 : frmD d with
  | false =>
    rw [act_no1 c1]
    simp only [c1] at cf
    clear ck m1 m2 m3 m4
    go_enter Try.func11, Try.ntmps11
    go_upto_region 1 with fail
    generalize (w.alloc (.cells #[x0, x1, x2, x3, x4] 26)).alloc (.cells #[.slice none 0 0, .slice none 0 0, .slice none 0 0, .slice none 0 0, .slice none 0 0] 26) = W0 at s0 s2 bw ⊢
    have f0 := s0.cell 0 _ rfl
    have f1 := s0.cell 1 _ rfl
    have f2 := s0.cell 2 _ rfl
    have f3 := s0.cell 3 _ rfl
    have f4 := s0.cell 4 _ rfl
    go_wp2_with (first | (go_at_call 13; refine (cf _ bw).mono ?_; rintro e q1 ⟨rfl, b1⟩; have p0 := (s0.below b1).cell 0 _ rfl; have p1 := (s0.below b1).cell 1 _ rfl; have p2 := (s0.below b1).cell 2 _ rfl; have p3 := (s0.below b1).cell 3 _ rfl; have p4 := (s0.below b1).cell 4 _ rfl; have zz0 := (s2.below b1).cell 0 _ rfl; have zz1 := (s2.below b1).cell 1 _ rfl; have zz2 := (s2.below b1).cell 2 _ rfl; have zz3 := (s2.below b1).cell 3 _ rfl; have zz4 := (s2.below b1).cell 4 _ rfl; have zf := (s2.below b1).free))
    obtain ⟨g1, g2⟩ := set5q (s2.below b1) (.slice none 0 0) (.slice none 0 0) (.slice none 0 0) (.slice none 0 0) (.slice none 0 0)
    have J7 := below_set (below_set (below_set (below_set (below_set (below_trans bw b1) (w.heap.size + 1) 0 (.slice none 0 0) (by omega)) (w.heap.size + 1) 1 (.slice none 0 0) (by omega)) (w.heap.size + 1) 2 (.slice none 0 0) (by omega)) (w.heap.size + 1) 3 (.slice none 0 0) (by omega)) (w.heap.size + 1) 4 (.slice none 0 0) (by omega)
    (try simp only [Exit.inBlock, Exit.then])
    refine bodyPost_ret (res_row2 rfl _ _ (w.heap.size + 1) 26 _ (0, 0) _ rfl g1 Try.underlying26 rfl (show _ = some 5 by kernel_rfl)) rfl ?_
    exact ⟨nilDv, rfl, OwQ.nil _, J7⟩
  | true =>
    simp only [c1] at cf
    cases c2 : lakF d 8 with
    | true =>
      cases c2
    | false =>
      simp only [c2] at ck
      by_cases c3 : (256 : Int) ≤ d.code.length
      · rw [act_no3 c1 (by decide) (by decide) c2 (by decide) (by omega)]
        clear m1 m2 m3 m4
        go_enter Try.func11, Try.ntmps11
        go_upto_region 1 with fail
        generalize (w.alloc (.cells #[x0, x1, x2, x3, x4] 26)).alloc (.cells #[.slice none 0 0, .slice none 0 0, .slice none 0 0, .slice none 0 0, .slice none 0 0] 26) = W0 at s0 s2 bw ⊢
        have f0 := s0.cell 0 _ rfl
        have f1 := s0.cell 1 _ rfl
        have f2 := s0.cell 2 _ rfl
        have f3 := s0.cell 3 _ rfl
        have f4 := s0.cell 4 _ rfl
        go_wp2_with (first | (go_at_call 13; refine (cf _ bw).mono ?_; rintro e q1 ⟨rfl, b1⟩; have p0 := (s0.below b1).cell 0 _ rfl; have p1 := (s0.below b1).cell 1 _ rfl; have p2 := (s0.below b1).cell 2 _ rfl; have p3 := (s0.below b1).cell 3 _ rfl; have p4 := (s0.below b1).cell 4 _ rfl; have zz0 := (s2.below b1).cell 0 _ rfl; have zz1 := (s2.below b1).cell 1 _ rfl; have zz2 := (s2.below b1).cell 2 _ rfl; have zz3 := (s2.below b1).cell 3 _ rfl; have zz4 := (s2.below b1).cell 4 _ rfl; have zf := (s2.below b1).free) | (go_at_call 24; refine (ck _ (below_trans bw b1)).mono ?_; rintro e q2 ⟨rfl, b2⟩; have b12 := below_trans b1 b2; have p0 := (s0.below b12).cell 0 _ rfl; have p1 := (s0.below b12).cell 1 _ rfl; have p2 := (s0.below b12).cell 2 _ rfl; have p3 := (s0.below b12).cell 3 _ rfl; have p4 := (s0.below b12).cell 4 _ rfl; have zz0 := (s2.below b12).cell 0 _ rfl; have zz1 := (s2.below b12).cell 1 _ rfl; have zz2 := (s2.below b12).cell 2 _ rfl; have zz3 := (s2.below b12).cell 3 _ rfl; have zz4 := (s2.below b12).cell 4 _ rfl; have zf := (s2.below b12).free) | (go_at_call 25; refine (cl _).mono ?_; rintro e q3 ⟨rfl, rfl⟩))
        obtain ⟨g1, g2⟩ := set5q (s2.below b12) (.slice none 0 0) (.slice none 0 0) (.slice none 0 0) (.slice none 0 0) (.slice none 0 0)
        have J7 := below_set (below_set (below_set (below_set (below_set (below_trans bw b12) (w.heap.size + 1) 0 (.slice none 0 0) (by omega)) (w.heap.size + 1) 1 (.slice none 0 0) (by omega)) (w.heap.size + 1) 2 (.slice none 0 0) (by omega)) (w.heap.size + 1) 3 (.slice none 0 0) (by omega)) (w.heap.size + 1) 4 (.slice none 0 0) (by omega)
        (try simp only [Exit.inBlock, Exit.then])
        refine bodyPost_ret (res_row2 rfl _ _ (w.heap.size + 1) 26 _ (0, 0) _ rfl g1 Try.underlying26 rfl (show _ = some 5 by kernel_rfl)) rfl ?_
        exact ⟨nilDv, rfl, OwQ.nil _, J7⟩
      · rw [act_yes c1 (by decide) (by decide) c2 (fun h => by omega)]
        have hD : doD d 8 (layF d 8) d.code.length (layF d 8).length (ladF 8) = ⟨(d.code ++ [(6, 0)]), d.origs, d.dests, d.loops ++ [((d.code.length : Int), [])], d.cases⟩ := by simp [doD, layF, ladF]
        rw [hD]
        clear hD
        go_enter Try.func11, Try.ntmps11
        go_upto_region 1 with fail
        generalize (w.alloc (.cells #[x0, x1, x2, x3, x4] 26)).alloc (.cells #[.slice none 0 0, .slice none 0 0, .slice none 0 0, .slice none 0 0, .slice none 0 0] 26) = W0 at s0 s2 bw ⊢
        have f0 := s0.cell 0 _ rfl
        have f1 := s0.cell 1 _ rfl
        have f2 := s0.cell 2 _ rfl
        have f3 := s0.cell 3 _ rfl
        have f4 := s0.cell 4 _ rfl
        go_upto_region 9 with (first | (go_at_call 13; refine (cf _ bw).mono ?_; rintro e q1 ⟨rfl, b1⟩; have p0 := (s0.below b1).cell 0 _ rfl; have p1 := (s0.below b1).cell 1 _ rfl; have p2 := (s0.below b1).cell 2 _ rfl; have p3 := (s0.below b1).cell 3 _ rfl; have p4 := (s0.below b1).cell 4 _ rfl; have zz0 := (s2.below b1).cell 0 _ rfl; have zz1 := (s2.below b1).cell 1 _ rfl; have zz2 := (s2.below b1).cell 2 _ rfl; have zz3 := (s2.below b1).cell 3 _ rfl; have zz4 := (s2.below b1).cell 4 _ rfl; have zf := (s2.below b1).free) | (go_at_call 24; refine (ck _ (below_trans bw b1)).mono ?_; rintro e q2 ⟨rfl, b2⟩; have b12 := below_trans b1 b2; have p0 := (s0.below b12).cell 0 _ rfl; have p1 := (s0.below b12).cell 1 _ rfl; have p2 := (s0.below b12).cell 2 _ rfl; have p3 := (s0.below b12).cell 3 _ rfl; have p4 := (s0.below b12).cell 4 _ rfl; have zz0 := (s2.below b12).cell 0 _ rfl; have zz1 := (s2.below b12).cell 1 _ rfl; have zz2 := (s2.below b12).cell 2 _ rfl; have zz3 := (s2.below b12).cell 3 _ rfl; have zz4 := (s2.below b12).cell 4 _ rfl; have zf := (s2.below b12).free) | (go_at_call 25; refine (cl _).mono ?_; rintro e q3 ⟨rfl, rfl⟩) | (go_at_call 9; refine (CC.out _ (below_trans bw b12)).mono ?_; rintro e q4 ⟨v1, t1, t2, t3, rfl, oD, b4⟩; obtain ⟨cs0, r0⟩ := oD.code.row; obtain ⟨ca, cq, e0⟩ := own_form r0; obtain ⟨oa, oq, e1⟩ := own_form oD.origs; obtain ⟨da, dq, e2⟩ := own_form oD.dests; obtain ⟨cs3, r3⟩ := oD.loops.own.row; obtain ⟨la, lq, e3⟩ := own_form r3; obtain ⟨cs4, r4⟩ := oD.cases.own.row; obtain ⟨ka, kq, e4⟩ := own_form r4; obtain ⟨y0, y1, y2, y3, y4⟩ := v1; (try dsimp only at e0 e1 e2 e3 e4); subst e0 e1 e2 e3 e4; simp only [Dv.cs]))
        have bo := box_below q4 (.cells #[.slice ca d.code.length cq, .slice oa d.origs.length oq, .slice da d.dests.length dq, .slice la d.loops.length lq, .slice ka d.cases.length kq] 26)
        have so := stands_new q4 #[.slice ca d.code.length cq, .slice oa d.origs.length oq, .slice da d.dests.length dq, .slice la d.loops.length lq, .slice ka d.cases.length kq] 26
        have oD4 := oD.below bo
        have b15 := below_trans (below_trans b12 b4) bo
        have B15 := below_trans bw b15
        have sz4 := s2.below b15
        obtain ⟨BX, hBX⟩ : ∃ B, q4.heap.size = B := ⟨_, rfl⟩
        have hW0 : w.heap.size + 1 < W0.heap.size := (Array.getElem?_eq_some_iff.1 s2).1
        have hWq : W0.heap.size ≤ q3.heap.size := b12.size
        have hBq : q3.heap.size ≤ BX := by rw [← hBX]; exact b4.size
        have hBs : q3.heap.size ≤ (q4.alloc (.cells #[.slice ca d.code.length cq, .slice oa d.origs.length oq, .slice da d.dests.length dq, .slice la d.loops.length lq, .slice ka d.cases.length kq] 26)).heap.size := Nat.le_trans b4.size bo.size
        obtain ⟨base, hba⟩ : ∃ B, q3.heap.size = B := ⟨_, rfl⟩
        rw [hBX] at so
        simp only [hBX]
        rw [hba] at oD4 hBq hWq hBs
        generalize q4.alloc (.cells #[.slice ca d.code.length cq, .slice oa d.origs.length oq, .slice da d.dests.length dq, .slice la d.loops.length lq, .slice ka d.cases.length kq] 26) = q5 at so oD4 sz4 B15 hBs ⊢
        clear bo b15 oD b4 hba hBX b12 f0 f1 f2 f3 f4 bw s0 s2 r0 r3 r4
        have u0 := so.cell 0 _ rfl
        go_upto_region 11 with fail
        have bX := box_below q5 (.cells #[.int .i64 6, .int .u32 0] 37)
        have oDX := oD4.below bX
        obtain ⟨rows, p1, p2, p3, p4⟩ := oDX.code
        obtain ⟨i9, hi9, hz9, hz8, hz7⟩ := info_parts infoOp10
        have one : ∀ r ∈ [[Value.int .i64 6, .int .u32 0]], ∀ u ∈ r, u.oneCell' = true := fun r hr u hu => by rw [List.mem_singleton] at hr; subst hr; simp at hu; rcases hu with rfl | rfl <;> rfl
        have P1 := hid p1
        have P2 := hid p2
        have P4 := hid p4
        have OX := hid oDX
        clear p1 p2 p4 oDX oD4
        go_upto_region 12 with (at_builtin; refine wpList_append_rows rfl _ _ 22 rfl base 37 i9 _ 2 16 Try.underlying22 hi9 hz9 hz8 hz7 rfl (by decide) _ d.code.length _ rfl p3 _ [[Value.int .i64 6, .int .u32 0]] rfl (slc_one q5 [Value.int .i64 6, .int .u32 0] 37 2 rfl) one (by unfold maxLen; simp only [List.length_singleton]; omega) (by simp only [List.length_singleton]; omega) (Nat.le_trans hBs bX.size) ?_; intro v9 w9 ho9 hg9; obtain ⟨a9, c9, rfl⟩ := own_form ho9; have so9 := Stands.grown (so.below bX) hg9 (stands_apart (so.below bX) p3 (by decide)); have y2 := so9.cell 0 _ rfl; have yg := so9.free 0)
        have kW := Kept.own p3 hg9
        have szF := (Stands.grown (sz4.below bX) hg9 (stands_apart (sz4.below bX) p3 (by decide))).other (b' := BX) 0 (.slice a9 (d.code.length + [[Value.int .i64 6, .int .u32 0]].length) c9) (by omega)
        have oC9 : OwC base w9 (.slice a9 (d.code.length + 1) c9) (d.code ++ [(6, 0)]) := OwnR.snoc (e := 37) (O := opR) opR_apt10 P1.out P2.out p3 P4.out rfl (x := (6, 0)) rfl (by simpa using ho9) hg9
        have oD9 := OX.out.code' kW oC9
        have oDF := oD9.kept (set_kept so9 0 (.slice a9 (d.code.length + [[Value.int .i64 6, .int .u32 0]].length) c9)) (by decide) (by decide) (by decide)
        have soF := so9.set 0 (.slice a9 (d.code.length + [[Value.int .i64 6, .int .u32 0]].length) c9)
        have BF := below_set (below_grown (below_trans B15 bX) hg9 (fun q hq => by have := (p3.lt q hq).1; omega)) BX 0 (.slice a9 (d.code.length + [[Value.int .i64 6, .int .u32 0]].length) c9) (by omega)
        have hsF : base ≤ (w9.setCell ⟨BX, 0, none⟩ (.slice a9 (d.code.length + [[Value.int .i64 6, .int .u32 0]].length) c9)).heap.size := Nat.le_trans hBs (Nat.le_trans bX.size (Nat.le_trans hg9.size (set_kept so9 0 (.slice a9 (d.code.length + [[Value.int .i64 6, .int .u32 0]].length) c9)).size))
        generalize w9.setCell ⟨BX, 0, none⟩ (.slice a9 (d.code.length + [[Value.int .i64 6, .int .u32 0]].length) c9) = q9 at szF oDF soF BF hsF ⊢
        have soF : Stands q9 BX #[.slice a9 (d.code.length + 1) c9, .slice oa d.origs.length oq, .slice da d.dests.length dq, .slice la d.loops.length lq, .slice ka d.cases.length kq] 26 := soF
        clear p3 ho9 hg9 kW oD9 oC9 so9 y2 yg bX so sz4 B15 u0 one OX P1 P2 P4
        have u0 := soF.cell 0 _ rfl
        have u1 := soF.cell 1 _ rfl
        have u2 := soF.cell 2 _ rfl
        have u3 := soF.cell 3 _ rfl
        have u4 := soF.cell 4 _ rfl
        go_upto_region 13 with fail
        have bd : Below q9.heap.size q9 q9.drew := below_drewN (Below.refl q9.heap.size q9) 1
        have soD := soF.below bd
        have szD := szF.below bd
        have oDD := oDF.below bd
        have BD := below_trans BF bd
        have hsD := Nat.le_trans hsF bd.size
        clear oDF
        go_region
        go_upto_region 32 with fail
        generalize q9.drew = q10 at soD szD oDD BD hsD bd ⊢
        clear soF szF BF hsF u0 u1 u2 u3 u4 bd
        have u0 := soD.cell 3 _ rfl
        have bX := box_below q10 (.cells #[.int .i64 (d.code.length : Int), .slice none 0 0] 58)
        have oDX := oDD.below bX
        have l1 := oDX.le1
        have l2 := oDX.le2
        have l3 := oDX.le3
        obtain ⟨rows, p1, p2, p3, p4⟩ := oDX.loops.owe (base := base) (by omega)
        have prA := oDX.loops.rng
        obtain ⟨i9n, hi9n, hz9n, hz8n, hz7n⟩ := info_parts infoOn10
        have one : ∀ r ∈ [[Value.int .i64 (d.code.length : Int), .slice none 0 0]], ∀ u ∈ r, u.oneCell' = true := fun r hr u hu => by rw [List.mem_singleton] at hr; subst hr; simp at hu; rcases hu with rfl | rfl <;> rfl
        have ze1 := ze.loops
        have soX := soD.below bX
        have szX := szD.below bX
        have P1 := hid p1
        have P2 := hid p2
        have P4 := hid p4
        have OX := hid oDX
        clear p1 p2 p4 oDX oDD l1 l2 l3
        go_upto_region 52 with (at_builtin; refine wpList_append_rowsB rfl _ _ 24 rfl base 58 i9n _ 2 32 Try.underlying24 hi9n hz9n hz8n hz7n rfl (by decide) _ d.loops.length _ rfl p3 _ [[Value.int .i64 (d.code.length : Int), .slice none 0 0]] rfl (slc_one q10 [Value.int .i64 (d.code.length : Int), .slice none 0 0] 58 2 rfl) one (by unfold maxLen; simp only [List.length_singleton]; omega) (by simp only [List.length_singleton]; omega) (Nat.le_trans hsD bX.size) ?_; intro v9 w9 ho9 hg9; obtain ⟨a8, c8, rfl⟩ := own_form ho9; have so9 := Stands.grown soX hg9 (stands_apart soX p3 (by decide)); have y2 := so9.cell 3 _ rfl; have yg := so9.free 3)
        have soZ := so9.set 3 (.slice a8 (d.loops.length + [[Value.int .i64 (d.code.length : Int), .slice none 0 0]].length) c8)
        have szZ := (Stands.grown szX hg9 (stands_apart szX p3 (by decide))).other (b' := BX) 3 (.slice a8 (d.loops.length + [[Value.int .i64 (d.code.length : Int), .slice none 0 0]].length) c8) (by omega)
        have nR : OwnR 58 2 (opnO base) base w9 (.slice a8 (d.loops.length + 1) c8) (d.loops ++ [((d.code.length : Int), [])]) := OwnR.snoc (e := 58) (O := opnO base) (opnO_apt (by decide)) P1.out P2.out p3 P4.out rfl (x := ((d.code.length : Int), [])) ⟨.slice none 0 0, rfl, World.ownsRow_nil _ _ _ _⟩ (by simpa using ho9) hg9
        have oE9 := OwD.toL OX.out (Out.grown hg9 prA) (OwnR.kept OX.out.code (Kept.own p3 hg9) (by decide) opR_apt10) nR
        have oEZ := oE9.kept (set_kept so9 3 (.slice a8 (d.loops.length + [[Value.int .i64 (d.code.length : Int), .slice none 0 0]].length) c8)) (by decide) (by decide) (by decide)
        have BZ := below_set (below_grown (below_trans BD bX) hg9 (fun q hq => by have := (p3.lt q hq).1; omega)) BX 3 (.slice a8 (d.loops.length + [[Value.int .i64 (d.code.length : Int), .slice none 0 0]].length) c8) (by omega)
        generalize w9.setCell ⟨BX, 3, none⟩ (.slice a8 (d.loops.length + [[Value.int .i64 (d.code.length : Int), .slice none 0 0]].length) c8) = qz at soZ szZ oEZ BZ ⊢
        have soZ : Stands qz BX #[.slice a9 (d.code.length + 1) c9, .slice oa d.origs.length oq, .slice da d.dests.length dq, .slice a8 (d.loops.length + 1) c8, .slice ka d.cases.length kq] 26 := soZ
        clear oE9 so9 y2 yg ho9 hg9 p3 soX soD szX szD BD bX OX P1 P2 P4 nR prA one
        have u0 := soZ.cell 0 _ rfl
        have u1 := soZ.cell 1 _ rfl
        have u2 := soZ.cell 2 _ rfl
        have u3 := soZ.cell 3 _ rfl
        have u4 := soZ.cell 4 _ rfl
        have zz0 := szZ.cell 0 _ rfl
        have zz1 := szZ.cell 1 _ rfl
        have zz2 := szZ.cell 2 _ rfl
        have zz3 := szZ.cell 3 _ rfl
        have zz4 := szZ.cell 4 _ rfl
        have zf := szZ.free
        obtain ⟨g1, g2⟩ := set5q szZ (.slice a9 (d.code.length + 1) c9) (.slice oa d.origs.length oq) (.slice da d.dests.length dq) (.slice a8 (d.loops.length + 1) c8) (.slice ka d.cases.length kq)
        have G1 := hid g1
        have GM := hid (g2 (fun u => OwE base u ⟨.slice a9 (d.code.length + 1) c9, .slice oa d.origs.length oq, .slice da d.dests.length dq, .slice a8 (d.loops.length + 1) c8, .slice ka d.cases.length kq⟩ ⟨(d.code ++ [(6, 0)]), d.origs, d.dests, d.loops ++ [((d.code.length : Int), [])], d.cases⟩) (fun u u' kk q => q.kept kk (by decide) (by decide) (by decide)) oEZ)
        have J7 : Hid (Below w.heap.size w _) := below_set (below_set (below_set (below_set (below_set (BZ) (w.heap.size + 1) 0 (.slice a9 (d.code.length + 1) c9) (by omega)) (w.heap.size + 1) 1 (.slice oa d.origs.length oq) (by omega)) (w.heap.size + 1) 2 (.slice da d.dests.length dq) (by omega)) (w.heap.size + 1) 3 (.slice a8 (d.loops.length + 1) c8) (by omega)) (w.heap.size + 1) 4 (.slice ka d.cases.length kq) (by omega)
        clear g1 g2 oEZ BZ szZ soZ
        go_wp2_with fail
        (try simp only [Exit.inBlock, Exit.then])
        refine bodyPost_ret (res_row2 rfl _ _ (w.heap.size + 1) 26 _ (0, 0) _ rfl G1.out Try.underlying26 rfl (show _ = some 5 by kernel_rfl)) rfl ?_
        exact ⟨⟨.slice a9 (d.code.length + 1) c9, .slice oa d.origs.length oq, .slice da d.dests.length dq, .slice a8 (d.loops.length + 1) c8, .slice ka d.cases.length kq⟩, rfl, ⟨_, GM.out⟩, J7.out⟩
end Go.Proofs.Ytfmpeminfcehaaa
