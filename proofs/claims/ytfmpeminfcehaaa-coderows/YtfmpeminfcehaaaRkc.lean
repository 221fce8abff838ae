/-
  Act of the document's answer for code: acts 9, 10.
-/
import Derived.Test.YtfmpeminfcehaaaRk8
namespace Go.Proofs.Ytfmpeminfcehaaa
open Go.ChangeShapes Go.WideShapes Go.ChangeAt Go.RowKit
set_option linter.unusedVariables false
set_option linter.unusedSimpArgs false

set_option maxHeartbeats 8000000 in
set_option maxRecDepth 100000 in
theorem w_r10act9 (v : Dv) (d : Dft) (w : World) (h : RdD w v d) (z : szD d) (ze : szE d) :
    Calls Try.prog 11 #[.agg v.cs, .int .i64 9] w fun e w' => ∃ v1, e = .returned (.tuple #[.agg (Dv.cs v1), .int .i64 (actD d 9).2]) ∧ OwQ w' v1 (actD d 9).1 ∧ Below w.heap.size w w' := by
  have cf := fun W (b : Below w.heap.size w W) => w_r10formed v d W (h.below b)
  have ck := fun W (b : Below w.heap.size w W) => w_r10lacks v d 9 W (h.below b) (by decide) (by decide)
  have cl := fun W => w_r10laid 9 W (by decide) (by decide)
  rw [show ladF 9 = 7 from rfl] at cl
  have cc := fun W (b : Below w.heap.size w W) => w_r10copy v d W (h.below b) z
  have l0 := slr_len h.code uO (P := Try.prog)
  have m1 := rd_maxI h.origs
  have m2 := rd_maxI h.dests
  have m3 := slr_max h.loops
  have m4 := slr_max h.cases
  unfold maxLen at m1 m2 m3 m4
  have s0 := (stands_new w v.cs 26).below (box_below _ (.cells #[.slice none 0 0, .slice none 0 0, .slice none 0 0, .slice none 0 0, .slice none 0 0] 26))
  have s2 := stands_new (w.alloc (.cells v.cs 26)) #[.slice none 0 0, .slice none 0 0, .slice none 0 0, .slice none 0 0, .slice none 0 0] 26
  rw [size_al] at s2
  have bw := below_trans (box_below w (.cells v.cs 26)) (box_below _ (.cells #[.slice none 0 0, .slice none 0 0, .slice none 0 0, .slice none 0 0, .slice none 0 0] 26))
  have CC := hid cc
  clear cc z h
  obtain ⟨x0, x1, x2, x3, x4⟩ := v
  simp only [Dv.cs] at cf ck s0 s2 bw l0 CC ⊢
  cases c1 : frmD d with
  | false =>
    rw [act_no1 c1]
    simp only [c1] at cf
    clear ck m1 m2 m3 m4
    go_enter Try.func11, Try.ntmps11
    go_upto_region 1 with fail
    generalize (w.alloc (.cells #[x0, x1, x2, x3, x4] 26)).alloc (.cells #[.slice none 0 0, .slice none 0 0, .slice none 0 0, .slice none 0 0, .slice none 0 0] 26) = W0 at s0 s2 bw ⊢
    have f0 := s0.cell 0 _ rfl
    have f1 := s0.cell 1 _ rfl
    have f2 := s0.cell 2 _ rfl
    have f3 := s0.cell 3 _ rfl
    have f4 := s0.cell 4 _ rfl
    go_wp2_with (first | (go_at_call 13; refine (cf _ bw).mono ?_; rintro e q1 ⟨rfl, b1⟩; have p0 := (s0.below b1).cell 0 _ rfl; have p1 := (s0.below b1).cell 1 _ rfl; have p2 := (s0.below b1).cell 2 _ rfl; have p3 := (s0.below b1).cell 3 _ rfl; have p4 := (s0.below b1).cell 4 _ rfl; have zz0 := (s2.below b1).cell 0 _ rfl; have zz1 := (s2.below b1).cell 1 _ rfl; have zz2 := (s2.below b1).cell 2 _ rfl; have zz3 := (s2.below b1).cell 3 _ rfl; have zz4 := (s2.below b1).cell 4 _ rfl; have zf := (s2.below b1).free))
    obtain ⟨g1, g2⟩ := set5q (s2.below b1) (.slice none 0 0) (.slice none 0 0) (.slice none 0 0) (.slice none 0 0) (.slice none 0 0)
    have J7 := below_set (below_set (below_set (below_set (below_set (below_trans bw b1) (w.heap.size + 1) 0 (.slice none 0 0) (by omega)) (w.heap.size + 1) 1 (.slice none 0 0) (by omega)) (w.heap.size + 1) 2 (.slice none 0 0) (by omega)) (w.heap.size + 1) 3 (.slice none 0 0) (by omega)) (w.heap.size + 1) 4 (.slice none 0 0) (by omega)
    (try simp only [Exit.inBlock, Exit.then])
    refine bodyPost_ret (res_row2 rfl _ _ (w.heap.size + 1) 26 _ (0, 0) _ rfl g1 Try.underlying26 rfl (show _ = some 5 by kernel_rfl)) rfl ?_
    exact ⟨nilDv, rfl, OwQ.nil _, J7⟩
  | true =>
    simp only [c1] at cf
    cases c2 : lakF d 9 with
    | true =>
      rw [act_no2 c1 (by decide) (by decide) c2]
      simp only [c2] at ck
      clear m1 m2 m3 m4
      go_enter Try.func11, Try.ntmps11
      go_upto_region 1 with fail
      generalize (w.alloc (.cells #[x0, x1, x2, x3, x4] 26)).alloc (.cells #[.slice none 0 0, .slice none 0 0, .slice none 0 0, .slice none 0 0, .slice none 0 0] 26) = W0 at s0 s2 bw ⊢
      have f0 := s0.cell 0 _ rfl
      have f1 := s0.cell 1 _ rfl
      have f2 := s0.cell 2 _ rfl
      have f3 := s0.cell 3 _ rfl
      have f4 := s0.cell 4 _ rfl
      go_wp2_with (first | (go_at_call 13; refine (cf _ bw).mono ?_; rintro e q1 ⟨rfl, b1⟩; have p0 := (s0.below b1).cell 0 _ rfl; have p1 := (s0.below b1).cell 1 _ rfl; have p2 := (s0.below b1).cell 2 _ rfl; have p3 := (s0.below b1).cell 3 _ rfl; have p4 := (s0.below b1).cell 4 _ rfl; have zz0 := (s2.below b1).cell 0 _ rfl; have zz1 := (s2.below b1).cell 1 _ rfl; have zz2 := (s2.below b1).cell 2 _ rfl; have zz3 := (s2.below b1).cell 3 _ rfl; have zz4 := (s2.below b1).cell 4 _ rfl; have zf := (s2.below b1).free) | (go_at_call 24; refine (ck _ (below_trans bw b1)).mono ?_; rintro e q2 ⟨rfl, b2⟩; have b12 := below_trans b1 b2; have p0 := (s0.below b12).cell 0 _ rfl; have p1 := (s0.below b12).cell 1 _ rfl; have p2 := (s0.below b12).cell 2 _ rfl; have p3 := (s0.below b12).cell 3 _ rfl; have p4 := (s0.below b12).cell 4 _ rfl; have zz0 := (s2.below b12).cell 0 _ rfl; have zz1 := (s2.below b12).cell 1 _ rfl; have zz2 := (s2.below b12).cell 2 _ rfl; have zz3 := (s2.below b12).cell 3 _ rfl; have zz4 := (s2.below b12).cell 4 _ rfl; have zf := (s2.below b12).free))
      obtain ⟨g1, g2⟩ := set5q (s2.below b12) (.slice none 0 0) (.slice none 0 0) (.slice none 0 0) (.slice none 0 0) (.slice none 0 0)
      have J7 := below_set (below_set (below_set (below_set (below_set (below_trans bw b12) (w.heap.size + 1) 0 (.slice none 0 0) (by omega)) (w.heap.size + 1) 1 (.slice none 0 0) (by omega)) (w.heap.size + 1) 2 (.slice none 0 0) (by omega)) (w.heap.size + 1) 3 (.slice none 0 0) (by omega)) (w.heap.size + 1) 4 (.slice none 0 0) (by omega)
      (try simp only [Exit.inBlock, Exit.then])
      refine bodyPost_ret (res_row2 rfl _ _ (w.heap.size + 1) 26 _ (0, 0) _ rfl g1 Try.underlying26 rfl (show _ = some 5 by kernel_rfl)) rfl ?_
      exact ⟨nilDv, rfl, OwQ.nil _, J7⟩
    | false =>
      simp only [c2] at ck
      by_cases c3 : (256 : Int) ≤ d.code.length
      · rw [act_no3 c1 (by decide) (by decide) c2 (by decide) (by omega)]
        clear m1 m2 m3 m4
        go_enter Try.func11, Try.ntmps11
        go_upto_region 1 with fail
        generalize (w.alloc (.cells #[x0, x1, x2, x3, x4] 26)).alloc (.cells #[.slice none 0 0, .slice none 0 0, .slice none 0 0, .slice none 0 0, .slice none 0 0] 26) = W0 at s0 s2 bw ⊢
        have f0 := s0.cell 0 _ rfl
        have f1 := s0.cell 1 _ rfl
        have f2 := s0.cell 2 _ rfl
        have f3 := s0.cell 3 _ rfl
        have f4 := s0.cell 4 _ rfl
        go_wp2_with (first | (go_at_call 13; refine (cf _ bw).mono ?_; rintro e q1 ⟨rfl, b1⟩; have p0 := (s0.below b1).cell 0 _ rfl; have p1 := (s0.below b1).cell 1 _ rfl; have p2 := (s0.below b1).cell 2 _ rfl; have p3 := (s0.below b1).cell 3 _ rfl; have p4 := (s0.below b1).cell 4 _ rfl; have zz0 := (s2.below b1).cell 0 _ rfl; have zz1 := (s2.below b1).cell 1 _ rfl; have zz2 := (s2.below b1).cell 2 _ rfl; have zz3 := (s2.below b1).cell 3 _ rfl; have zz4 := (s2.below b1).cell 4 _ rfl; have zf := (s2.below b1).free) | (go_at_call 24; refine (ck _ (below_trans bw b1)).mono ?_; rintro e q2 ⟨rfl, b2⟩; have b12 := below_trans b1 b2; have p0 := (s0.below b12).cell 0 _ rfl; have p1 := (s0.below b12).cell 1 _ rfl; have p2 := (s0.below b12).cell 2 _ rfl; have p3 := (s0.below b12).cell 3 _ rfl; have p4 := (s0.below b12).cell 4 _ rfl; have zz0 := (s2.below b12).cell 0 _ rfl; have zz1 := (s2.below b12).cell 1 _ rfl; have zz2 := (s2.below b12).cell 2 _ rfl; have zz3 := (s2.below b12).cell 3 _ rfl; have zz4 := (s2.below b12).cell 4 _ rfl; have zf := (s2.below b12).free) | (go_at_call 25; refine (cl _).mono ?_; rintro e q3 ⟨rfl, rfl⟩))
        obtain ⟨g1, g2⟩ := set5q (s2.below b12) (.slice none 0 0) (.slice none 0 0) (.slice none 0 0) (.slice none 0 0) (.slice none 0 0)
        have J7 := below_set (below_set (below_set (below_set (below_set (below_trans bw b12) (w.heap.size + 1) 0 (.slice none 0 0) (by omega)) (w.heap.size + 1) 1 (.slice none 0 0) (by omega)) (w.heap.size + 1) 2 (.slice none 0 0) (by omega)) (w.heap.size + 1) 3 (.slice none 0 0) (by omega)) (w.heap.size + 1) 4 (.slice none 0 0) (by omega)
        (try simp only [Exit.inBlock, Exit.then])
        refine bodyPost_ret (res_row2 rfl _ _ (w.heap.size + 1) 26 _ (0, 0) _ rfl g1 Try.underlying26 rfl (show _ = some 5 by kernel_rfl)) rfl ?_
        exact ⟨nilDv, rfl, OwQ.nil _, J7⟩
      · rw [act_yes c1 (by decide) (by decide) c2 (fun h => by omega)]
        have hD : doD d 9 (layF d 9) d.code.length (layF d 9).length (ladF 9) = ⟨aimF (setN (d.code ++ [(7, 0)]) (d.code.length : Int) ((nwO d.loops).1 + 1)) ((nwO d.loops).2 ++ [(nwO d.loops).1]) ((d.code.length : Int) + 1), d.origs, d.dests, d.loops.take (d.loops.length - 1), d.cases⟩ := by simp [doD, layF, ladF]
        rw [hD]
        clear hD
        go_enter Try.func11, Try.ntmps11
        go_upto_region 1 with fail
        generalize (w.alloc (.cells #[x0, x1, x2, x3, x4] 26)).alloc (.cells #[.slice none 0 0, .slice none 0 0, .slice none 0 0, .slice none 0 0, .slice none 0 0] 26) = W0 at s0 s2 bw ⊢
        have f0 := s0.cell 0 _ rfl
        have f1 := s0.cell 1 _ rfl
        have f2 := s0.cell 2 _ rfl
        have f3 := s0.cell 3 _ rfl
        have f4 := s0.cell 4 _ rfl
        go_upto_region 9 with (first | (go_at_call 13; refine (cf _ bw).mono ?_; rintro e q1 ⟨rfl, b1⟩; have p0 := (s0.below b1).cell 0 _ rfl; have p1 := (s0.below b1).cell 1 _ rfl; have p2 := (s0.below b1).cell 2 _ rfl; have p3 := (s0.below b1).cell 3 _ rfl; have p4 := (s0.below b1).cell 4 _ rfl; have zz0 := (s2.below b1).cell 0 _ rfl; have zz1 := (s2.below b1).cell 1 _ rfl; have zz2 := (s2.below b1).cell 2 _ rfl; have zz3 := (s2.below b1).cell 3 _ rfl; have zz4 := (s2.below b1).cell 4 _ rfl; have zf := (s2.below b1).free) | (go_at_call 24; refine (ck _ (below_trans bw b1)).mono ?_; rintro e q2 ⟨rfl, b2⟩; have b12 := below_trans b1 b2; have p0 := (s0.below b12).cell 0 _ rfl; have p1 := (s0.below b12).cell 1 _ rfl; have p2 := (s0.below b12).cell 2 _ rfl; have p3 := (s0.below b12).cell 3 _ rfl; have p4 := (s0.below b12).cell 4 _ rfl; have zz0 := (s2.below b12).cell 0 _ rfl; have zz1 := (s2.below b12).cell 1 _ rfl; have zz2 := (s2.below b12).cell 2 _ rfl; have zz3 := (s2.below b12).cell 3 _ rfl; have zz4 := (s2.below b12).cell 4 _ rfl; have zf := (s2.below b12).free) | (go_at_call 25; refine (cl _).mono ?_; rintro e q3 ⟨rfl, rfl⟩) | (go_at_call 9; refine (CC.out _ (below_trans bw b12)).mono ?_; rintro e q4 ⟨v1, t1, t2, t3, rfl, oD, b4⟩; obtain ⟨cs0, r0⟩ := oD.code.row; obtain ⟨ca, cq, e0⟩ := own_form r0; obtain ⟨oa, oq, e1⟩ := own_form oD.origs; obtain ⟨da, dq, e2⟩ := own_form oD.dests; obtain ⟨cs3, r3⟩ := oD.loops.own.row; obtain ⟨la, lq, e3⟩ := own_form r3; obtain ⟨cs4, r4⟩ := oD.cases.own.row; obtain ⟨ka, kq, e4⟩ := own_form r4; obtain ⟨y0, y1, y2, y3, y4⟩ := v1; (try dsimp only at e0 e1 e2 e3 e4); subst e0 e1 e2 e3 e4; simp only [Dv.cs]))
        have bo := box_below q4 (.cells #[.slice ca d.code.length cq, .slice oa d.origs.length oq, .slice da d.dests.length dq, .slice la d.loops.length lq, .slice ka d.cases.length kq] 26)
        have so := stands_new q4 #[.slice ca d.code.length cq, .slice oa d.origs.length oq, .slice da d.dests.length dq, .slice la d.loops.length lq, .slice ka d.cases.length kq] 26
        have oD4 := oD.below bo
        have b15 := below_trans (below_trans b12 b4) bo
        have B15 := below_trans bw b15
        have sz4 := s2.below b15
        obtain ⟨BX, hBX⟩ : ∃ B, q4.heap.size = B := ⟨_, rfl⟩
        have hW0 : w.heap.size + 1 < W0.heap.size := (Array.getElem?_eq_some_iff.1 s2).1
        have hWq : W0.heap.size ≤ q3.heap.size := b12.size
        have hBq : q3.heap.size ≤ BX := by rw [← hBX]; exact b4.size
        have hBs : q3.heap.size ≤ (q4.alloc (.cells #[.slice ca d.code.length cq, .slice oa d.origs.length oq, .slice da d.dests.length dq, .slice la d.loops.length lq, .slice ka d.cases.length kq] 26)).heap.size := Nat.le_trans b4.size bo.size
        obtain ⟨base, hba⟩ : ∃ B, q3.heap.size = B := ⟨_, rfl⟩
        rw [hBX] at so
        simp only [hBX]
        rw [hba] at oD4 hBq hWq hBs
        generalize q4.alloc (.cells #[.slice ca d.code.length cq, .slice oa d.origs.length oq, .slice da d.dests.length dq, .slice la d.loops.length lq, .slice ka d.cases.length kq] 26) = q5 at so oD4 sz4 B15 hBs ⊢
        clear bo b15 oD b4 hba hBX b12 f0 f1 f2 f3 f4 bw s0 s2 r0 r3 r4
        have u0 := so.cell 0 _ rfl
        go_upto_region 11 with fail
        have bX := box_below q5 (.cells #[.int .i64 7, .int .u32 0] 37)
        have oDX := oD4.below bX
        obtain ⟨rows, p1, p2, p3, p4⟩ := oDX.code
        obtain ⟨i9, hi9, hz9, hz8, hz7⟩ := info_parts infoOp10
        have one : ∀ r ∈ [[Value.int .i64 7, .int .u32 0]], ∀ u ∈ r, u.oneCell' = true := fun r hr u hu => by rw [List.mem_singleton] at hr; subst hr; simp at hu; rcases hu with rfl | rfl <;> rfl
        have P1 := hid p1
        have P2 := hid p2
        have P4 := hid p4
        have OX := hid oDX
        clear p1 p2 p4 oDX oD4
        go_upto_region 12 with (at_builtin; refine wpList_append_rows rfl _ _ 22 rfl base 37 i9 _ 2 16 Try.underlying22 hi9 hz9 hz8 hz7 rfl (by decide) _ d.code.length _ rfl p3 _ [[Value.int .i64 7, .int .u32 0]] rfl (slc_one q5 [Value.int .i64 7, .int .u32 0] 37 2 rfl) one (by unfold maxLen; simp only [List.length_singleton]; omega) (by simp only [List.length_singleton]; omega) (Nat.le_trans hBs bX.size) ?_; intro v9 w9 ho9 hg9; obtain ⟨a9, c9, rfl⟩ := own_form ho9; have so9 := Stands.grown (so.below bX) hg9 (stands_apart (so.below bX) p3 (by decide)); have y2 := so9.cell 0 _ rfl; have yg := so9.free 0)
        have kW := Kept.own p3 hg9
        have szF := (Stands.grown (sz4.below bX) hg9 (stands_apart (sz4.below bX) p3 (by decide))).other (b' := BX) 0 (.slice a9 (d.code.length + [[Value.int .i64 7, .int .u32 0]].length) c9) (by omega)
        have oC9 : OwC base w9 (.slice a9 (d.code.length + 1) c9) (d.code ++ [(7, 0)]) := OwnR.snoc (e := 37) (O := opR) opR_apt10 P1.out P2.out p3 P4.out rfl (x := (7, 0)) rfl (by simpa using ho9) hg9
        have oD9 := OX.out.code' kW oC9
        have oDF := oD9.kept (set_kept so9 0 (.slice a9 (d.code.length + [[Value.int .i64 7, .int .u32 0]].length) c9)) (by decide) (by decide) (by decide)
        have soF := so9.set 0 (.slice a9 (d.code.length + [[Value.int .i64 7, .int .u32 0]].length) c9)
        have BF := below_set (below_grown (below_trans B15 bX) hg9 (fun q hq => by have := (p3.lt q hq).1; omega)) BX 0 (.slice a9 (d.code.length + [[Value.int .i64 7, .int .u32 0]].length) c9) (by omega)
        have hsF : base ≤ (w9.setCell ⟨BX, 0, none⟩ (.slice a9 (d.code.length + [[Value.int .i64 7, .int .u32 0]].length) c9)).heap.size := Nat.le_trans hBs (Nat.le_trans bX.size (Nat.le_trans hg9.size (set_kept so9 0 (.slice a9 (d.code.length + [[Value.int .i64 7, .int .u32 0]].length) c9)).size))
        generalize w9.setCell ⟨BX, 0, none⟩ (.slice a9 (d.code.length + [[Value.int .i64 7, .int .u32 0]].length) c9) = q9 at szF oDF soF BF hsF ⊢
        have soF : Stands q9 BX #[.slice a9 (d.code.length + 1) c9, .slice oa d.origs.length oq, .slice da d.dests.length dq, .slice la d.loops.length lq, .slice ka d.cases.length kq] 26 := soF
        clear p3 ho9 hg9 kW oD9 oC9 so9 y2 yg bX so sz4 B15 u0 one OX P1 P2 P4
        have u0 := soF.cell 0 _ rfl
        have u1 := soF.cell 1 _ rfl
        have u2 := soF.cell 2 _ rfl
        have u3 := soF.cell 3 _ rfl
        have u4 := soF.cell 4 _ rfl
        go_upto_region 13 with fail
        have hp := lak_l (Or.inl rfl) c2
        obtain ⟨hin, hins⟩ := frm_l c1 hp
        have hcl := frm_code c1
        have hc9 : (d.code ++ [(7, 0)]).length = d.code.length + 1 := by simp
        obtain ⟨csr, rC0⟩ := oDF.code.row
        obtain ⟨gc, cz, ez⟩ := own_some rC0 (by rw [hc9]; omega)
        obtain ⟨rfl, rfl⟩ := slice_inj ez
        clear ez
        clear rC0 csr
        obtain ⟨csr, ror⟩ := oDF.loops.own.row
        obtain ⟨gl, cz, ez⟩ := own_some ror hp
        obtain ⟨rfl, rfl⟩ := slice_inj ez
        clear ez
        clear ror csr
        have bd : Below q9.heap.size q9 q9.drew := below_drewN (Below.refl q9.heap.size q9) 1
        have soD := soF.below bd
        have szD := szF.below bd
        have oDD := oDF.below bd
        have BD := below_trans BF bd
        have hsD := Nat.le_trans hsF bd.size
        clear oDF
        go_region
        go_upto_region 35 with fail
        generalize q9.drew = q10 at soD szD oDD BD hsD bd ⊢
        clear soF szF BF hsF u0 u1 u2 u3 u4 bd
        have u1 := soD.cell 3 _ rfl
        obtain ⟨gx, cx, rowsNn, vo, Nn⟩ := oDD.loops.newest hp
        obtain ⟨hgx, rfl⟩ := slice_inj Nn.form
        cases hgx
        obtain ⟨va, vq, rfl⟩ := own_form Nn.outs
        have ix := idx_opn gl d.loops.length lq hp
        have cO := Nn.cellO
        have cA0 := Nn.cellA
        have cu := cut_opn gl d.loops.length lq hp (own_cap Nn.own)
        have sx := stands_new q10 #[.int .i64 (nwO d.loops).1, .slice va (nwO d.loops).2.length vq] 58
        have bx := box_below q10 (.cells #[.int .i64 (nwO d.loops).1, .slice va (nwO d.loops).2.length vq] 58)
        have so11 := soD.below bx
        have sz11 := szD.below bx
        have B11 := below_trans BD bx
        have oD11 := oDD.below bx
        have hs11 := Nat.le_trans hsD bx.size
        have N11 := Nn.kept hp (Kept.below (T := 35) bx) (by decide) (by decide)
        have UB : Hid (Out t2 t3 q10 _) := Out.below bx
        have O0 := hid oDD
        have HN := hid N11
        have OD := hid oD11
        clear oDD Nn N11 oD11
        go_upto_region 36 with fail
        obtain ⟨BY, hBY⟩ : ∃ B, q10.heap.size = B := ⟨_, rfl⟩
        have hBB : base ≤ BY := by rw [← hBY]; exact hsD
        rw [hBY] at sx
        (try simp only [hBY])
        have N11 := HN.out
        have oD11 := OD.out
        have UB := UB.out
        clear HN OD
        generalize q10.alloc (.cells #[.int .i64 (nwO d.loops).1, .slice va (nwO d.loops).2.length vq] 58) = q11 at sx bx so11 sz11 B11 oD11 hs11 N11 UB ⊢
        clear soD szD BD hsD u1 cO cA0 ix bx hBY
        have u0 := so11.cell 0 _ rfl
        have v0 := sx.cell 0 _ rfl
        have iy := idx_op gc (d.code.length + 1) c9 d.code.length (by omega)
        have hwr := wrap32 ((nwO d.loops).1 + 1) (by omega) (by omega)
        obtain ⟨csr, rC⟩ := oD11.code.row
        have oc0 : OwC base q11 (.slice (some ⟨gc, 0, none⟩) (d.code ++ [(7, 0)]).length c9) (d.code ++ [(7, 0)]) := by rw [hc9]; exact oD11.code
        obtain ⟨s1, ⟨uy, y1⟩, y2⟩ := OwC.put oc0 d.code.length (by rw [hc9]; omega) ((nwO d.loops).1 + 1)
        have hg1 : q11.grownBy (q11.setCell ⟨gc, d.code.length * 2 + 1, none⟩ (.int .u32 ((nwO d.loops).1 + 1))) (some gc) := gb_set (gb_refl q11 _) _ _
        have k1 := Kept.own rC hg1
        have so12 := stands_kept k1 (by decide) so11
        have sz12 := stands_kept k1 (by decide) sz11
        have sx12 := stands_kept k1 (by decide) sx
        have B12 := below_grown B11 hg1 (fun q hq => by have := (rC.lt q hq).1; omega)
        have N12 := hid (N11.kept hp k1 (by decide) (by decide))
        have hs12 := Nat.le_trans hs11 hg1.size
        have U12 := hid (UB.trans (Out.kept k1 (by decide) (by decide)))
        have S1 := hid s1
        have l1 := oD11.le1
        have l2 := oD11.le2
        have l3 := oD11.le3
        clear oD11 N11 UB rC s1 oc0 k1 hg1
        go_upto_region 37 with fail
        have N12 := N12.out
        have U12 := U12.out
        have s1 := S1.out
        clear S1
        generalize q11.setCell ⟨gc, d.code.length * 2 + 1, none⟩ (.int .u32 ((nwO d.loops).1 + 1)) = q12 at so12 sz12 sx12 B12 N12 U12 hs12 s1 ⊢
        clear so11 sz11 B11 hs11 sx u0 v0 y1 y2 csr
        have v0 := sx12.cell 0 _ rfl
        have v1 := sx12.cell 1 _ rfl
        have bX := box_below q12 (.cells #[.int .i64 (nwO d.loops).1] 3)
        have N13 := N12.kept hp (Kept.below (T := 35) bX) (by decide) (by decide)
        have soX := so12.below bX
        have szX := sz12.below bX
        have ocX : OwC base _ (.slice (some ⟨gc, 0, none⟩) (d.code ++ [(7, 0)]).length c9) (setN (d.code ++ [(7, 0)]) (d.code.length : Int) ((nwO d.loops).1 + 1)) := OwnR.below s1 bX (fun _ _ q => q)
        have hC2 : (setN (d.code ++ [(7, 0)]) (d.code.length : Int) ((nwO d.loops).1 + 1)).length = d.code.length + 1 := by rw [set_len, hc9]
        have pX := own_le (b := base) (by omega) N13.outs
        have hsX := Nat.le_trans hs12 bX.size
        obtain ⟨i8, hi8, hz6, hz5, hz4⟩ := info_parts infoJ10
        have zo := ze.louts _ (nwO_mem (List.length_pos_iff.1 hp))
        have UX := hid (U12.trans (Out.below bX))
        have NX := hid N13
        have OX := hid ocX
        have rng := N13.rng
        have BX2 := below_trans B12 bX
        have hrl : ∀ n ∈ ((nwO d.loops).2 ++ [(nwO d.loops).1]), 0 ≤ n ∧ n < ((setN (d.code ++ [(7, 0)]) (d.code.length : Int) ((nwO d.loops).1 + 1)).length : Int) := by
          intro n hn
          rw [hC2]
          rcases List.mem_append.1 hn with hn | hn
          · have := hins n hn; omega
          · rw [List.mem_singleton] at hn; rw [hn]; omega
        have HI := hid hrl
        clear N12 N13 U12 s1 ocX hins hrl
        go_upto_region 38 with (first | (at_builtin; refine wpList_append_rd (k := .i64) rfl _ _ 23 rfl base 3 i8 8 Try.underlying23 hi8 hz6 hz5 hz4 _ (nwO d.loops).2 rfl pX _ [(nwO d.loops).1] rfl (rd_one q12 (nwO d.loops).1 3) (by unfold maxLen; simp; omega) (by simp; omega) hsX ?_; intro v9 w9 ho9 hg9; have so9 := Stands.grown soX hg9 (stands_apart soX pX (by decide)); have oc9 : OwC base w9 (.slice (some ⟨gc, 0, none⟩) (d.code ++ [(7, 0)]).length c9) (setN (d.code ++ [(7, 0)]) (d.code.length : Int) ((nwO d.loops).1 + 1)) := OwnR.kept OX.out (Kept.own pX hg9) (by decide) opR_apt10; obtain ⟨csr, rC9⟩ := OwnR.row oc9; have hBg : BX ≠ gc := fun e => stands_apart so9 rC9 (by decide) (by rw [e]; rfl); have cA := w_r10aim base BX gc c9 _ _ _ _ v9 (setN (d.code ++ [(7, 0)]) (d.code.length : Int) ((nwO d.loops).1 + 1)) ((nwO d.loops).2 ++ [(nwO d.loops).1]) ((d.code.length : Int) + 1) w9 (by rw [hC2]; exact so9) (by rw [hC2]; rw [hc9] at oc9; exact oc9) (fun W hg => (Rd_own (own_kept (Kept.own rC9 hg) (by decide) ho9)).1) HI.out (by omega) (by omega) hBg; simp only [hC2] at cA; have RC := hid rC9; have HO := hid ho9; clear oc9 ho9) | (go_at_call 26; refine cA.mono ?_; rintro e q14 ⟨rfl, oC1, hgC⟩; have so14 := Stands.grown so9 hgC (fun e => hBg (by injection e)); have u1 := so14.cell 3 _ rfl; have yg := so14.free 3))
        have OC := hid oC1
        clear oC1 cA
        go_upto_region 52 with fail
        have kC := Kept.own RC.out hgC
        have soZ := so14.set 3 (.slice (some ⟨gl, 0, none⟩) (d.loops.length - 1) lq)
        have szZ := (stands_kept kC (by decide) (Stands.grown szX hg9 (stands_apart szX pX (by decide)))).other (b' := BX) 3 (.slice (some ⟨gl, 0, none⟩) (d.loops.length - 1) lq) (by omega)
        have nR := OwnR.kept (opnO_leR (base := base) (NX.out.cut hg9) (by omega)) kC (by decide) (opnO_apt (by decide))
        have oE9 := OwD.toL O0.out (UX.out.trans ((Out.grown hg9 rng).trans (Out.kept kC (by decide) (by decide)))) OC.out nR
        have oEZ := oE9.kept (set_kept so14 3 (.slice (some ⟨gl, 0, none⟩) (d.loops.length - 1) lq)) (by decide) (by decide) (by decide)
        have BZ := below_set (below_grown (below_grown BX2 hg9 (fun q hq => by have := (pX.lt q hq).1; omega)) hgC (fun q hq => by have := (RC.out.lt q hq).1; omega)) BX 3 (.slice (some ⟨gl, 0, none⟩) (d.loops.length - 1) lq) (by omega)
        generalize q14.setCell ⟨BX, 3, none⟩ (.slice (some ⟨gl, 0, none⟩) (d.loops.length - 1) lq) = qz at soZ szZ oEZ BZ ⊢
        have soZ : Stands qz BX #[.slice (some ⟨gc, 0, none⟩) (d.code.length + 1) c9, .slice oa d.origs.length oq, .slice da d.dests.length dq, .slice (some ⟨gl, 0, none⟩) (d.loops.length - 1) lq, .slice ka d.cases.length kq] 26 := soZ
        clear oE9 nR kC so14 so9 u1 yg soX szX BX2 bX pX O0 OC RC HO UX NX OX hgC hg9 cu rng sx12 so12 sz12 B12 v0 v1
        have u0 := soZ.cell 0 _ rfl
        have u1 := soZ.cell 1 _ rfl
        have u2 := soZ.cell 2 _ rfl
        have u3 := soZ.cell 3 _ rfl
        have u4 := soZ.cell 4 _ rfl
        have zz0 := szZ.cell 0 _ rfl
        have zz1 := szZ.cell 1 _ rfl
        have zz2 := szZ.cell 2 _ rfl
        have zz3 := szZ.cell 3 _ rfl
        have zz4 := szZ.cell 4 _ rfl
        have zf := szZ.free
        obtain ⟨g1, g2⟩ := set5q szZ (.slice (some ⟨gc, 0, none⟩) (d.code.length + 1) c9) (.slice oa d.origs.length oq) (.slice da d.dests.length dq) (.slice (some ⟨gl, 0, none⟩) (d.loops.length - 1) lq) (.slice ka d.cases.length kq)
        have G1 := hid g1
        have GM := hid (g2 (fun u => OwE base u ⟨.slice (some ⟨gc, 0, none⟩) (d.code.length + 1) c9, .slice oa d.origs.length oq, .slice da d.dests.length dq, .slice (some ⟨gl, 0, none⟩) (d.loops.length - 1) lq, .slice ka d.cases.length kq⟩ ⟨aimF (setN (d.code ++ [(7, 0)]) (d.code.length : Int) ((nwO d.loops).1 + 1)) ((nwO d.loops).2 ++ [(nwO d.loops).1]) ((d.code.length : Int) + 1), d.origs, d.dests, d.loops.take (d.loops.length - 1), d.cases⟩) (fun u u' kk q => q.kept kk (by decide) (by decide) (by decide)) oEZ)
        have J7 : Hid (Below w.heap.size w _) := below_set (below_set (below_set (below_set (below_set (BZ) (w.heap.size + 1) 0 (.slice (some ⟨gc, 0, none⟩) (d.code.length + 1) c9) (by omega)) (w.heap.size + 1) 1 (.slice oa d.origs.length oq) (by omega)) (w.heap.size + 1) 2 (.slice da d.dests.length dq) (by omega)) (w.heap.size + 1) 3 (.slice (some ⟨gl, 0, none⟩) (d.loops.length - 1) lq) (by omega)) (w.heap.size + 1) 4 (.slice ka d.cases.length kq) (by omega)
        clear g1 g2 oEZ BZ szZ soZ
        go_wp2_with fail
        (try simp only [Exit.inBlock, Exit.then])
        refine bodyPost_ret (res_row2 rfl _ _ (w.heap.size + 1) 26 _ (0, 0) _ rfl G1.out Try.underlying26 rfl (show _ = some 5 by kernel_rfl)) rfl ?_
        exact ⟨⟨.slice (some ⟨gc, 0, none⟩) (d.code.length + 1) c9, .slice oa d.origs.length oq, .slice da d.dests.length dq, .slice (some ⟨gl, 0, none⟩) (d.loops.length - 1) lq, .slice ka d.cases.length kq⟩, rfl, ⟨_, GM.out⟩, J7.out⟩

set_option maxHeartbeats 8000000 in
set_option maxRecDepth 100000 in
theorem w_r10act10 (v : Dv) (d : Dft) (w : World) (h : RdD w v d) (z : szD d) (ze : szE d) :
    Calls Try.prog 11 #[.agg v.cs, .int .i64 10] w fun e w' => ∃ v1, e = .returned (.tuple #[.agg (Dv.cs v1), .int .i64 (actD d 10).2]) ∧ OwQ w' v1 (actD d 10).1 ∧ Below w.heap.size w w' := by
  have cf := fun W (b : Below w.heap.size w W) => w_r10formed v d W (h.below b)
  have ck := fun W (b : Below w.heap.size w W) => w_r10lacks v d 10 W (h.below b) (by decide) (by decide)
  have cl := fun W => w_r10laid 10 W (by decide) (by decide)
  rw [show ladF 10 = 8 from rfl] at cl
  have cc := fun W (b : Below w.heap.size w W) => w_r10copy v d W (h.below b) z
  have l0 := slr_len h.code uO (P := Try.prog)
  have m1 := rd_maxI h.origs
  have m2 := rd_maxI h.dests
  have m3 := slr_max h.loops
  have m4 := slr_max h.cases
  unfold maxLen at m1 m2 m3 m4
  have s0 := (stands_new w v.cs 26).below (box_below _ (.cells #[.slice none 0 0, .slice none 0 0, .slice none 0 0, .slice none 0 0, .slice none 0 0] 26))
  have s2 := stands_new (w.alloc (.cells v.cs 26)) #[.slice none 0 0, .slice none 0 0, .slice none 0 0, .slice none 0 0, .slice none 0 0] 26
  rw [size_al] at s2
  have bw := below_trans (box_below w (.cells v.cs 26)) (box_below _ (.cells #[.slice none 0 0, .slice none 0 0, .slice none 0 0, .slice none 0 0, .slice none 0 0] 26))
  have CC := hid cc
  clear cc z h
  obtain ⟨x0, x1, x2, x3, x4⟩ := v
  simp only [Dv.cs] at cf ck s0 s2 bw l0 CC ⊢
  cases c1 : frmD d with
  | false =>
    rw [act_no1 c1]
    simp only [c1] at cf
    clear ck m1 m2 m3 m4
    go_enter Try.func11, Try.ntmps11
    go_upto_region 1 with fail
    generalize (w.alloc (.cells #[x0, x1, x2, x3, x4] 26)).alloc (.cells #[.slice none 0 0, .slice none 0 0, .slice none 0 0, .slice none 0 0, .slice none 0 0] 26) = W0 at s0 s2 bw ⊢
    have f0 := s0.cell 0 _ rfl
    have f1 := s0.cell 1 _ rfl
    have f2 := s0.cell 2 _ rfl
    have f3 := s0.cell 3 _ rfl
    have f4 := s0.cell 4 _ rfl
    go_wp2_with (first | (go_at_call 13; refine (cf _ bw).mono ?_; rintro e q1 ⟨rfl, b1⟩; have p0 := (s0.below b1).cell 0 _ rfl; have p1 := (s0.below b1).cell 1 _ rfl; have p2 := (s0.below b1).cell 2 _ rfl; have p3 := (s0.below b1).cell 3 _ rfl; have p4 := (s0.below b1).cell 4 _ rfl; have zz0 := (s2.below b1).cell 0 _ rfl; have zz1 := (s2.below b1).cell 1 _ rfl; have zz2 := (s2.below b1).cell 2 _ rfl; have zz3 := (s2.below b1).cell 3 _ rfl; have zz4 := (s2.below b1).cell 4 _ rfl; have zf := (s2.below b1).free))
    obtain ⟨g1, g2⟩ := set5q (s2.below b1) (.slice none 0 0) (.slice none 0 0) (.slice none 0 0) (.slice none 0 0) (.slice none 0 0)
    have J7 := below_set (below_set (below_set (below_set (below_set (below_trans bw b1) (w.heap.size + 1) 0 (.slice none 0 0) (by omega)) (w.heap.size + 1) 1 (.slice none 0 0) (by omega)) (w.heap.size + 1) 2 (.slice none 0 0) (by omega)) (w.heap.size + 1) 3 (.slice none 0 0) (by omega)) (w.heap.size + 1) 4 (.slice none 0 0) (by omega)
    (try simp only [Exit.inBlock, Exit.then])
    refine bodyPost_ret (res_row2 rfl _ _ (w.heap.size + 1) 26 _ (0, 0) _ rfl g1 Try.underlying26 rfl (show _ = some 5 by kernel_rfl)) rfl ?_
    exact ⟨nilDv, rfl, OwQ.nil _, J7⟩
  | true =>
    simp only [c1] at cf
    cases c2 : lakF d 10 with
    | true =>
      rw [act_no2 c1 (by decide) (by decide) c2]
      simp only [c2] at ck
      clear m1 m2 m3 m4
      go_enter Try.func11, Try.ntmps11
      go_upto_region 1 with fail
      generalize (w.alloc (.cells #[x0, x1, x2, x3, x4] 26)).alloc (.cells #[.slice none 0 0, .slice none 0 0, .slice none 0 0, .slice none 0 0, .slice none 0 0] 26) = W0 at s0 s2 bw ⊢
      have f0 := s0.cell 0 _ rfl
      have f1 := s0.cell 1 _ rfl
      have f2 := s0.cell 2 _ rfl
      have f3 := s0.cell 3 _ rfl
      have f4 := s0.cell 4 _ rfl
      go_wp2_with (first | (go_at_call 13; refine (cf _ bw).mono ?_; rintro e q1 ⟨rfl, b1⟩; have p0 := (s0.below b1).cell 0 _ rfl; have p1 := (s0.below b1).cell 1 _ rfl; have p2 := (s0.below b1).cell 2 _ rfl; have p3 := (s0.below b1).cell 3 _ rfl; have p4 := (s0.below b1).cell 4 _ rfl; have zz0 := (s2.below b1).cell 0 _ rfl; have zz1 := (s2.below b1).cell 1 _ rfl; have zz2 := (s2.below b1).cell 2 _ rfl; have zz3 := (s2.below b1).cell 3 _ rfl; have zz4 := (s2.below b1).cell 4 _ rfl; have zf := (s2.below b1).free) | (go_at_call 24; refine (ck _ (below_trans bw b1)).mono ?_; rintro e q2 ⟨rfl, b2⟩; have b12 := below_trans b1 b2; have p0 := (s0.below b12).cell 0 _ rfl; have p1 := (s0.below b12).cell 1 _ rfl; have p2 := (s0.below b12).cell 2 _ rfl; have p3 := (s0.below b12).cell 3 _ rfl; have p4 := (s0.below b12).cell 4 _ rfl; have zz0 := (s2.below b12).cell 0 _ rfl; have zz1 := (s2.below b12).cell 1 _ rfl; have zz2 := (s2.below b12).cell 2 _ rfl; have zz3 := (s2.below b12).cell 3 _ rfl; have zz4 := (s2.below b12).cell 4 _ rfl; have zf := (s2.below b12).free))
      obtain ⟨g1, g2⟩ := set5q (s2.below b12) (.slice none 0 0) (.slice none 0 0) (.slice none 0 0) (.slice none 0 0) (.slice none 0 0)
      have J7 := below_set (below_set (below_set (below_set (below_set (below_trans bw b12) (w.heap.size + 1) 0 (.slice none 0 0) (by omega)) (w.heap.size + 1) 1 (.slice none 0 0) (by omega)) (w.heap.size + 1) 2 (.slice none 0 0) (by omega)) (w.heap.size + 1) 3 (.slice none 0 0) (by omega)) (w.heap.size + 1) 4 (.slice none 0 0) (by omega)
      (try simp only [Exit.inBlock, Exit.then])
      refine bodyPost_ret (res_row2 rfl _ _ (w.heap.size + 1) 26 _ (0, 0) _ rfl g1 Try.underlying26 rfl (show _ = some 5 by kernel_rfl)) rfl ?_
      exact ⟨nilDv, rfl, OwQ.nil _, J7⟩
    | false =>
      simp only [c2] at ck
      by_cases c3 : (256 : Int) ≤ d.code.length
      · rw [act_no3 c1 (by decide) (by decide) c2 (by decide) (by omega)]
        clear m1 m2 m3 m4
        go_enter Try.func11, Try.ntmps11
        go_upto_region 1 with fail
        generalize (w.alloc (.cells #[x0, x1, x2, x3, x4] 26)).alloc (.cells #[.slice none 0 0, .slice none 0 0, .slice none 0 0, .slice none 0 0, .slice none 0 0] 26) = W0 at s0 s2 bw ⊢
        have f0 := s0.cell 0 _ rfl
        have f1 := s0.cell 1 _ rfl
        have f2 := s0.cell 2 _ rfl
        have f3 := s0.cell 3 _ rfl
        have f4 := s0.cell 4 _ rfl
        go_wp2_with (first | (go_at_call 13; refine (cf _ bw).mono ?_; rintro e q1 ⟨rfl, b1⟩; have p0 := (s0.below b1).cell 0 _ rfl; have p1 := (s0.below b1).cell 1 _ rfl; have p2 := (s0.below b1).cell 2 _ rfl; have p3 := (s0.below b1).cell 3 _ rfl; have p4 := (s0.below b1).cell 4 _ rfl; have zz0 := (s2.below b1).cell 0 _ rfl; have zz1 := (s2.below b1).cell 1 _ rfl; have zz2 := (s2.below b1).cell 2 _ rfl; have zz3 := (s2.below b1).cell 3 _ rfl; have zz4 := (s2.below b1).cell 4 _ rfl; have zf := (s2.below b1).free) | (go_at_call 24; refine (ck _ (below_trans bw b1)).mono ?_; rintro e q2 ⟨rfl, b2⟩; have b12 := below_trans b1 b2; have p0 := (s0.below b12).cell 0 _ rfl; have p1 := (s0.below b12).cell 1 _ rfl; have p2 := (s0.below b12).cell 2 _ rfl; have p3 := (s0.below b12).cell 3 _ rfl; have p4 := (s0.below b12).cell 4 _ rfl; have zz0 := (s2.below b12).cell 0 _ rfl; have zz1 := (s2.below b12).cell 1 _ rfl; have zz2 := (s2.below b12).cell 2 _ rfl; have zz3 := (s2.below b12).cell 3 _ rfl; have zz4 := (s2.below b12).cell 4 _ rfl; have zf := (s2.below b12).free) | (go_at_call 25; refine (cl _).mono ?_; rintro e q3 ⟨rfl, rfl⟩))
        obtain ⟨g1, g2⟩ := set5q (s2.below b12) (.slice none 0 0) (.slice none 0 0) (.slice none 0 0) (.slice none 0 0) (.slice none 0 0)
        have J7 := below_set (below_set (below_set (below_set (below_set (below_trans bw b12) (w.heap.size + 1) 0 (.slice none 0 0) (by omega)) (w.heap.size + 1) 1 (.slice none 0 0) (by omega)) (w.heap.size + 1) 2 (.slice none 0 0) (by omega)) (w.heap.size + 1) 3 (.slice none 0 0) (by omega)) (w.heap.size + 1) 4 (.slice none 0 0) (by omega)
        (try simp only [Exit.inBlock, Exit.then])
        refine bodyPost_ret (res_row2 rfl _ _ (w.heap.size + 1) 26 _ (0, 0) _ rfl g1 Try.underlying26 rfl (show _ = some 5 by kernel_rfl)) rfl ?_
        exact ⟨nilDv, rfl, OwQ.nil _, J7⟩
      · rw [act_yes c1 (by decide) (by decide) c2 (fun h => by omega)]
        have hD : doD d 10 (layF d 10) d.code.length (layF d 10).length (ladF 10) = ⟨aimF (setN (d.code ++ [(8, 0)]) (d.code.length : Int) ((nwO d.loops).1 + 1)) ((nwO d.loops).2 ++ [(nwO d.loops).1]) ((d.code.length : Int) + 1), d.origs, d.dests, d.loops.take (d.loops.length - 1), d.cases⟩ := by simp [doD, layF, ladF]
        rw [hD]
        clear hD
        go_enter Try.func11, Try.ntmps11
        go_upto_region 1 with fail
        generalize (w.alloc (.cells #[x0, x1, x2, x3, x4] 26)).alloc (.cells #[.slice none 0 0, .slice none 0 0, .slice none 0 0, .slice none 0 0, .slice none 0 0] 26) = W0 at s0 s2 bw ⊢
        have f0 := s0.cell 0 _ rfl
        have f1 := s0.cell 1 _ rfl
        have f2 := s0.cell 2 _ rfl
        have f3 := s0.cell 3 _ rfl
        have f4 := s0.cell 4 _ rfl
        go_upto_region 9 with (first | (go_at_call 13; refine (cf _ bw).mono ?_; rintro e q1 ⟨rfl, b1⟩; have p0 := (s0.below b1).cell 0 _ rfl; have p1 := (s0.below b1).cell 1 _ rfl; have p2 := (s0.below b1).cell 2 _ rfl; have p3 := (s0.below b1).cell 3 _ rfl; have p4 := (s0.below b1).cell 4 _ rfl; have zz0 := (s2.below b1).cell 0 _ rfl; have zz1 := (s2.below b1).cell 1 _ rfl; have zz2 := (s2.below b1).cell 2 _ rfl; have zz3 := (s2.below b1).cell 3 _ rfl; have zz4 := (s2.below b1).cell 4 _ rfl; have zf := (s2.below b1).free) | (go_at_call 24; refine (ck _ (below_trans bw b1)).mono ?_; rintro e q2 ⟨rfl, b2⟩; have b12 := below_trans b1 b2; have p0 := (s0.below b12).cell 0 _ rfl; have p1 := (s0.below b12).cell 1 _ rfl; have p2 := (s0.below b12).cell 2 _ rfl; have p3 := (s0.below b12).cell 3 _ rfl; have p4 := (s0.below b12).cell 4 _ rfl; have zz0 := (s2.below b12).cell 0 _ rfl; have zz1 := (s2.below b12).cell 1 _ rfl; have zz2 := (s2.below b12).cell 2 _ rfl; have zz3 := (s2.below b12).cell 3 _ rfl; have zz4 := (s2.below b12).cell 4 _ rfl; have zf := (s2.below b12).free) | (go_at_call 25; refine (cl _).mono ?_; rintro e q3 ⟨rfl, rfl⟩) | (go_at_call 9; refine (CC.out _ (below_trans bw b12)).mono ?_; rintro e q4 ⟨v1, t1, t2, t3, rfl, oD, b4⟩; obtain ⟨cs0, r0⟩ := oD.code.row; obtain ⟨ca, cq, e0⟩ := own_form r0; obtain ⟨oa, oq, e1⟩ := own_form oD.origs; obtain ⟨da, dq, e2⟩ := own_form oD.dests; obtain ⟨cs3, r3⟩ := oD.loops.own.row; obtain ⟨la, lq, e3⟩ := own_form r3; obtain ⟨cs4, r4⟩ := oD.cases.own.row; obtain ⟨ka, kq, e4⟩ := own_form r4; obtain ⟨y0, y1, y2, y3, y4⟩ := v1; (try dsimp only at e0 e1 e2 e3 e4); subst e0 e1 e2 e3 e4; simp only [Dv.cs]))
        have bo := box_below q4 (.cells #[.slice ca d.code.length cq, .slice oa d.origs.length oq, .slice da d.dests.length dq, .slice la d.loops.length lq, .slice ka d.cases.length kq] 26)
        have so := stands_new q4 #[.slice ca d.code.length cq, .slice oa d.origs.length oq, .slice da d.dests.length dq, .slice la d.loops.length lq, .slice ka d.cases.length kq] 26
        have oD4 := oD.below bo
        have b15 := below_trans (below_trans b12 b4) bo
        have B15 := below_trans bw b15
        have sz4 := s2.below b15
        obtain ⟨BX, hBX⟩ : ∃ B, q4.heap.size = B := ⟨_, rfl⟩
        have hW0 : w.heap.size + 1 < W0.heap.size := (Array.getElem?_eq_some_iff.1 s2).1
        have hWq : W0.heap.size ≤ q3.heap.size := b12.size
        have hBq : q3.heap.size ≤ BX := by rw [← hBX]; exact b4.size
        have hBs : q3.heap.size ≤ (q4.alloc (.cells #[.slice ca d.code.length cq, .slice oa d.origs.length oq, .slice da d.dests.length dq, .slice la d.loops.length lq, .slice ka d.cases.length kq] 26)).heap.size := Nat.le_trans b4.size bo.size
        obtain ⟨base, hba⟩ : ∃ B, q3.heap.size = B := ⟨_, rfl⟩
        rw [hBX] at so
        simp only [hBX]
        rw [hba] at oD4 hBq hWq hBs
        generalize q4.alloc (.cells #[.slice ca d.code.length cq, .slice oa d.origs.length oq, .slice da d.dests.length dq, .slice la d.loops.length lq, .slice ka d.cases.length kq] 26) = q5 at so oD4 sz4 B15 hBs ⊢
        clear bo b15 oD b4 hba hBX b12 f0 f1 f2 f3 f4 bw s0 s2 r0 r3 r4
        have u0 := so.cell 0 _ rfl
        go_upto_region 11 with fail
        have bX := box_below q5 (.cells #[.int .i64 8, .int .u32 0] 37)
        have oDX := oD4.below bX
        obtain ⟨rows, p1, p2, p3, p4⟩ := oDX.code
        obtain ⟨i9, hi9, hz9, hz8, hz7⟩ := info_parts infoOp10
        have one : ∀ r ∈ [[Value.int .i64 8, .int .u32 0]], ∀ u ∈ r, u.oneCell' = true := fun r hr u hu => by rw [List.mem_singleton] at hr; subst hr; simp at hu; rcases hu with rfl | rfl <;> rfl
        have P1 := hid p1
        have P2 := hid p2
        have P4 := hid p4
        have OX := hid oDX
        clear p1 p2 p4 oDX oD4
        go_upto_region 12 with (at_builtin; refine wpList_append_rows rfl _ _ 22 rfl base 37 i9 _ 2 16 Try.underlying22 hi9 hz9 hz8 hz7 rfl (by decide) _ d.code.length _ rfl p3 _ [[Value.int .i64 8, .int .u32 0]] rfl (slc_one q5 [Value.int .i64 8, .int .u32 0] 37 2 rfl) one (by unfold maxLen; simp only [List.length_singleton]; omega) (by simp only [List.length_singleton]; omega) (Nat.le_trans hBs bX.size) ?_; intro v9 w9 ho9 hg9; obtain ⟨a9, c9, rfl⟩ := own_form ho9; have so9 := Stands.grown (so.below bX) hg9 (stands_apart (so.below bX) p3 (by decide)); have y2 := so9.cell 0 _ rfl; have yg := so9.free 0)
        have kW := Kept.own p3 hg9
        have szF := (Stands.grown (sz4.below bX) hg9 (stands_apart (sz4.below bX) p3 (by decide))).other (b' := BX) 0 (.slice a9 (d.code.length + [[Value.int .i64 8, .int .u32 0]].length) c9) (by omega)
        have oC9 : OwC base w9 (.slice a9 (d.code.length + 1) c9) (d.code ++ [(8, 0)]) := OwnR.snoc (e := 37) (O := opR) opR_apt10 P1.out P2.out p3 P4.out rfl (x := (8, 0)) rfl (by simpa using ho9) hg9
        have oD9 := OX.out.code' kW oC9
        have oDF := oD9.kept (set_kept so9 0 (.slice a9 (d.code.length + [[Value.int .i64 8, .int .u32 0]].length) c9)) (by decide) (by decide) (by decide)
        have soF := so9.set 0 (.slice a9 (d.code.length + [[Value.int .i64 8, .int .u32 0]].length) c9)
        have BF := below_set (below_grown (below_trans B15 bX) hg9 (fun q hq => by have := (p3.lt q hq).1; omega)) BX 0 (.slice a9 (d.code.length + [[Value.int .i64 8, .int .u32 0]].length) c9) (by omega)
        have hsF : base ≤ (w9.setCell ⟨BX, 0, none⟩ (.slice a9 (d.code.length + [[Value.int .i64 8, .int .u32 0]].length) c9)).heap.size := Nat.le_trans hBs (Nat.le_trans bX.size (Nat.le_trans hg9.size (set_kept so9 0 (.slice a9 (d.code.length + [[Value.int .i64 8, .int .u32 0]].length) c9)).size))
        generalize w9.setCell ⟨BX, 0, none⟩ (.slice a9 (d.code.length + [[Value.int .i64 8, .int .u32 0]].length) c9) = q9 at szF oDF soF BF hsF ⊢
        have soF : Stands q9 BX #[.slice a9 (d.code.length + 1) c9, .slice oa d.origs.length oq, .slice da d.dests.length dq, .slice la d.loops.length lq, .slice ka d.cases.length kq] 26 := soF
        clear p3 ho9 hg9 kW oD9 oC9 so9 y2 yg bX so sz4 B15 u0 one OX P1 P2 P4
        have u0 := soF.cell 0 _ rfl
        have u1 := soF.cell 1 _ rfl
        have u2 := soF.cell 2 _ rfl
        have u3 := soF.cell 3 _ rfl
        have u4 := soF.cell 4 _ rfl
        go_upto_region 13 with fail
        have hp := lak_l (Or.inr <| Or.inl rfl) c2
        obtain ⟨hin, hins⟩ := frm_l c1 hp
        have hcl := frm_code c1
        have hc9 : (d.code ++ [(8, 0)]).length = d.code.length + 1 := by simp
        obtain ⟨csr, rC0⟩ := oDF.code.row
        obtain ⟨gc, cz, ez⟩ := own_some rC0 (by rw [hc9]; omega)
        obtain ⟨rfl, rfl⟩ := slice_inj ez
        clear ez
        clear rC0 csr
        obtain ⟨csr, ror⟩ := oDF.loops.own.row
        obtain ⟨gl, cz, ez⟩ := own_some ror hp
        obtain ⟨rfl, rfl⟩ := slice_inj ez
        clear ez
        clear ror csr
        have bd : Below q9.heap.size q9 q9.drew := below_drewN (Below.refl q9.heap.size q9) 1
        have soD := soF.below bd
        have szD := szF.below bd
        have oDD := oDF.below bd
        have BD := below_trans BF bd
        have hsD := Nat.le_trans hsF bd.size
        clear oDF
        go_region
        go_upto_region 35 with fail
        generalize q9.drew = q10 at soD szD oDD BD hsD bd ⊢
        clear soF szF BF hsF u0 u1 u2 u3 u4 bd
        have u1 := soD.cell 3 _ rfl
        obtain ⟨gx, cx, rowsNn, vo, Nn⟩ := oDD.loops.newest hp
        obtain ⟨hgx, rfl⟩ := slice_inj Nn.form
        cases hgx
        obtain ⟨va, vq, rfl⟩ := own_form Nn.outs
        have ix := idx_opn gl d.loops.length lq hp
        have cO := Nn.cellO
        have cA0 := Nn.cellA
        have cu := cut_opn gl d.loops.length lq hp (own_cap Nn.own)
        have sx := stands_new q10 #[.int .i64 (nwO d.loops).1, .slice va (nwO d.loops).2.length vq] 58
        have bx := box_below q10 (.cells #[.int .i64 (nwO d.loops).1, .slice va (nwO d.loops).2.length vq] 58)
        have so11 := soD.below bx
        have sz11 := szD.below bx
        have B11 := below_trans BD bx
        have oD11 := oDD.below bx
        have hs11 := Nat.le_trans hsD bx.size
        have N11 := Nn.kept hp (Kept.below (T := 35) bx) (by decide) (by decide)
        have UB : Hid (Out t2 t3 q10 _) := Out.below bx
        have O0 := hid oDD
        have HN := hid N11
        have OD := hid oD11
        clear oDD Nn N11 oD11
        go_upto_region 36 with fail
        obtain ⟨BY, hBY⟩ : ∃ B, q10.heap.size = B := ⟨_, rfl⟩
        have hBB : base ≤ BY := by rw [← hBY]; exact hsD
        rw [hBY] at sx
        (try simp only [hBY])
        have N11 := HN.out
        have oD11 := OD.out
        have UB := UB.out
        clear HN OD
        generalize q10.alloc (.cells #[.int .i64 (nwO d.loops).1, .slice va (nwO d.loops).2.length vq] 58) = q11 at sx bx so11 sz11 B11 oD11 hs11 N11 UB ⊢
        clear soD szD BD hsD u1 cO cA0 ix bx hBY
        have u0 := so11.cell 0 _ rfl
        have v0 := sx.cell 0 _ rfl
        have iy := idx_op gc (d.code.length + 1) c9 d.code.length (by omega)
        have hwr := wrap32 ((nwO d.loops).1 + 1) (by omega) (by omega)
        obtain ⟨csr, rC⟩ := oD11.code.row
        have oc0 : OwC base q11 (.slice (some ⟨gc, 0, none⟩) (d.code ++ [(8, 0)]).length c9) (d.code ++ [(8, 0)]) := by rw [hc9]; exact oD11.code
        obtain ⟨s1, ⟨uy, y1⟩, y2⟩ := OwC.put oc0 d.code.length (by rw [hc9]; omega) ((nwO d.loops).1 + 1)
        have hg1 : q11.grownBy (q11.setCell ⟨gc, d.code.length * 2 + 1, none⟩ (.int .u32 ((nwO d.loops).1 + 1))) (some gc) := gb_set (gb_refl q11 _) _ _
        have k1 := Kept.own rC hg1
        have so12 := stands_kept k1 (by decide) so11
        have sz12 := stands_kept k1 (by decide) sz11
        have sx12 := stands_kept k1 (by decide) sx
        have B12 := below_grown B11 hg1 (fun q hq => by have := (rC.lt q hq).1; omega)
        have N12 := hid (N11.kept hp k1 (by decide) (by decide))
        have hs12 := Nat.le_trans hs11 hg1.size
        have U12 := hid (UB.trans (Out.kept k1 (by decide) (by decide)))
        have S1 := hid s1
        have l1 := oD11.le1
        have l2 := oD11.le2
        have l3 := oD11.le3
        clear oD11 N11 UB rC s1 oc0 k1 hg1
        go_upto_region 37 with fail
        have N12 := N12.out
        have U12 := U12.out
        have s1 := S1.out
        clear S1
        generalize q11.setCell ⟨gc, d.code.length * 2 + 1, none⟩ (.int .u32 ((nwO d.loops).1 + 1)) = q12 at so12 sz12 sx12 B12 N12 U12 hs12 s1 ⊢
        clear so11 sz11 B11 hs11 sx u0 v0 y1 y2 csr
        have v0 := sx12.cell 0 _ rfl
        have v1 := sx12.cell 1 _ rfl
        have bX := box_below q12 (.cells #[.int .i64 (nwO d.loops).1] 3)
        have N13 := N12.kept hp (Kept.below (T := 35) bX) (by decide) (by decide)
        have soX := so12.below bX
        have szX := sz12.below bX
        have ocX : OwC base _ (.slice (some ⟨gc, 0, none⟩) (d.code ++ [(8, 0)]).length c9) (setN (d.code ++ [(8, 0)]) (d.code.length : Int) ((nwO d.loops).1 + 1)) := OwnR.below s1 bX (fun _ _ q => q)
        have hC2 : (setN (d.code ++ [(8, 0)]) (d.code.length : Int) ((nwO d.loops).1 + 1)).length = d.code.length + 1 := by rw [set_len, hc9]
        have pX := own_le (b := base) (by omega) N13.outs
        have hsX := Nat.le_trans hs12 bX.size
        obtain ⟨i8, hi8, hz6, hz5, hz4⟩ := info_parts infoJ10
        have zo := ze.louts _ (nwO_mem (List.length_pos_iff.1 hp))
        have UX := hid (U12.trans (Out.below bX))
        have NX := hid N13
        have OX := hid ocX
        have rng := N13.rng
        have BX2 := below_trans B12 bX
        have hrl : ∀ n ∈ ((nwO d.loops).2 ++ [(nwO d.loops).1]), 0 ≤ n ∧ n < ((setN (d.code ++ [(8, 0)]) (d.code.length : Int) ((nwO d.loops).1 + 1)).length : Int) := by
          intro n hn
          rw [hC2]
          rcases List.mem_append.1 hn with hn | hn
          · have := hins n hn; omega
          · rw [List.mem_singleton] at hn; rw [hn]; omega
        have HI := hid hrl
        clear N12 N13 U12 s1 ocX hins hrl
        go_upto_region 38 with (first | (at_builtin; refine wpList_append_rd (k := .i64) rfl _ _ 23 rfl base 3 i8 8 Try.underlying23 hi8 hz6 hz5 hz4 _ (nwO d.loops).2 rfl pX _ [(nwO d.loops).1] rfl (rd_one q12 (nwO d.loops).1 3) (by unfold maxLen; simp; omega) (by simp; omega) hsX ?_; intro v9 w9 ho9 hg9; have so9 := Stands.grown soX hg9 (stands_apart soX pX (by decide)); have oc9 : OwC base w9 (.slice (some ⟨gc, 0, none⟩) (d.code ++ [(8, 0)]).length c9) (setN (d.code ++ [(8, 0)]) (d.code.length : Int) ((nwO d.loops).1 + 1)) := OwnR.kept OX.out (Kept.own pX hg9) (by decide) opR_apt10; obtain ⟨csr, rC9⟩ := OwnR.row oc9; have hBg : BX ≠ gc := fun e => stands_apart so9 rC9 (by decide) (by rw [e]; rfl); have cA := w_r10aim base BX gc c9 _ _ _ _ v9 (setN (d.code ++ [(8, 0)]) (d.code.length : Int) ((nwO d.loops).1 + 1)) ((nwO d.loops).2 ++ [(nwO d.loops).1]) ((d.code.length : Int) + 1) w9 (by rw [hC2]; exact so9) (by rw [hC2]; rw [hc9] at oc9; exact oc9) (fun W hg => (Rd_own (own_kept (Kept.own rC9 hg) (by decide) ho9)).1) HI.out (by omega) (by omega) hBg; simp only [hC2] at cA; have RC := hid rC9; have HO := hid ho9; clear oc9 ho9) | (go_at_call 26; refine cA.mono ?_; rintro e q14 ⟨rfl, oC1, hgC⟩; have so14 := Stands.grown so9 hgC (fun e => hBg (by injection e)); have u1 := so14.cell 3 _ rfl; have yg := so14.free 3))
        have OC := hid oC1
        clear oC1 cA
        go_upto_region 52 with fail
        have kC := Kept.own RC.out hgC
        have soZ := so14.set 3 (.slice (some ⟨gl, 0, none⟩) (d.loops.length - 1) lq)
        have szZ := (stands_kept kC (by decide) (Stands.grown szX hg9 (stands_apart szX pX (by decide)))).other (b' := BX) 3 (.slice (some ⟨gl, 0, none⟩) (d.loops.length - 1) lq) (by omega)
        have nR := OwnR.kept (opnO_leR (base := base) (NX.out.cut hg9) (by omega)) kC (by decide) (opnO_apt (by decide))
        have oE9 := OwD.toL O0.out (UX.out.trans ((Out.grown hg9 rng).trans (Out.kept kC (by decide) (by decide)))) OC.out nR
        have oEZ := oE9.kept (set_kept so14 3 (.slice (some ⟨gl, 0, none⟩) (d.loops.length - 1) lq)) (by decide) (by decide) (by decide)
        have BZ := below_set (below_grown (below_grown BX2 hg9 (fun q hq => by have := (pX.lt q hq).1; omega)) hgC (fun q hq => by have := (RC.out.lt q hq).1; omega)) BX 3 (.slice (some ⟨gl, 0, none⟩) (d.loops.length - 1) lq) (by omega)
        generalize q14.setCell ⟨BX, 3, none⟩ (.slice (some ⟨gl, 0, none⟩) (d.loops.length - 1) lq) = qz at soZ szZ oEZ BZ ⊢
        have soZ : Stands qz BX #[.slice (some ⟨gc, 0, none⟩) (d.code.length + 1) c9, .slice oa d.origs.length oq, .slice da d.dests.length dq, .slice (some ⟨gl, 0, none⟩) (d.loops.length - 1) lq, .slice ka d.cases.length kq] 26 := soZ
        clear oE9 nR kC so14 so9 u1 yg soX szX BX2 bX pX O0 OC RC HO UX NX OX hgC hg9 cu rng sx12 so12 sz12 B12 v0 v1
        have u0 := soZ.cell 0 _ rfl
        have u1 := soZ.cell 1 _ rfl
        have u2 := soZ.cell 2 _ rfl
        have u3 := soZ.cell 3 _ rfl
        have u4 := soZ.cell 4 _ rfl
        have zz0 := szZ.cell 0 _ rfl
        have zz1 := szZ.cell 1 _ rfl
        have zz2 := szZ.cell 2 _ rfl
        have zz3 := szZ.cell 3 _ rfl
        have zz4 := szZ.cell 4 _ rfl
        have zf := szZ.free
        obtain ⟨g1, g2⟩ := set5q szZ (.slice (some ⟨gc, 0, none⟩) (d.code.length + 1) c9) (.slice oa d.origs.length oq) (.slice da d.dests.length dq) (.slice (some ⟨gl, 0, none⟩) (d.loops.length - 1) lq) (.slice ka d.cases.length kq)
        have G1 := hid g1
        have GM := hid (g2 (fun u => OwE base u ⟨.slice (some ⟨gc, 0, none⟩) (d.code.length + 1) c9, .slice oa d.origs.length oq, .slice da d.dests.length dq, .slice (some ⟨gl, 0, none⟩) (d.loops.length - 1) lq, .slice ka d.cases.length kq⟩ ⟨aimF (setN (d.code ++ [(8, 0)]) (d.code.length : Int) ((nwO d.loops).1 + 1)) ((nwO d.loops).2 ++ [(nwO d.loops).1]) ((d.code.length : Int) + 1), d.origs, d.dests, d.loops.take (d.loops.length - 1), d.cases⟩) (fun u u' kk q => q.kept kk (by decide) (by decide) (by decide)) oEZ)
        have J7 : Hid (Below w.heap.size w _) := below_set (below_set (below_set (below_set (below_set (BZ) (w.heap.size + 1) 0 (.slice (some ⟨gc, 0, none⟩) (d.code.length + 1) c9) (by omega)) (w.heap.size + 1) 1 (.slice oa d.origs.length oq) (by omega)) (w.heap.size + 1) 2 (.slice da d.dests.length dq) (by omega)) (w.heap.size + 1) 3 (.slice (some ⟨gl, 0, none⟩) (d.loops.length - 1) lq) (by omega)) (w.heap.size + 1) 4 (.slice ka d.cases.length kq) (by omega)
        clear g1 g2 oEZ BZ szZ soZ
        go_wp2_with fail
        (try simp only [Exit.inBlock, Exit.then])
        refine bodyPost_ret (res_row2 rfl _ _ (w.heap.size + 1) 26 _ (0, 0) _ rfl G1.out Try.underlying26 rfl (show _ = some 5 by kernel_rfl)) rfl ?_
        exact ⟨⟨.slice (some ⟨gc, 0, none⟩) (d.code.length + 1) c9, .slice oa d.origs.length oq, .slice da d.dests.length dq, .slice (some ⟨gl, 0, none⟩) (d.loops.length - 1) lq, .slice ka d.cases.length kq⟩, rfl, ⟨_, GM.out⟩, J7.out⟩
end Go.Proofs.Ytfmpeminfcehaaa
