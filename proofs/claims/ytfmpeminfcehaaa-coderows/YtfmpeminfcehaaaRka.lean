/-
  Act of the document's answer for code: acts 1, 2, 3, 4.
-/
import Derived.Test.YtfmpeminfcehaaaRk8
namespace Go.Proofs.Ytfmpeminfcehaaa
open Go.ChangeShapes Go.WideShapes Go.ChangeAt Go.RowKit
set_option linter.unusedVariables false
set_option linter.unusedSimpArgs false

set_option maxHeartbeats 8000000 in
set_option maxRecDepth 100000 in
theorem w_r10act1 (v : Dv) (d : Dft) (w : World) (h : RdD w v d) (z : szD d) (ze : szE d) :
    Calls Try.prog 11 #[.agg v.cs, .int .i64 1] w fun e w' => ∃ v1, e = .returned (.tuple #[.agg (Dv.cs v1), .int .i64 (actD d 1).2]) ∧ OwQ w' v1 (actD d 1).1 ∧ Below w.heap.size w w' := by
  have cf := fun W (b : Below w.heap.size w W) => w_r10formed v d W (h.below b)
  have ck := fun W (b : Below w.heap.size w W) => w_r10lacks v d 1 W (h.below b) (by decide) (by decide)
  have cl := fun W => w_r10laid 1 W (by decide) (by decide)
  rw [show ladF 1 = 4 from rfl] at cl
  have cc := fun W (b : Below w.heap.size w W) => w_r10copy v d W (h.below b) z
  have l0 := slr_len h.code uO (P := Try.prog)
  have m1 := rd_maxI h.origs
  have m2 := rd_maxI h.dests
  have m3 := slr_max h.loops
  have m4 := slr_max h.cases
  unfold maxLen at m1 m2 m3 m4
  have s0 := (stands_new w v.cs 26).below (box_below _ (.cells #[.slice none 0 0, .slice none 0 0, .slice none 0 0, .slice none 0 0, .slice none 0 0] 26))
  have s2 := stands_new (w.alloc (.cells v.cs 26)) #[.slice none 0 0, .slice none 0 0, .slice none 0 0, .slice none 0 0, .slice none 0 0] 26
  rw [size_al] at s2
  have bw := below_trans (box_below w (.cells v.cs 26)) (box_below _ (.cells #[.slice none 0 0, .slice none 0 0, .slice none 0 0, .slice none 0 0, .slice none 0 0] 26))
  have CC := hid cc
  clear cc z h
  obtain ⟨x0, x1, x2, x3, x4⟩ := v
  simp only [Dv.cs] at cf ck s0 s2 bw l0 CC ⊢
  cases c1 : frmD d with
  | false =>
    rw [act_no1 c1]
    simp only [c1] at cf
    clear ck m1 m2 m3 m4
    go_enter Try.func11, Try.ntmps11
    go_upto_region 1 with fail
    generalize (w.alloc (.cells #[x0, x1, x2, x3, x4] 26)).alloc (.cells #[.slice none 0 0, .slice none 0 0, .slice none 0 0, .slice none 0 0, .slice none 0 0] 26) = W0 at s0 s2 bw ⊢
    have f0 := s0.cell 0 _ rfl
    have f1 := s0.cell 1 _ rfl
    have f2 := s0.cell 2 _ rfl
    have f3 := s0.cell 3 _ rfl
    have f4 := s0.cell 4 _ rfl
    go_wp2_with (first | (go_at_call 13; refine (cf _ bw).mono ?_; rintro e q1 ⟨rfl, b1⟩; have p0 := (s0.below b1).cell 0 _ rfl; have p1 := (s0.below b1).cell 1 _ rfl; have p2 := (s0.below b1).cell 2 _ rfl; have p3 := (s0.below b1).cell 3 _ rfl; have p4 := (s0.below b1).cell 4 _ rfl; have zz0 := (s2.below b1).cell 0 _ rfl; have zz1 := (s2.below b1).cell 1 _ rfl; have zz2 := (s2.below b1).cell 2 _ rfl; have zz3 := (s2.below b1).cell 3 _ rfl; have zz4 := (s2.below b1).cell 4 _ rfl; have zf := (s2.below b1).free))
    obtain ⟨g1, g2⟩ := set5q (s2.below b1) (.slice none 0 0) (.slice none 0 0) (.slice none 0 0) (.slice none 0 0) (.slice none 0 0)
    have J7 := below_set (below_set (below_set (below_set (below_set (below_trans bw b1) (w.heap.size + 1) 0 (.slice none 0 0) (by omega)) (w.heap.size + 1) 1 (.slice none 0 0) (by omega)) (w.heap.size + 1) 2 (.slice none 0 0) (by omega)) (w.heap.size + 1) 3 (.slice none 0 0) (by omega)) (w.heap.size + 1) 4 (.slice none 0 0) (by omega)
    (try simp only [Exit.inBlock, Exit.then])
    refine bodyPost_ret (res_row2 rfl _ _ (w.heap.size + 1) 26 _ (0, 0) _ rfl g1 Try.underlying26 rfl (show _ = some 5 by kernel_rfl)) rfl ?_
    exact ⟨nilDv, rfl, OwQ.nil _, J7⟩
  | true =>
    simp only [c1] at cf
    cases c2 : lakF d 1 with
    | true =>
      cases c2
    | false =>
      simp only [c2] at ck
      by_cases c3 : (256 : Int) ≤ d.code.length
      · rw [act_no3 c1 (by decide) (by decide) c2 (by decide) (by omega)]
        clear m1 m2 m3 m4
        go_enter Try.func11, Try.ntmps11
        go_upto_region 1 with fail
        generalize (w.alloc (.cells #[x0, x1, x2, x3, x4] 26)).alloc (.cells #[.slice none 0 0, .slice none 0 0, .slice none 0 0, .slice none 0 0, .slice none 0 0] 26) = W0 at s0 s2 bw ⊢
        have f0 := s0.cell 0 _ rfl
        have f1 := s0.cell 1 _ rfl
        have f2 := s0.cell 2 _ rfl
        have f3 := s0.cell 3 _ rfl
        have f4 := s0.cell 4 _ rfl
        go_wp2_with (first | (go_at_call 13; refine (cf _ bw).mono ?_; rintro e q1 ⟨rfl, b1⟩; have p0 := (s0.below b1).cell 0 _ rfl; have p1 := (s0.below b1).cell 1 _ rfl; have p2 := (s0.below b1).cell 2 _ rfl; have p3 := (s0.below b1).cell 3 _ rfl; have p4 := (s0.below b1).cell 4 _ rfl; have zz0 := (s2.below b1).cell 0 _ rfl; have zz1 := (s2.below b1).cell 1 _ rfl; have zz2 := (s2.below b1).cell 2 _ rfl; have zz3 := (s2.below b1).cell 3 _ rfl; have zz4 := (s2.below b1).cell 4 _ rfl; have zf := (s2.below b1).free) | (go_at_call 24; refine (ck _ (below_trans bw b1)).mono ?_; rintro e q2 ⟨rfl, b2⟩; have b12 := below_trans b1 b2; have p0 := (s0.below b12).cell 0 _ rfl; have p1 := (s0.below b12).cell 1 _ rfl; have p2 := (s0.below b12).cell 2 _ rfl; have p3 := (s0.below b12).cell 3 _ rfl; have p4 := (s0.below b12).cell 4 _ rfl; have zz0 := (s2.below b12).cell 0 _ rfl; have zz1 := (s2.below b12).cell 1 _ rfl; have zz2 := (s2.below b12).cell 2 _ rfl; have zz3 := (s2.below b12).cell 3 _ rfl; have zz4 := (s2.below b12).cell 4 _ rfl; have zf := (s2.below b12).free) | (go_at_call 25; refine (cl _).mono ?_; rintro e q3 ⟨rfl, rfl⟩))
        obtain ⟨g1, g2⟩ := set5q (s2.below b12) (.slice none 0 0) (.slice none 0 0) (.slice none 0 0) (.slice none 0 0) (.slice none 0 0)
        have J7 := below_set (below_set (below_set (below_set (below_set (below_trans bw b12) (w.heap.size + 1) 0 (.slice none 0 0) (by omega)) (w.heap.size + 1) 1 (.slice none 0 0) (by omega)) (w.heap.size + 1) 2 (.slice none 0 0) (by omega)) (w.heap.size + 1) 3 (.slice none 0 0) (by omega)) (w.heap.size + 1) 4 (.slice none 0 0) (by omega)
        (try simp only [Exit.inBlock, Exit.then])
        refine bodyPost_ret (res_row2 rfl _ _ (w.heap.size + 1) 26 _ (0, 0) _ rfl g1 Try.underlying26 rfl (show _ = some 5 by kernel_rfl)) rfl ?_
        exact ⟨nilDv, rfl, OwQ.nil _, J7⟩
      · rw [act_yes c1 (by decide) (by decide) c2 (fun h => by omega)]
        have hD : doD d 1 (layF d 1) d.code.length (layF d 1).length (ladF 1) = ⟨(d.code ++ [(4, 0)]), d.origs ++ [(d.code.length : Int)], d.dests, d.loops, d.cases⟩ := by simp [doD, layF, ladF]
        rw [hD]
        clear hD
        go_enter Try.func11, Try.ntmps11
        go_upto_region 1 with fail
        generalize (w.alloc (.cells #[x0, x1, x2, x3, x4] 26)).alloc (.cells #[.slice none 0 0, .slice none 0 0, .slice none 0 0, .slice none 0 0, .slice none 0 0] 26) = W0 at s0 s2 bw ⊢
        have f0 := s0.cell 0 _ rfl
        have f1 := s0.cell 1 _ rfl
        have f2 := s0.cell 2 _ rfl
        have f3 := s0.cell 3 _ rfl
        have f4 := s0.cell 4 _ rfl
        go_upto_region 9 with (first | (go_at_call 13; refine (cf _ bw).mono ?_; rintro e q1 ⟨rfl, b1⟩; have p0 := (s0.below b1).cell 0 _ rfl; have p1 := (s0.below b1).cell 1 _ rfl; have p2 := (s0.below b1).cell 2 _ rfl; have p3 := (s0.below b1).cell 3 _ rfl; have p4 := (s0.below b1).cell 4 _ rfl; have zz0 := (s2.below b1).cell 0 _ rfl; have zz1 := (s2.below b1).cell 1 _ rfl; have zz2 := (s2.below b1).cell 2 _ rfl; have zz3 := (s2.below b1).cell 3 _ rfl; have zz4 := (s2.below b1).cell 4 _ rfl; have zf := (s2.below b1).free) | (go_at_call 24; refine (ck _ (below_trans bw b1)).mono ?_; rintro e q2 ⟨rfl, b2⟩; have b12 := below_trans b1 b2; have p0 := (s0.below b12).cell 0 _ rfl; have p1 := (s0.below b12).cell 1 _ rfl; have p2 := (s0.below b12).cell 2 _ rfl; have p3 := (s0.below b12).cell 3 _ rfl; have p4 := (s0.below b12).cell 4 _ rfl; have zz0 := (s2.below b12).cell 0 _ rfl; have zz1 := (s2.below b12).cell 1 _ rfl; have zz2 := (s2.below b12).cell 2 _ rfl; have zz3 := (s2.below b12).cell 3 _ rfl; have zz4 := (s2.below b12).cell 4 _ rfl; have zf := (s2.below b12).free) | (go_at_call 25; refine (cl _).mono ?_; rintro e q3 ⟨rfl, rfl⟩) | (go_at_call 9; refine (CC.out _ (below_trans bw b12)).mono ?_; rintro e q4 ⟨v1, t1, t2, t3, rfl, oD, b4⟩; obtain ⟨cs0, r0⟩ := oD.code.row; obtain ⟨ca, cq, e0⟩ := own_form r0; obtain ⟨oa, oq, e1⟩ := own_form oD.origs; obtain ⟨da, dq, e2⟩ := own_form oD.dests; obtain ⟨cs3, r3⟩ := oD.loops.own.row; obtain ⟨la, lq, e3⟩ := own_form r3; obtain ⟨cs4, r4⟩ := oD.cases.own.row; obtain ⟨ka, kq, e4⟩ := own_form r4; obtain ⟨y0, y1, y2, y3, y4⟩ := v1; (try dsimp only at e0 e1 e2 e3 e4); subst e0 e1 e2 e3 e4; simp only [Dv.cs]))
        have bo := box_below q4 (.cells #[.slice ca d.code.length cq, .slice oa d.origs.length oq, .slice da d.dests.length dq, .slice la d.loops.length lq, .slice ka d.cases.length kq] 26)
        have so := stands_new q4 #[.slice ca d.code.length cq, .slice oa d.origs.length oq, .slice da d.dests.length dq, .slice la d.loops.length lq, .slice ka d.cases.length kq] 26
        have oD4 := oD.below bo
        have b15 := below_trans (below_trans b12 b4) bo
        have B15 := below_trans bw b15
        have sz4 := s2.below b15
        obtain ⟨BX, hBX⟩ : ∃ B, q4.heap.size = B := ⟨_, rfl⟩
        have hW0 : w.heap.size + 1 < W0.heap.size := (Array.getElem?_eq_some_iff.1 s2).1
        have hWq : W0.heap.size ≤ q3.heap.size := b12.size
        have hBq : q3.heap.size ≤ BX := by rw [← hBX]; exact b4.size
        have hBs : q3.heap.size ≤ (q4.alloc (.cells #[.slice ca d.code.length cq, .slice oa d.origs.length oq, .slice da d.dests.length dq, .slice la d.loops.length lq, .slice ka d.cases.length kq] 26)).heap.size := Nat.le_trans b4.size bo.size
        obtain ⟨base, hba⟩ : ∃ B, q3.heap.size = B := ⟨_, rfl⟩
        rw [hBX] at so
        simp only [hBX]
        rw [hba] at oD4 hBq hWq hBs
        generalize q4.alloc (.cells #[.slice ca d.code.length cq, .slice oa d.origs.length oq, .slice da d.dests.length dq, .slice la d.loops.length lq, .slice ka d.cases.length kq] 26) = q5 at so oD4 sz4 B15 hBs ⊢
        clear bo b15 oD b4 hba hBX b12 f0 f1 f2 f3 f4 bw s0 s2 r0 r3 r4
        have u0 := so.cell 0 _ rfl
        go_upto_region 11 with fail
        have bX := box_below q5 (.cells #[.int .i64 4, .int .u32 0] 37)
        have oDX := oD4.below bX
        obtain ⟨rows, p1, p2, p3, p4⟩ := oDX.code
        obtain ⟨i9, hi9, hz9, hz8, hz7⟩ := info_parts infoOp10
        have one : ∀ r ∈ [[Value.int .i64 4, .int .u32 0]], ∀ u ∈ r, u.oneCell' = true := fun r hr u hu => by rw [List.mem_singleton] at hr; subst hr; simp at hu; rcases hu with rfl | rfl <;> rfl
        have P1 := hid p1
        have P2 := hid p2
        have P4 := hid p4
        have OX := hid oDX
        clear p1 p2 p4 oDX oD4
        go_upto_region 12 with (at_builtin; refine wpList_append_rows rfl _ _ 22 rfl base 37 i9 _ 2 16 Try.underlying22 hi9 hz9 hz8 hz7 rfl (by decide) _ d.code.length _ rfl p3 _ [[Value.int .i64 4, .int .u32 0]] rfl (slc_one q5 [Value.int .i64 4, .int .u32 0] 37 2 rfl) one (by unfold maxLen; simp only [List.length_singleton]; omega) (by simp only [List.length_singleton]; omega) (Nat.le_trans hBs bX.size) ?_; intro v9 w9 ho9 hg9; obtain ⟨a9, c9, rfl⟩ := own_form ho9; have so9 := Stands.grown (so.below bX) hg9 (stands_apart (so.below bX) p3 (by decide)); have y2 := so9.cell 0 _ rfl; have yg := so9.free 0)
        have kW := Kept.own p3 hg9
        have szF := (Stands.grown (sz4.below bX) hg9 (stands_apart (sz4.below bX) p3 (by decide))).other (b' := BX) 0 (.slice a9 (d.code.length + [[Value.int .i64 4, .int .u32 0]].length) c9) (by omega)
        have oC9 : OwC base w9 (.slice a9 (d.code.length + 1) c9) (d.code ++ [(4, 0)]) := OwnR.snoc (e := 37) (O := opR) opR_apt10 P1.out P2.out p3 P4.out rfl (x := (4, 0)) rfl (by simpa using ho9) hg9
        have oD9 := OX.out.code' kW oC9
        have oDF := oD9.kept (set_kept so9 0 (.slice a9 (d.code.length + [[Value.int .i64 4, .int .u32 0]].length) c9)) (by decide) (by decide) (by decide)
        have soF := so9.set 0 (.slice a9 (d.code.length + [[Value.int .i64 4, .int .u32 0]].length) c9)
        have BF := below_set (below_grown (below_trans B15 bX) hg9 (fun q hq => by have := (p3.lt q hq).1; omega)) BX 0 (.slice a9 (d.code.length + [[Value.int .i64 4, .int .u32 0]].length) c9) (by omega)
        have hsF : base ≤ (w9.setCell ⟨BX, 0, none⟩ (.slice a9 (d.code.length + [[Value.int .i64 4, .int .u32 0]].length) c9)).heap.size := Nat.le_trans hBs (Nat.le_trans bX.size (Nat.le_trans hg9.size (set_kept so9 0 (.slice a9 (d.code.length + [[Value.int .i64 4, .int .u32 0]].length) c9)).size))
        generalize w9.setCell ⟨BX, 0, none⟩ (.slice a9 (d.code.length + [[Value.int .i64 4, .int .u32 0]].length) c9) = q9 at szF oDF soF BF hsF ⊢
        have soF : Stands q9 BX #[.slice a9 (d.code.length + 1) c9, .slice oa d.origs.length oq, .slice da d.dests.length dq, .slice la d.loops.length lq, .slice ka d.cases.length kq] 26 := soF
        clear p3 ho9 hg9 kW oD9 oC9 so9 y2 yg bX so sz4 B15 u0 one OX P1 P2 P4
        have u0 := soF.cell 0 _ rfl
        have u1 := soF.cell 1 _ rfl
        have u2 := soF.cell 2 _ rfl
        have u3 := soF.cell 3 _ rfl
        have u4 := soF.cell 4 _ rfl
        go_upto_region 13 with fail
        have bd : Below q9.heap.size q9 q9.drew := below_drewN (Below.refl q9.heap.size q9) 1
        have soD := soF.below bd
        have szD := szF.below bd
        have oDD := oDF.below bd
        have BD := below_trans BF bd
        have hsD := Nat.le_trans hsF bd.size
        clear oDF
        go_region
        go_upto_region 16 with fail
        generalize q9.drew = q10 at soD szD oDD BD hsD bd ⊢
        clear soF szF BF hsF u0 u1 u2 u3 u4 bd
        have soA := soD
        have szA := szD
        have BA := BD
        have hsA := hsD
        have oD0 := oDD
        have uA := Out.refl base t1 q10
        have cA := oDD.code
        have pA := oDD.origs
        have prA : ∀ k, (Value.slice oa d.origs.length oq).ownBlock = some k → base ≤ k ∧ k < t1 := fun k hk => ⟨(oDD.origs.lt k hk).1, oDD.origsL k hk⟩
        have ze1 := ze.origs
        generalize q10 = qa at soA szA BA hsA oD0 uA cA pA soD szD oDD BD hsD ⊢
        clear soD szD oDD BD hsD
        have u0 := soA.cell 1 _ rfl
        have bX := box_below qa (.cells #[.int .i64 (d.code.length : Int)] 3)
        have soX := soA.below bX
        have szX := szA.below bX
        have pX := own_below pA bX
        have hsX := Nat.le_trans hsA bX.size
        obtain ⟨i8, hi8, hz6, hz5, hz4⟩ := info_parts infoJ10
        have hlY : (d.origs ++ [(d.code.length : Int)]).length = d.origs.length + 1 := by simp
        have UA := hid uA
        have CA := hid cA
        have O0 := hid oD0
        clear uA cA oD0
        go_upto_region 52 with (at_builtin; refine wpList_append_rd (k := .i64) rfl _ _ 23 rfl base 3 i8 8 Try.underlying23 hi8 hz6 hz5 hz4 _ d.origs rfl pX _ [(d.code.length : Int)] rfl (rd_one qa (d.code.length : Int) 3) (by unfold maxLen; simp; omega) (by simp; omega) hsX ?_; intro v9 w9 ho9 hg9; rw [hlY] at ho9; obtain ⟨a8, c8, rfl⟩ := own_form ho9; have so9 := Stands.grown soX hg9 (stands_apart soX pX (by decide)); have y2 := so9.cell 1 _ rfl; have yg := so9.free 1)
        have soZ := so9.set 1 (.slice a8 (d.origs.length + 1) c8)
        have szZ := (Stands.grown szX hg9 (stands_apart szX pX (by decide))).other (b' := BX) 1 (.slice a8 (d.origs.length + 1) c8) (by omega)
        have oE9 := OwD.toO O0.out (UA.out.trans ((Out.below bX).trans (Out.grown hg9 prA))) (OwnR.kept (OwnR.below CA.out bX (fun _ _ q => q)) (Kept.own pX hg9) (by decide) opR_apt10) (xs := d.origs ++ [(d.code.length : Int)]) (by rw [hlY]; exact ho9)
        have oEZ := oE9.kept (set_kept so9 1 (.slice a8 (d.origs.length + 1) c8)) (by decide) (by decide) (by decide)
        have BZ := below_set (below_grown (below_trans BA bX) hg9 (fun q hq => by have := (pX.lt q hq).1; omega)) BX 1 (.slice a8 (d.origs.length + 1) c8) (by omega)
        generalize w9.setCell ⟨BX, 1, none⟩ (.slice a8 (d.origs.length + 1) c8) = qz at soZ szZ oEZ BZ ⊢
        have soZ : Stands qz BX #[.slice a9 (d.code.length + 1) c9, .slice a8 (d.origs.length + 1) c8, .slice da d.dests.length dq, .slice la d.loops.length lq, .slice ka d.cases.length kq] 26 := soZ
        clear oE9 so9 y2 yg ho9 hg9 pX pA soX soA szX szA BA bX UA CA O0
        have u0 := soZ.cell 0 _ rfl
        have u1 := soZ.cell 1 _ rfl
        have u2 := soZ.cell 2 _ rfl
        have u3 := soZ.cell 3 _ rfl
        have u4 := soZ.cell 4 _ rfl
        have zz0 := szZ.cell 0 _ rfl
        have zz1 := szZ.cell 1 _ rfl
        have zz2 := szZ.cell 2 _ rfl
        have zz3 := szZ.cell 3 _ rfl
        have zz4 := szZ.cell 4 _ rfl
        have zf := szZ.free
        obtain ⟨g1, g2⟩ := set5q szZ (.slice a9 (d.code.length + 1) c9) (.slice a8 (d.origs.length + 1) c8) (.slice da d.dests.length dq) (.slice la d.loops.length lq) (.slice ka d.cases.length kq)
        have G1 := hid g1
        have GM := hid (g2 (fun u => OwE base u ⟨.slice a9 (d.code.length + 1) c9, .slice a8 (d.origs.length + 1) c8, .slice da d.dests.length dq, .slice la d.loops.length lq, .slice ka d.cases.length kq⟩ ⟨(d.code ++ [(4, 0)]), d.origs ++ [(d.code.length : Int)], d.dests, d.loops, d.cases⟩) (fun u u' kk q => q.kept kk (by decide) (by decide) (by decide)) oEZ)
        have J7 : Hid (Below w.heap.size w _) := below_set (below_set (below_set (below_set (below_set (BZ) (w.heap.size + 1) 0 (.slice a9 (d.code.length + 1) c9) (by omega)) (w.heap.size + 1) 1 (.slice a8 (d.origs.length + 1) c8) (by omega)) (w.heap.size + 1) 2 (.slice da d.dests.length dq) (by omega)) (w.heap.size + 1) 3 (.slice la d.loops.length lq) (by omega)) (w.heap.size + 1) 4 (.slice ka d.cases.length kq) (by omega)
        clear g1 g2 oEZ BZ szZ soZ
        go_wp2_with fail
        (try simp only [Exit.inBlock, Exit.then])
        refine bodyPost_ret (res_row2 rfl _ _ (w.heap.size + 1) 26 _ (0, 0) _ rfl G1.out Try.underlying26 rfl (show _ = some 5 by kernel_rfl)) rfl ?_
        exact ⟨⟨.slice a9 (d.code.length + 1) c9, .slice a8 (d.origs.length + 1) c8, .slice da d.dests.length dq, .slice la d.loops.length lq, .slice ka d.cases.length kq⟩, rfl, ⟨_, GM.out⟩, J7.out⟩

set_option maxHeartbeats 8000000 in
set_option maxRecDepth 100000 in
theorem w_r10act2 (v : Dv) (d : Dft) (w : World) (h : RdD w v d) (z : szD d) (ze : szE d) :
    Calls Try.prog 11 #[.agg v.cs, .int .i64 2] w fun e w' => ∃ v1, e = .returned (.tuple #[.agg (Dv.cs v1), .int .i64 (actD d 2).2]) ∧ OwQ w' v1 (actD d 2).1 ∧ Below w.heap.size w w' := by
  have cf := fun W (b : Below w.heap.size w W) => w_r10formed v d W (h.below b)
  have ck := fun W (b : Below w.heap.size w W) => w_r10lacks v d 2 W (h.below b) (by decide) (by decide)
  have cl := fun W => w_r10laid 2 W (by decide) (by decide)
  rw [show ladF 2 = 3 from rfl] at cl
  have cc := fun W (b : Below w.heap.size w W) => w_r10copy v d W (h.below b) z
  have l0 := slr_len h.code uO (P := Try.prog)
  have m1 := rd_maxI h.origs
  have m2 := rd_maxI h.dests
  have m3 := slr_max h.loops
  have m4 := slr_max h.cases
  unfold maxLen at m1 m2 m3 m4
  have s0 := (stands_new w v.cs 26).below (box_below _ (.cells #[.slice none 0 0, .slice none 0 0, .slice none 0 0, .slice none 0 0, .slice none 0 0] 26))
  have s2 := stands_new (w.alloc (.cells v.cs 26)) #[.slice none 0 0, .slice none 0 0, .slice none 0 0, .slice none 0 0, .slice none 0 0] 26
  rw [size_al] at s2
  have bw := below_trans (box_below w (.cells v.cs 26)) (box_below _ (.cells #[.slice none 0 0, .slice none 0 0, .slice none 0 0, .slice none 0 0, .slice none 0 0] 26))
  have CC := hid cc
  clear cc z h
  obtain ⟨x0, x1, x2, x3, x4⟩ := v
  simp only [Dv.cs] at cf ck s0 s2 bw l0 CC ⊢
  cases c1 : frmD d with
  | false =>
    rw [act_no1 c1]
    simp only [c1] at cf
    clear ck m1 m2 m3 m4
    go_enter Try.func11, Try.ntmps11
    go_upto_region 1 with fail
    generalize (w.alloc (.cells #[x0, x1, x2, x3, x4] 26)).alloc (.cells #[.slice none 0 0, .slice none 0 0, .slice none 0 0, .slice none 0 0, .slice none 0 0] 26) = W0 at s0 s2 bw ⊢
    have f0 := s0.cell 0 _ rfl
    have f1 := s0.cell 1 _ rfl
    have f2 := s0.cell 2 _ rfl
    have f3 := s0.cell 3 _ rfl
    have f4 := s0.cell 4 _ rfl
    go_wp2_with (first | (go_at_call 13; refine (cf _ bw).mono ?_; rintro e q1 ⟨rfl, b1⟩; have p0 := (s0.below b1).cell 0 _ rfl; have p1 := (s0.below b1).cell 1 _ rfl; have p2 := (s0.below b1).cell 2 _ rfl; have p3 := (s0.below b1).cell 3 _ rfl; have p4 := (s0.below b1).cell 4 _ rfl; have zz0 := (s2.below b1).cell 0 _ rfl; have zz1 := (s2.below b1).cell 1 _ rfl; have zz2 := (s2.below b1).cell 2 _ rfl; have zz3 := (s2.below b1).cell 3 _ rfl; have zz4 := (s2.below b1).cell 4 _ rfl; have zf := (s2.below b1).free))
    obtain ⟨g1, g2⟩ := set5q (s2.below b1) (.slice none 0 0) (.slice none 0 0) (.slice none 0 0) (.slice none 0 0) (.slice none 0 0)
    have J7 := below_set (below_set (below_set (below_set (below_set (below_trans bw b1) (w.heap.size + 1) 0 (.slice none 0 0) (by omega)) (w.heap.size + 1) 1 (.slice none 0 0) (by omega)) (w.heap.size + 1) 2 (.slice none 0 0) (by omega)) (w.heap.size + 1) 3 (.slice none 0 0) (by omega)) (w.heap.size + 1) 4 (.slice none 0 0) (by omega)
    (try simp only [Exit.inBlock, Exit.then])
    refine bodyPost_ret (res_row2 rfl _ _ (w.heap.size + 1) 26 _ (0, 0) _ rfl g1 Try.underlying26 rfl (show _ = some 5 by kernel_rfl)) rfl ?_
    exact ⟨nilDv, rfl, OwQ.nil _, J7⟩
  | true =>
    simp only [c1] at cf
    cases c2 : lakF d 2 with
    | true =>
      rw [act_no2 c1 (by decide) (by decide) c2]
      simp only [c2] at ck
      clear m1 m2 m3 m4
      go_enter Try.func11, Try.ntmps11
      go_upto_region 1 with fail
      generalize (w.alloc (.cells #[x0, x1, x2, x3, x4] 26)).alloc (.cells #[.slice none 0 0, .slice none 0 0, .slice none 0 0, .slice none 0 0, .slice none 0 0] 26) = W0 at s0 s2 bw ⊢
      have f0 := s0.cell 0 _ rfl
      have f1 := s0.cell 1 _ rfl
      have f2 := s0.cell 2 _ rfl
      have f3 := s0.cell 3 _ rfl
      have f4 := s0.cell 4 _ rfl
      go_wp2_with (first | (go_at_call 13; refine (cf _ bw).mono ?_; rintro e q1 ⟨rfl, b1⟩; have p0 := (s0.below b1).cell 0 _ rfl; have p1 := (s0.below b1).cell 1 _ rfl; have p2 := (s0.below b1).cell 2 _ rfl; have p3 := (s0.below b1).cell 3 _ rfl; have p4 := (s0.below b1).cell 4 _ rfl; have zz0 := (s2.below b1).cell 0 _ rfl; have zz1 := (s2.below b1).cell 1 _ rfl; have zz2 := (s2.below b1).cell 2 _ rfl; have zz3 := (s2.below b1).cell 3 _ rfl; have zz4 := (s2.below b1).cell 4 _ rfl; have zf := (s2.below b1).free) | (go_at_call 24; refine (ck _ (below_trans bw b1)).mono ?_; rintro e q2 ⟨rfl, b2⟩; have b12 := below_trans b1 b2; have p0 := (s0.below b12).cell 0 _ rfl; have p1 := (s0.below b12).cell 1 _ rfl; have p2 := (s0.below b12).cell 2 _ rfl; have p3 := (s0.below b12).cell 3 _ rfl; have p4 := (s0.below b12).cell 4 _ rfl; have zz0 := (s2.below b12).cell 0 _ rfl; have zz1 := (s2.below b12).cell 1 _ rfl; have zz2 := (s2.below b12).cell 2 _ rfl; have zz3 := (s2.below b12).cell 3 _ rfl; have zz4 := (s2.below b12).cell 4 _ rfl; have zf := (s2.below b12).free))
      obtain ⟨g1, g2⟩ := set5q (s2.below b12) (.slice none 0 0) (.slice none 0 0) (.slice none 0 0) (.slice none 0 0) (.slice none 0 0)
      have J7 := below_set (below_set (below_set (below_set (below_set (below_trans bw b12) (w.heap.size + 1) 0 (.slice none 0 0) (by omega)) (w.heap.size + 1) 1 (.slice none 0 0) (by omega)) (w.heap.size + 1) 2 (.slice none 0 0) (by omega)) (w.heap.size + 1) 3 (.slice none 0 0) (by omega)) (w.heap.size + 1) 4 (.slice none 0 0) (by omega)
      (try simp only [Exit.inBlock, Exit.then])
      refine bodyPost_ret (res_row2 rfl _ _ (w.heap.size + 1) 26 _ (0, 0) _ rfl g1 Try.underlying26 rfl (show _ = some 5 by kernel_rfl)) rfl ?_
      exact ⟨nilDv, rfl, OwQ.nil _, J7⟩
    | false =>
      simp only [c2] at ck
      by_cases c3 : (256 : Int) ≤ d.code.length
      · rw [act_no3 c1 (by decide) (by decide) c2 (by decide) (by omega)]
        clear m1 m2 m3 m4
        go_enter Try.func11, Try.ntmps11
        go_upto_region 1 with fail
        generalize (w.alloc (.cells #[x0, x1, x2, x3, x4] 26)).alloc (.cells #[.slice none 0 0, .slice none 0 0, .slice none 0 0, .slice none 0 0, .slice none 0 0] 26) = W0 at s0 s2 bw ⊢
        have f0 := s0.cell 0 _ rfl
        have f1 := s0.cell 1 _ rfl
        have f2 := s0.cell 2 _ rfl
        have f3 := s0.cell 3 _ rfl
        have f4 := s0.cell 4 _ rfl
        go_wp2_with (first | (go_at_call 13; refine (cf _ bw).mono ?_; rintro e q1 ⟨rfl, b1⟩; have p0 := (s0.below b1).cell 0 _ rfl; have p1 := (s0.below b1).cell 1 _ rfl; have p2 := (s0.below b1).cell 2 _ rfl; have p3 := (s0.below b1).cell 3 _ rfl; have p4 := (s0.below b1).cell 4 _ rfl; have zz0 := (s2.below b1).cell 0 _ rfl; have zz1 := (s2.below b1).cell 1 _ rfl; have zz2 := (s2.below b1).cell 2 _ rfl; have zz3 := (s2.below b1).cell 3 _ rfl; have zz4 := (s2.below b1).cell 4 _ rfl; have zf := (s2.below b1).free) | (go_at_call 24; refine (ck _ (below_trans bw b1)).mono ?_; rintro e q2 ⟨rfl, b2⟩; have b12 := below_trans b1 b2; have p0 := (s0.below b12).cell 0 _ rfl; have p1 := (s0.below b12).cell 1 _ rfl; have p2 := (s0.below b12).cell 2 _ rfl; have p3 := (s0.below b12).cell 3 _ rfl; have p4 := (s0.below b12).cell 4 _ rfl; have zz0 := (s2.below b12).cell 0 _ rfl; have zz1 := (s2.below b12).cell 1 _ rfl; have zz2 := (s2.below b12).cell 2 _ rfl; have zz3 := (s2.below b12).cell 3 _ rfl; have zz4 := (s2.below b12).cell 4 _ rfl; have zf := (s2.below b12).free) | (go_at_call 25; refine (cl _).mono ?_; rintro e q3 ⟨rfl, rfl⟩))
        obtain ⟨g1, g2⟩ := set5q (s2.below b12) (.slice none 0 0) (.slice none 0 0) (.slice none 0 0) (.slice none 0 0) (.slice none 0 0)
        have J7 := below_set (below_set (below_set (below_set (below_set (below_trans bw b12) (w.heap.size + 1) 0 (.slice none 0 0) (by omega)) (w.heap.size + 1) 1 (.slice none 0 0) (by omega)) (w.heap.size + 1) 2 (.slice none 0 0) (by omega)) (w.heap.size + 1) 3 (.slice none 0 0) (by omega)) (w.heap.size + 1) 4 (.slice none 0 0) (by omega)
        (try simp only [Exit.inBlock, Exit.then])
        refine bodyPost_ret (res_row2 rfl _ _ (w.heap.size + 1) 26 _ (0, 0) _ rfl g1 Try.underlying26 rfl (show _ = some 5 by kernel_rfl)) rfl ?_
        exact ⟨nilDv, rfl, OwQ.nil _, J7⟩
      · rw [act_yes c1 (by decide) (by decide) c2 (fun h => by omega)]
        have hD : doD d 2 (layF d 2) d.code.length (layF d 2).length (ladF 2) = ⟨(d.code ++ [(3, 0)]), d.origs.set (d.origs.length - 1) (d.code.length : Int) ++ [nwI d.origs], d.dests, d.loops, d.cases⟩ := by simp [doD, layF, ladF]
        rw [hD]
        clear hD
        go_enter Try.func11, Try.ntmps11
        go_upto_region 1 with fail
        generalize (w.alloc (.cells #[x0, x1, x2, x3, x4] 26)).alloc (.cells #[.slice none 0 0, .slice none 0 0, .slice none 0 0, .slice none 0 0, .slice none 0 0] 26) = W0 at s0 s2 bw ⊢
        have f0 := s0.cell 0 _ rfl
        have f1 := s0.cell 1 _ rfl
        have f2 := s0.cell 2 _ rfl
        have f3 := s0.cell 3 _ rfl
        have f4 := s0.cell 4 _ rfl
        go_upto_region 9 with (first | (go_at_call 13; refine (cf _ bw).mono ?_; rintro e q1 ⟨rfl, b1⟩; have p0 := (s0.below b1).cell 0 _ rfl; have p1 := (s0.below b1).cell 1 _ rfl; have p2 := (s0.below b1).cell 2 _ rfl; have p3 := (s0.below b1).cell 3 _ rfl; have p4 := (s0.below b1).cell 4 _ rfl; have zz0 := (s2.below b1).cell 0 _ rfl; have zz1 := (s2.below b1).cell 1 _ rfl; have zz2 := (s2.below b1).cell 2 _ rfl; have zz3 := (s2.below b1).cell 3 _ rfl; have zz4 := (s2.below b1).cell 4 _ rfl; have zf := (s2.below b1).free) | (go_at_call 24; refine (ck _ (below_trans bw b1)).mono ?_; rintro e q2 ⟨rfl, b2⟩; have b12 := below_trans b1 b2; have p0 := (s0.below b12).cell 0 _ rfl; have p1 := (s0.below b12).cell 1 _ rfl; have p2 := (s0.below b12).cell 2 _ rfl; have p3 := (s0.below b12).cell 3 _ rfl; have p4 := (s0.below b12).cell 4 _ rfl; have zz0 := (s2.below b12).cell 0 _ rfl; have zz1 := (s2.below b12).cell 1 _ rfl; have zz2 := (s2.below b12).cell 2 _ rfl; have zz3 := (s2.below b12).cell 3 _ rfl; have zz4 := (s2.below b12).cell 4 _ rfl; have zf := (s2.below b12).free) | (go_at_call 25; refine (cl _).mono ?_; rintro e q3 ⟨rfl, rfl⟩) | (go_at_call 9; refine (CC.out _ (below_trans bw b12)).mono ?_; rintro e q4 ⟨v1, t1, t2, t3, rfl, oD, b4⟩; obtain ⟨cs0, r0⟩ := oD.code.row; obtain ⟨ca, cq, e0⟩ := own_form r0; obtain ⟨oa, oq, e1⟩ := own_form oD.origs; obtain ⟨da, dq, e2⟩ := own_form oD.dests; obtain ⟨cs3, r3⟩ := oD.loops.own.row; obtain ⟨la, lq, e3⟩ := own_form r3; obtain ⟨cs4, r4⟩ := oD.cases.own.row; obtain ⟨ka, kq, e4⟩ := own_form r4; obtain ⟨y0, y1, y2, y3, y4⟩ := v1; (try dsimp only at e0 e1 e2 e3 e4); subst e0 e1 e2 e3 e4; simp only [Dv.cs]))
        have bo := box_below q4 (.cells #[.slice ca d.code.length cq, .slice oa d.origs.length oq, .slice da d.dests.length dq, .slice la d.loops.length lq, .slice ka d.cases.length kq] 26)
        have so := stands_new q4 #[.slice ca d.code.length cq, .slice oa d.origs.length oq, .slice da d.dests.length dq, .slice la d.loops.length lq, .slice ka d.cases.length kq] 26
        have oD4 := oD.below bo
        have b15 := below_trans (below_trans b12 b4) bo
        have B15 := below_trans bw b15
        have sz4 := s2.below b15
        obtain ⟨BX, hBX⟩ : ∃ B, q4.heap.size = B := ⟨_, rfl⟩
        have hW0 : w.heap.size + 1 < W0.heap.size := (Array.getElem?_eq_some_iff.1 s2).1
        have hWq : W0.heap.size ≤ q3.heap.size := b12.size
        have hBq : q3.heap.size ≤ BX := by rw [← hBX]; exact b4.size
        have hBs : q3.heap.size ≤ (q4.alloc (.cells #[.slice ca d.code.length cq, .slice oa d.origs.length oq, .slice da d.dests.length dq, .slice la d.loops.length lq, .slice ka d.cases.length kq] 26)).heap.size := Nat.le_trans b4.size bo.size
        obtain ⟨base, hba⟩ : ∃ B, q3.heap.size = B := ⟨_, rfl⟩
        rw [hBX] at so
        simp only [hBX]
        rw [hba] at oD4 hBq hWq hBs
        generalize q4.alloc (.cells #[.slice ca d.code.length cq, .slice oa d.origs.length oq, .slice da d.dests.length dq, .slice la d.loops.length lq, .slice ka d.cases.length kq] 26) = q5 at so oD4 sz4 B15 hBs ⊢
        clear bo b15 oD b4 hba hBX b12 f0 f1 f2 f3 f4 bw s0 s2 r0 r3 r4
        have u0 := so.cell 0 _ rfl
        go_upto_region 11 with fail
        have bX := box_below q5 (.cells #[.int .i64 3, .int .u32 0] 37)
        have oDX := oD4.below bX
        obtain ⟨rows, p1, p2, p3, p4⟩ := oDX.code
        obtain ⟨i9, hi9, hz9, hz8, hz7⟩ := info_parts infoOp10
        have one : ∀ r ∈ [[Value.int .i64 3, .int .u32 0]], ∀ u ∈ r, u.oneCell' = true := fun r hr u hu => by rw [List.mem_singleton] at hr; subst hr; simp at hu; rcases hu with rfl | rfl <;> rfl
        have P1 := hid p1
        have P2 := hid p2
        have P4 := hid p4
        have OX := hid oDX
        clear p1 p2 p4 oDX oD4
        go_upto_region 12 with (at_builtin; refine wpList_append_rows rfl _ _ 22 rfl base 37 i9 _ 2 16 Try.underlying22 hi9 hz9 hz8 hz7 rfl (by decide) _ d.code.length _ rfl p3 _ [[Value.int .i64 3, .int .u32 0]] rfl (slc_one q5 [Value.int .i64 3, .int .u32 0] 37 2 rfl) one (by unfold maxLen; simp only [List.length_singleton]; omega) (by simp only [List.length_singleton]; omega) (Nat.le_trans hBs bX.size) ?_; intro v9 w9 ho9 hg9; obtain ⟨a9, c9, rfl⟩ := own_form ho9; have so9 := Stands.grown (so.below bX) hg9 (stands_apart (so.below bX) p3 (by decide)); have y2 := so9.cell 0 _ rfl; have yg := so9.free 0)
        have kW := Kept.own p3 hg9
        have szF := (Stands.grown (sz4.below bX) hg9 (stands_apart (sz4.below bX) p3 (by decide))).other (b' := BX) 0 (.slice a9 (d.code.length + [[Value.int .i64 3, .int .u32 0]].length) c9) (by omega)
        have oC9 : OwC base w9 (.slice a9 (d.code.length + 1) c9) (d.code ++ [(3, 0)]) := OwnR.snoc (e := 37) (O := opR) opR_apt10 P1.out P2.out p3 P4.out rfl (x := (3, 0)) rfl (by simpa using ho9) hg9
        have oD9 := OX.out.code' kW oC9
        have oDF := oD9.kept (set_kept so9 0 (.slice a9 (d.code.length + [[Value.int .i64 3, .int .u32 0]].length) c9)) (by decide) (by decide) (by decide)
        have soF := so9.set 0 (.slice a9 (d.code.length + [[Value.int .i64 3, .int .u32 0]].length) c9)
        have BF := below_set (below_grown (below_trans B15 bX) hg9 (fun q hq => by have := (p3.lt q hq).1; omega)) BX 0 (.slice a9 (d.code.length + [[Value.int .i64 3, .int .u32 0]].length) c9) (by omega)
        have hsF : base ≤ (w9.setCell ⟨BX, 0, none⟩ (.slice a9 (d.code.length + [[Value.int .i64 3, .int .u32 0]].length) c9)).heap.size := Nat.le_trans hBs (Nat.le_trans bX.size (Nat.le_trans hg9.size (set_kept so9 0 (.slice a9 (d.code.length + [[Value.int .i64 3, .int .u32 0]].length) c9)).size))
        generalize w9.setCell ⟨BX, 0, none⟩ (.slice a9 (d.code.length + [[Value.int .i64 3, .int .u32 0]].length) c9) = q9 at szF oDF soF BF hsF ⊢
        have soF : Stands q9 BX #[.slice a9 (d.code.length + 1) c9, .slice oa d.origs.length oq, .slice da d.dests.length dq, .slice la d.loops.length lq, .slice ka d.cases.length kq] 26 := soF
        clear p3 ho9 hg9 kW oD9 oC9 so9 y2 yg bX so sz4 B15 u0 one OX P1 P2 P4
        have u0 := soF.cell 0 _ rfl
        have u1 := soF.cell 1 _ rfl
        have u2 := soF.cell 2 _ rfl
        have u3 := soF.cell 3 _ rfl
        have u4 := soF.cell 4 _ rfl
        go_upto_region 13 with fail
        have hp := lak_o (Or.inl rfl) c2
        obtain ⟨go, cz, ez⟩ := own_some oDF.origs hp
        obtain ⟨rfl, rfl⟩ := slice_inj ez
        clear ez
        have bd : Below q9.heap.size q9 q9.drew := below_drewN (Below.refl q9.heap.size q9) 1
        have soD := soF.below bd
        have szD := szF.below bd
        have oDD := oDF.below bd
        have BD := below_trans BF bd
        have hsD := Nat.le_trans hsF bd.size
        clear oDF
        go_region
        have ix := idx_int go d.origs.length oq hp
        go_upto_region 18 with fail
        generalize q9.drew = q10 at soD szD oDD BD hsD bd ⊢
        clear soF szF BF hsF u0 u1 u2 u3 u4 bd
        have u1 := soD.cell 1 _ rfl
        have po := oDD.origs
        have hc := own_cell po (d.origs.length - 1) (.int .i64 (nwI d.origs)) (nwI_get hp)
        have hfz := po.frozenAt (d.origs.length - 1)
        obtain ⟨n1, n3⟩ := po.stored (d.origs.length - 1) (.int .i64 (d.code.length : Int))
        have pA : (q10.setCell ⟨go, d.origs.length - 1, none⟩ (.int .i64 (d.code.length : Int))).ownsRow base 3 1 (.slice (some ⟨go, 0, none⟩) d.origs.length oq) (d.origs.set (d.origs.length - 1) (d.code.length : Int)).length ((d.origs.set (d.origs.length - 1) (d.code.length : Int)).map (Value.int .i64)) := by rw [List.length_set, List.map_set]; exact n1
        have n2 : Kept 3 q10 _ := Kept.own po n3
        have soA := Stands.grown soD n3 (stands_apart soD po (by decide))
        have szA := Stands.grown szD n3 (stands_apart szD po (by decide))
        have prA : ∀ k, (Value.slice (some ⟨go, 0, none⟩) d.origs.length oq).ownBlock = some k → base ≤ k ∧ k < t1 := fun k hk => ⟨(po.lt k hk).1, oDD.origsL k hk⟩
        have uA : Out base t1 q10 _ := Out.grown n3 prA
        have cA : OwC base _ _ _ := OwnR.kept oDD.code n2 (by decide) opR_apt10
        have BA := below_grown BD n3 (fun q hq => by have := (po.lt q hq).1; omega)
        have hsA := Nat.le_trans hsD n3.size
        have oD0 := hid oDD
        clear oDD n1 n2 n3 po
        go_upto_region 20 with fail
        generalize q10.setCell ⟨go, d.origs.length - 1, none⟩ (.int .i64 (d.code.length : Int)) = qa at soA szA BA hsA uA cA pA ⊢
        clear soD szD BD hsD u1 hc hfz
        have u0 := soA.cell 1 _ rfl
        have ze1 := ze.origs
        have oD0 := oD0.out
        have bX := box_below qa (.cells #[.int .i64 (nwI d.origs)] 3)
        have soX := soA.below bX
        have szX := szA.below bX
        have pX := own_below pA bX
        have hsX := Nat.le_trans hsA bX.size
        obtain ⟨i8, hi8, hz6, hz5, hz4⟩ := info_parts infoJ10
        have hlY : ((d.origs.set (d.origs.length - 1) (d.code.length : Int)) ++ [(nwI d.origs)]).length = d.origs.length + 1 := by simp
        have UA := hid uA
        have CA := hid cA
        have O0 := hid oD0
        clear uA cA oD0
        go_upto_region 52 with (at_builtin; refine wpList_append_rd (k := .i64) rfl _ _ 23 rfl base 3 i8 8 Try.underlying23 hi8 hz6 hz5 hz4 _ (d.origs.set (d.origs.length - 1) (d.code.length : Int)) rfl pX _ [(nwI d.origs)] rfl (rd_one qa (nwI d.origs) 3) (by unfold maxLen; simp; omega) (by simp; omega) hsX ?_; intro v9 w9 ho9 hg9; rw [hlY] at ho9; obtain ⟨a8, c8, rfl⟩ := own_form ho9; have so9 := Stands.grown soX hg9 (stands_apart soX pX (by decide)); have y2 := so9.cell 1 _ rfl; have yg := so9.free 1)
        have soZ := so9.set 1 (.slice a8 (d.origs.length + 1) c8)
        have szZ := (Stands.grown szX hg9 (stands_apart szX pX (by decide))).other (b' := BX) 1 (.slice a8 (d.origs.length + 1) c8) (by omega)
        have oE9 := OwD.toO O0.out (UA.out.trans ((Out.below bX).trans (Out.grown hg9 prA))) (OwnR.kept (OwnR.below CA.out bX (fun _ _ q => q)) (Kept.own pX hg9) (by decide) opR_apt10) (xs := (d.origs.set (d.origs.length - 1) (d.code.length : Int)) ++ [(nwI d.origs)]) (by rw [hlY]; exact ho9)
        have oEZ := oE9.kept (set_kept so9 1 (.slice a8 (d.origs.length + 1) c8)) (by decide) (by decide) (by decide)
        have BZ := below_set (below_grown (below_trans BA bX) hg9 (fun q hq => by have := (pX.lt q hq).1; omega)) BX 1 (.slice a8 (d.origs.length + 1) c8) (by omega)
        generalize w9.setCell ⟨BX, 1, none⟩ (.slice a8 (d.origs.length + 1) c8) = qz at soZ szZ oEZ BZ ⊢
        have soZ : Stands qz BX #[.slice a9 (d.code.length + 1) c9, .slice a8 (d.origs.length + 1) c8, .slice da d.dests.length dq, .slice la d.loops.length lq, .slice ka d.cases.length kq] 26 := soZ
        clear oE9 so9 y2 yg ho9 hg9 pX pA soX soA szX szA BA bX UA CA O0
        have u0 := soZ.cell 0 _ rfl
        have u1 := soZ.cell 1 _ rfl
        have u2 := soZ.cell 2 _ rfl
        have u3 := soZ.cell 3 _ rfl
        have u4 := soZ.cell 4 _ rfl
        have zz0 := szZ.cell 0 _ rfl
        have zz1 := szZ.cell 1 _ rfl
        have zz2 := szZ.cell 2 _ rfl
        have zz3 := szZ.cell 3 _ rfl
        have zz4 := szZ.cell 4 _ rfl
        have zf := szZ.free
        obtain ⟨g1, g2⟩ := set5q szZ (.slice a9 (d.code.length + 1) c9) (.slice a8 (d.origs.length + 1) c8) (.slice da d.dests.length dq) (.slice la d.loops.length lq) (.slice ka d.cases.length kq)
        have G1 := hid g1
        have GM := hid (g2 (fun u => OwE base u ⟨.slice a9 (d.code.length + 1) c9, .slice a8 (d.origs.length + 1) c8, .slice da d.dests.length dq, .slice la d.loops.length lq, .slice ka d.cases.length kq⟩ ⟨(d.code ++ [(3, 0)]), d.origs.set (d.origs.length - 1) (d.code.length : Int) ++ [nwI d.origs], d.dests, d.loops, d.cases⟩) (fun u u' kk q => q.kept kk (by decide) (by decide) (by decide)) oEZ)
        have J7 : Hid (Below w.heap.size w _) := below_set (below_set (below_set (below_set (below_set (BZ) (w.heap.size + 1) 0 (.slice a9 (d.code.length + 1) c9) (by omega)) (w.heap.size + 1) 1 (.slice a8 (d.origs.length + 1) c8) (by omega)) (w.heap.size + 1) 2 (.slice da d.dests.length dq) (by omega)) (w.heap.size + 1) 3 (.slice la d.loops.length lq) (by omega)) (w.heap.size + 1) 4 (.slice ka d.cases.length kq) (by omega)
        clear g1 g2 oEZ BZ szZ soZ
        go_wp2_with fail
        (try simp only [Exit.inBlock, Exit.then])
        refine bodyPost_ret (res_row2 rfl _ _ (w.heap.size + 1) 26 _ (0, 0) _ rfl G1.out Try.underlying26 rfl (show _ = some 5 by kernel_rfl)) rfl ?_
        exact ⟨⟨.slice a9 (d.code.length + 1) c9, .slice a8 (d.origs.length + 1) c8, .slice da d.dests.length dq, .slice la d.loops.length lq, .slice ka d.cases.length kq⟩, rfl, ⟨_, GM.out⟩, J7.out⟩

set_option maxHeartbeats 8000000 in
set_option maxRecDepth 100000 in
theorem w_r10act3 (v : Dv) (d : Dft) (w : World) (h : RdD w v d) (z : szD d) (ze : szE d) :
    Calls Try.prog 11 #[.agg v.cs, .int .i64 3] w fun e w' => ∃ v1, e = .returned (.tuple #[.agg (Dv.cs v1), .int .i64 (actD d 3).2]) ∧ OwQ w' v1 (actD d 3).1 ∧ Below w.heap.size w w' := by
  have cf := fun W (b : Below w.heap.size w W) => w_r10formed v d W (h.below b)
  have ck := fun W (b : Below w.heap.size w W) => w_r10lacks v d 3 W (h.below b) (by decide) (by decide)
  have cl := fun W => w_r10laid 3 W (by decide) (by decide)
  rw [show ladF 3 = 0 from rfl] at cl
  have cc := fun W (b : Below w.heap.size w W) => w_r10copy v d W (h.below b) z
  have l0 := slr_len h.code uO (P := Try.prog)
  have m1 := rd_maxI h.origs
  have m2 := rd_maxI h.dests
  have m3 := slr_max h.loops
  have m4 := slr_max h.cases
  unfold maxLen at m1 m2 m3 m4
  have s0 := (stands_new w v.cs 26).below (box_below _ (.cells #[.slice none 0 0, .slice none 0 0, .slice none 0 0, .slice none 0 0, .slice none 0 0] 26))
  have s2 := stands_new (w.alloc (.cells v.cs 26)) #[.slice none 0 0, .slice none 0 0, .slice none 0 0, .slice none 0 0, .slice none 0 0] 26
  rw [size_al] at s2
  have bw := below_trans (box_below w (.cells v.cs 26)) (box_below _ (.cells #[.slice none 0 0, .slice none 0 0, .slice none 0 0, .slice none 0 0, .slice none 0 0] 26))
  have CC := hid cc
  clear cc z h
  obtain ⟨x0, x1, x2, x3, x4⟩ := v
  simp only [Dv.cs] at cf ck s0 s2 bw l0 CC ⊢
  cases c1 : frmD d with
  | false =>
    rw [act_no1 c1]
    simp only [c1] at cf
    clear ck m1 m2 m3 m4
    go_enter Try.func11, Try.ntmps11
    go_upto_region 1 with fail
    generalize (w.alloc (.cells #[x0, x1, x2, x3, x4] 26)).alloc (.cells #[.slice none 0 0, .slice none 0 0, .slice none 0 0, .slice none 0 0, .slice none 0 0] 26) = W0 at s0 s2 bw ⊢
    have f0 := s0.cell 0 _ rfl
    have f1 := s0.cell 1 _ rfl
    have f2 := s0.cell 2 _ rfl
    have f3 := s0.cell 3 _ rfl
    have f4 := s0.cell 4 _ rfl
    go_wp2_with (first | (go_at_call 13; refine (cf _ bw).mono ?_; rintro e q1 ⟨rfl, b1⟩; have p0 := (s0.below b1).cell 0 _ rfl; have p1 := (s0.below b1).cell 1 _ rfl; have p2 := (s0.below b1).cell 2 _ rfl; have p3 := (s0.below b1).cell 3 _ rfl; have p4 := (s0.below b1).cell 4 _ rfl; have zz0 := (s2.below b1).cell 0 _ rfl; have zz1 := (s2.below b1).cell 1 _ rfl; have zz2 := (s2.below b1).cell 2 _ rfl; have zz3 := (s2.below b1).cell 3 _ rfl; have zz4 := (s2.below b1).cell 4 _ rfl; have zf := (s2.below b1).free))
    obtain ⟨g1, g2⟩ := set5q (s2.below b1) (.slice none 0 0) (.slice none 0 0) (.slice none 0 0) (.slice none 0 0) (.slice none 0 0)
    have J7 := below_set (below_set (below_set (below_set (below_set (below_trans bw b1) (w.heap.size + 1) 0 (.slice none 0 0) (by omega)) (w.heap.size + 1) 1 (.slice none 0 0) (by omega)) (w.heap.size + 1) 2 (.slice none 0 0) (by omega)) (w.heap.size + 1) 3 (.slice none 0 0) (by omega)) (w.heap.size + 1) 4 (.slice none 0 0) (by omega)
    (try simp only [Exit.inBlock, Exit.then])
    refine bodyPost_ret (res_row2 rfl _ _ (w.heap.size + 1) 26 _ (0, 0) _ rfl g1 Try.underlying26 rfl (show _ = some 5 by kernel_rfl)) rfl ?_
    exact ⟨nilDv, rfl, OwQ.nil _, J7⟩
  | true =>
    simp only [c1] at cf
    cases c2 : lakF d 3 with
    | true =>
      rw [act_no2 c1 (by decide) (by decide) c2]
      simp only [c2] at ck
      clear m1 m2 m3 m4
      go_enter Try.func11, Try.ntmps11
      go_upto_region 1 with fail
      generalize (w.alloc (.cells #[x0, x1, x2, x3, x4] 26)).alloc (.cells #[.slice none 0 0, .slice none 0 0, .slice none 0 0, .slice none 0 0, .slice none 0 0] 26) = W0 at s0 s2 bw ⊢
      have f0 := s0.cell 0 _ rfl
      have f1 := s0.cell 1 _ rfl
      have f2 := s0.cell 2 _ rfl
      have f3 := s0.cell 3 _ rfl
      have f4 := s0.cell 4 _ rfl
      go_wp2_with (first | (go_at_call 13; refine (cf _ bw).mono ?_; rintro e q1 ⟨rfl, b1⟩; have p0 := (s0.below b1).cell 0 _ rfl; have p1 := (s0.below b1).cell 1 _ rfl; have p2 := (s0.below b1).cell 2 _ rfl; have p3 := (s0.below b1).cell 3 _ rfl; have p4 := (s0.below b1).cell 4 _ rfl; have zz0 := (s2.below b1).cell 0 _ rfl; have zz1 := (s2.below b1).cell 1 _ rfl; have zz2 := (s2.below b1).cell 2 _ rfl; have zz3 := (s2.below b1).cell 3 _ rfl; have zz4 := (s2.below b1).cell 4 _ rfl; have zf := (s2.below b1).free) | (go_at_call 24; refine (ck _ (below_trans bw b1)).mono ?_; rintro e q2 ⟨rfl, b2⟩; have b12 := below_trans b1 b2; have p0 := (s0.below b12).cell 0 _ rfl; have p1 := (s0.below b12).cell 1 _ rfl; have p2 := (s0.below b12).cell 2 _ rfl; have p3 := (s0.below b12).cell 3 _ rfl; have p4 := (s0.below b12).cell 4 _ rfl; have zz0 := (s2.below b12).cell 0 _ rfl; have zz1 := (s2.below b12).cell 1 _ rfl; have zz2 := (s2.below b12).cell 2 _ rfl; have zz3 := (s2.below b12).cell 3 _ rfl; have zz4 := (s2.below b12).cell 4 _ rfl; have zf := (s2.below b12).free))
      obtain ⟨g1, g2⟩ := set5q (s2.below b12) (.slice none 0 0) (.slice none 0 0) (.slice none 0 0) (.slice none 0 0) (.slice none 0 0)
      have J7 := below_set (below_set (below_set (below_set (below_set (below_trans bw b12) (w.heap.size + 1) 0 (.slice none 0 0) (by omega)) (w.heap.size + 1) 1 (.slice none 0 0) (by omega)) (w.heap.size + 1) 2 (.slice none 0 0) (by omega)) (w.heap.size + 1) 3 (.slice none 0 0) (by omega)) (w.heap.size + 1) 4 (.slice none 0 0) (by omega)
      (try simp only [Exit.inBlock, Exit.then])
      refine bodyPost_ret (res_row2 rfl _ _ (w.heap.size + 1) 26 _ (0, 0) _ rfl g1 Try.underlying26 rfl (show _ = some 5 by kernel_rfl)) rfl ?_
      exact ⟨nilDv, rfl, OwQ.nil _, J7⟩
    | false =>
      simp only [c2] at ck
      rw [act_yes c1 (by decide) (by decide) c2 (fun h => h.1 rfl)]
      have hD : doD d 3 (layF d 3) d.code.length (layF d 3).length (ladF 3) = ⟨aimF d.code [nwI d.origs] (d.code.length : Int), d.origs.take (d.origs.length - 1), d.dests, d.loops, d.cases⟩ := by simp [doD, layF, ladF]
      rw [hD]
      clear hD
      go_enter Try.func11, Try.ntmps11
      go_upto_region 1 with fail
      generalize (w.alloc (.cells #[x0, x1, x2, x3, x4] 26)).alloc (.cells #[.slice none 0 0, .slice none 0 0, .slice none 0 0, .slice none 0 0, .slice none 0 0] 26) = W0 at s0 s2 bw ⊢
      have f0 := s0.cell 0 _ rfl
      have f1 := s0.cell 1 _ rfl
      have f2 := s0.cell 2 _ rfl
      have f3 := s0.cell 3 _ rfl
      have f4 := s0.cell 4 _ rfl
      go_upto_region 9 with (first | (go_at_call 13; refine (cf _ bw).mono ?_; rintro e q1 ⟨rfl, b1⟩; have p0 := (s0.below b1).cell 0 _ rfl; have p1 := (s0.below b1).cell 1 _ rfl; have p2 := (s0.below b1).cell 2 _ rfl; have p3 := (s0.below b1).cell 3 _ rfl; have p4 := (s0.below b1).cell 4 _ rfl; have zz0 := (s2.below b1).cell 0 _ rfl; have zz1 := (s2.below b1).cell 1 _ rfl; have zz2 := (s2.below b1).cell 2 _ rfl; have zz3 := (s2.below b1).cell 3 _ rfl; have zz4 := (s2.below b1).cell 4 _ rfl; have zf := (s2.below b1).free) | (go_at_call 24; refine (ck _ (below_trans bw b1)).mono ?_; rintro e q2 ⟨rfl, b2⟩; have b12 := below_trans b1 b2; have p0 := (s0.below b12).cell 0 _ rfl; have p1 := (s0.below b12).cell 1 _ rfl; have p2 := (s0.below b12).cell 2 _ rfl; have p3 := (s0.below b12).cell 3 _ rfl; have p4 := (s0.below b12).cell 4 _ rfl; have zz0 := (s2.below b12).cell 0 _ rfl; have zz1 := (s2.below b12).cell 1 _ rfl; have zz2 := (s2.below b12).cell 2 _ rfl; have zz3 := (s2.below b12).cell 3 _ rfl; have zz4 := (s2.below b12).cell 4 _ rfl; have zf := (s2.below b12).free) | (go_at_call 25; refine (cl _).mono ?_; rintro e q3 ⟨rfl, rfl⟩) | (go_at_call 9; refine (CC.out _ (below_trans bw b12)).mono ?_; rintro e q4 ⟨v1, t1, t2, t3, rfl, oD, b4⟩; obtain ⟨cs0, r0⟩ := oD.code.row; obtain ⟨ca, cq, e0⟩ := own_form r0; obtain ⟨oa, oq, e1⟩ := own_form oD.origs; obtain ⟨da, dq, e2⟩ := own_form oD.dests; obtain ⟨cs3, r3⟩ := oD.loops.own.row; obtain ⟨la, lq, e3⟩ := own_form r3; obtain ⟨cs4, r4⟩ := oD.cases.own.row; obtain ⟨ka, kq, e4⟩ := own_form r4; obtain ⟨y0, y1, y2, y3, y4⟩ := v1; (try dsimp only at e0 e1 e2 e3 e4); subst e0 e1 e2 e3 e4; simp only [Dv.cs]))
      have bo := box_below q4 (.cells #[.slice ca d.code.length cq, .slice oa d.origs.length oq, .slice da d.dests.length dq, .slice la d.loops.length lq, .slice ka d.cases.length kq] 26)
      have so := stands_new q4 #[.slice ca d.code.length cq, .slice oa d.origs.length oq, .slice da d.dests.length dq, .slice la d.loops.length lq, .slice ka d.cases.length kq] 26
      have oD4 := oD.below bo
      have b15 := below_trans (below_trans b12 b4) bo
      have B15 := below_trans bw b15
      have sz4 := s2.below b15
      obtain ⟨BX, hBX⟩ : ∃ B, q4.heap.size = B := ⟨_, rfl⟩
      have hW0 : w.heap.size + 1 < W0.heap.size := (Array.getElem?_eq_some_iff.1 s2).1
      have hWq : W0.heap.size ≤ q3.heap.size := b12.size
      have hBq : q3.heap.size ≤ BX := by rw [← hBX]; exact b4.size
      have hBs : q3.heap.size ≤ (q4.alloc (.cells #[.slice ca d.code.length cq, .slice oa d.origs.length oq, .slice da d.dests.length dq, .slice la d.loops.length lq, .slice ka d.cases.length kq] 26)).heap.size := Nat.le_trans b4.size bo.size
      obtain ⟨base, hba⟩ : ∃ B, q3.heap.size = B := ⟨_, rfl⟩
      rw [hBX] at so
      simp only [hBX]
      rw [hba] at oD4 hBq hWq hBs
      generalize q4.alloc (.cells #[.slice ca d.code.length cq, .slice oa d.origs.length oq, .slice da d.dests.length dq, .slice la d.loops.length lq, .slice ka d.cases.length kq] 26) = q5 at so oD4 sz4 B15 hBs ⊢
      clear bo b15 oD b4 hba hBX b12 f0 f1 f2 f3 f4 bw s0 s2 r0 r3 r4
      have u0 := so.cell 0 _ rfl
      have oDF := oD4
      have soF := so
      have szF := sz4
      have BF := B15
      have hsF := hBs
      generalize q5 = q9 at oDF soF szF BF hsF so oD4 sz4 B15 u0 ⊢
      clear so oD4 sz4 B15 u0
      have u0 := soF.cell 0 _ rfl
      have u1 := soF.cell 1 _ rfl
      have u2 := soF.cell 2 _ rfl
      have u3 := soF.cell 3 _ rfl
      have u4 := soF.cell 4 _ rfl
      go_upto_region 13 with fail
      have hp := lak_o (Or.inr rfl) c2
      have hin := frm_o c1 hp
      have hcl := frm_code c1
      have hcp : 0 < d.code.length := by omega
      obtain ⟨csr, rC0⟩ := oDF.code.row
      obtain ⟨gc, cz, ez⟩ := own_some rC0 hcp
      obtain ⟨rfl, rfl⟩ := slice_inj ez
      clear ez
      obtain ⟨go, cz, ez⟩ := own_some oDF.origs hp
      obtain ⟨rfl, rfl⟩ := slice_inj ez
      clear ez
      clear rC0 csr
      have bd : Below q9.heap.size q9 q9.drew := below_drewN (Below.refl q9.heap.size q9) 1
      have soD := soF.below bd
      have szD := szF.below bd
      have oDD := oDF.below bd
      have BD := below_trans BF bd
      have hsD := Nat.le_trans hsF bd.size
      clear oDF
      go_region
      go_upto_region 22 with fail
      generalize q9.drew = q10 at soD szD oDD BD hsD bd ⊢
      clear soF szF BF hsF u0 u1 u2 u3 u4 bd
      have u1 := soD.cell 1 _ rfl
      have po := oDD.origs
      obtain ⟨vt, it, rt⟩ := tail_int hp po
      obtain ⟨csr, rC⟩ := oDD.code.row
      have hBg : BX ≠ gc := fun e => stands_apart soD rC (by decide) (by rw [e]; rfl)
      have cA := w_r10aim base BX gc cq _ _ _ _ vt d.code [nwI d.origs] (d.code.length : Int) q10 soD oDD.code (fun W hg => rt W (own_kept (Kept.own rC hg) (by decide) po)) (fun n hn => by rw [List.mem_singleton] at hn; rw [hn]; exact hin) (by omega) (by omega) hBg
      have cu := cut_int go d.origs.length oq hp (own_cap po)
      have O0 := hid oDD
      have PO := hid po
      have RC := hid rC
      clear oDD po rC rt hin
      go_upto_region 52 with (go_at_call 26; refine cA.mono ?_; rintro e q11 ⟨rfl, oC1, hgC⟩; have so11 := Stands.grown soD hgC (fun e => hBg (by injection e)); have u1 := so11.cell 1 _ rfl; have yg := so11.free 1)
      have kC := Kept.own RC.out hgC
      have soZ := so11.set 1 (.slice (some ⟨go, 0, none⟩) (d.origs.length - 1) oq)
      have szZ := (stands_kept kC (by decide) szD).other (b' := BX) 1 (.slice (some ⟨go, 0, none⟩) (d.origs.length - 1) oq) (by omega)
      have pT := own_take (own_kept kC (by decide) PO.out) (d.origs.length - 1) (by omega)
      have oE9 := OwD.toO O0.out (Out.kept kC (by decide) (by decide)) oC1 (xs := d.origs.take (d.origs.length - 1)) (by simpa [List.map_take] using pT)
      have oEZ := oE9.kept (set_kept so11 1 (.slice (some ⟨go, 0, none⟩) (d.origs.length - 1) oq)) (by decide) (by decide) (by decide)
      have BZ := below_set (below_grown BD hgC (fun q hq => by have := (RC.out.lt q hq).1; omega)) BX 1 (.slice (some ⟨go, 0, none⟩) (d.origs.length - 1) oq) (by omega)
      generalize q11.setCell ⟨BX, 1, none⟩ (.slice (some ⟨go, 0, none⟩) (d.origs.length - 1) oq) = qz at soZ szZ oEZ BZ ⊢
      have soZ : Stands qz BX #[.slice (some ⟨gc, 0, none⟩) d.code.length cq, .slice (some ⟨go, 0, none⟩) (d.origs.length - 1) oq, .slice da d.dests.length dq, .slice la d.loops.length lq, .slice ka d.cases.length kq] 26 := soZ
      clear oE9 pT kC so11 u1 yg soD szD BD O0 PO RC oC1 hgC cu it cA
      have u0 := soZ.cell 0 _ rfl
      have u1 := soZ.cell 1 _ rfl
      have u2 := soZ.cell 2 _ rfl
      have u3 := soZ.cell 3 _ rfl
      have u4 := soZ.cell 4 _ rfl
      have zz0 := szZ.cell 0 _ rfl
      have zz1 := szZ.cell 1 _ rfl
      have zz2 := szZ.cell 2 _ rfl
      have zz3 := szZ.cell 3 _ rfl
      have zz4 := szZ.cell 4 _ rfl
      have zf := szZ.free
      obtain ⟨g1, g2⟩ := set5q szZ (.slice (some ⟨gc, 0, none⟩) d.code.length cq) (.slice (some ⟨go, 0, none⟩) (d.origs.length - 1) oq) (.slice da d.dests.length dq) (.slice la d.loops.length lq) (.slice ka d.cases.length kq)
      have G1 := hid g1
      have GM := hid (g2 (fun u => OwE base u ⟨.slice (some ⟨gc, 0, none⟩) d.code.length cq, .slice (some ⟨go, 0, none⟩) (d.origs.length - 1) oq, .slice da d.dests.length dq, .slice la d.loops.length lq, .slice ka d.cases.length kq⟩ ⟨aimF d.code [nwI d.origs] (d.code.length : Int), d.origs.take (d.origs.length - 1), d.dests, d.loops, d.cases⟩) (fun u u' kk q => q.kept kk (by decide) (by decide) (by decide)) oEZ)
      have J7 : Hid (Below w.heap.size w _) := below_set (below_set (below_set (below_set (below_set (BZ) (w.heap.size + 1) 0 (.slice (some ⟨gc, 0, none⟩) d.code.length cq) (by omega)) (w.heap.size + 1) 1 (.slice (some ⟨go, 0, none⟩) (d.origs.length - 1) oq) (by omega)) (w.heap.size + 1) 2 (.slice da d.dests.length dq) (by omega)) (w.heap.size + 1) 3 (.slice la d.loops.length lq) (by omega)) (w.heap.size + 1) 4 (.slice ka d.cases.length kq) (by omega)
      clear g1 g2 oEZ BZ szZ soZ
      go_wp2_with fail
      (try simp only [Exit.inBlock, Exit.then])
      refine bodyPost_ret (res_row2 rfl _ _ (w.heap.size + 1) 26 _ (0, 0) _ rfl G1.out Try.underlying26 rfl (show _ = some 5 by kernel_rfl)) rfl ?_
      exact ⟨⟨.slice (some ⟨gc, 0, none⟩) d.code.length cq, .slice (some ⟨go, 0, none⟩) (d.origs.length - 1) oq, .slice da d.dests.length dq, .slice la d.loops.length lq, .slice ka d.cases.length kq⟩, rfl, ⟨_, GM.out⟩, J7.out⟩

set_option maxHeartbeats 8000000 in
set_option maxRecDepth 100000 in
theorem w_r10act4 (v : Dv) (d : Dft) (w : World) (h : RdD w v d) (z : szD d) (ze : szE d) :
    Calls Try.prog 11 #[.agg v.cs, .int .i64 4] w fun e w' => ∃ v1, e = .returned (.tuple #[.agg (Dv.cs v1), .int .i64 (actD d 4).2]) ∧ OwQ w' v1 (actD d 4).1 ∧ Below w.heap.size w w' := by
  have cf := fun W (b : Below w.heap.size w W) => w_r10formed v d W (h.below b)
  have ck := fun W (b : Below w.heap.size w W) => w_r10lacks v d 4 W (h.below b) (by decide) (by decide)
  have cl := fun W => w_r10laid 4 W (by decide) (by decide)
  rw [show ladF 4 = 0 from rfl] at cl
  have cc := fun W (b : Below w.heap.size w W) => w_r10copy v d W (h.below b) z
  have l0 := slr_len h.code uO (P := Try.prog)
  have m1 := rd_maxI h.origs
  have m2 := rd_maxI h.dests
  have m3 := slr_max h.loops
  have m4 := slr_max h.cases
  unfold maxLen at m1 m2 m3 m4
  have s0 := (stands_new w v.cs 26).below (box_below _ (.cells #[.slice none 0 0, .slice none 0 0, .slice none 0 0, .slice none 0 0, .slice none 0 0] 26))
  have s2 := stands_new (w.alloc (.cells v.cs 26)) #[.slice none 0 0, .slice none 0 0, .slice none 0 0, .slice none 0 0, .slice none 0 0] 26
  rw [size_al] at s2
  have bw := below_trans (box_below w (.cells v.cs 26)) (box_below _ (.cells #[.slice none 0 0, .slice none 0 0, .slice none 0 0, .slice none 0 0, .slice none 0 0] 26))
  have CC := hid cc
  clear cc z h
  obtain ⟨x0, x1, x2, x3, x4⟩ := v
  simp only [Dv.cs] at cf ck s0 s2 bw l0 CC ⊢
  cases c1 : frmD d with
  | false =>
    rw [act_no1 c1]
    simp only [c1] at cf
    clear ck m1 m2 m3 m4
    go_enter Try.func11, Try.ntmps11
    go_upto_region 1 with fail
    generalize (w.alloc (.cells #[x0, x1, x2, x3, x4] 26)).alloc (.cells #[.slice none 0 0, .slice none 0 0, .slice none 0 0, .slice none 0 0, .slice none 0 0] 26) = W0 at s0 s2 bw ⊢
    have f0 := s0.cell 0 _ rfl
    have f1 := s0.cell 1 _ rfl
    have f2 := s0.cell 2 _ rfl
    have f3 := s0.cell 3 _ rfl
    have f4 := s0.cell 4 _ rfl
    go_wp2_with (first | (go_at_call 13; refine (cf _ bw).mono ?_; rintro e q1 ⟨rfl, b1⟩; have p0 := (s0.below b1).cell 0 _ rfl; have p1 := (s0.below b1).cell 1 _ rfl; have p2 := (s0.below b1).cell 2 _ rfl; have p3 := (s0.below b1).cell 3 _ rfl; have p4 := (s0.below b1).cell 4 _ rfl; have zz0 := (s2.below b1).cell 0 _ rfl; have zz1 := (s2.below b1).cell 1 _ rfl; have zz2 := (s2.below b1).cell 2 _ rfl; have zz3 := (s2.below b1).cell 3 _ rfl; have zz4 := (s2.below b1).cell 4 _ rfl; have zf := (s2.below b1).free))
    obtain ⟨g1, g2⟩ := set5q (s2.below b1) (.slice none 0 0) (.slice none 0 0) (.slice none 0 0) (.slice none 0 0) (.slice none 0 0)
    have J7 := below_set (below_set (below_set (below_set (below_set (below_trans bw b1) (w.heap.size + 1) 0 (.slice none 0 0) (by omega)) (w.heap.size + 1) 1 (.slice none 0 0) (by omega)) (w.heap.size + 1) 2 (.slice none 0 0) (by omega)) (w.heap.size + 1) 3 (.slice none 0 0) (by omega)) (w.heap.size + 1) 4 (.slice none 0 0) (by omega)
    (try simp only [Exit.inBlock, Exit.then])
    refine bodyPost_ret (res_row2 rfl _ _ (w.heap.size + 1) 26 _ (0, 0) _ rfl g1 Try.underlying26 rfl (show _ = some 5 by kernel_rfl)) rfl ?_
    exact ⟨nilDv, rfl, OwQ.nil _, J7⟩
  | true =>
    simp only [c1] at cf
    cases c2 : lakF d 4 with
    | true =>
      cases c2
    | false =>
      simp only [c2] at ck
      rw [act_yes c1 (by decide) (by decide) c2 (fun h => h.1 rfl)]
      have hD : doD d 4 (layF d 4) d.code.length (layF d 4).length (ladF 4) = ⟨d.code, d.origs, d.dests ++ [(d.code.length : Int)], d.loops, d.cases⟩ := by simp [doD, layF, ladF]
      rw [hD]
      clear hD
      go_enter Try.func11, Try.ntmps11
      go_upto_region 1 with fail
      generalize (w.alloc (.cells #[x0, x1, x2, x3, x4] 26)).alloc (.cells #[.slice none 0 0, .slice none 0 0, .slice none 0 0, .slice none 0 0, .slice none 0 0] 26) = W0 at s0 s2 bw ⊢
      have f0 := s0.cell 0 _ rfl
      have f1 := s0.cell 1 _ rfl
      have f2 := s0.cell 2 _ rfl
      have f3 := s0.cell 3 _ rfl
      have f4 := s0.cell 4 _ rfl
      go_upto_region 9 with (first | (go_at_call 13; refine (cf _ bw).mono ?_; rintro e q1 ⟨rfl, b1⟩; have p0 := (s0.below b1).cell 0 _ rfl; have p1 := (s0.below b1).cell 1 _ rfl; have p2 := (s0.below b1).cell 2 _ rfl; have p3 := (s0.below b1).cell 3 _ rfl; have p4 := (s0.below b1).cell 4 _ rfl; have zz0 := (s2.below b1).cell 0 _ rfl; have zz1 := (s2.below b1).cell 1 _ rfl; have zz2 := (s2.below b1).cell 2 _ rfl; have zz3 := (s2.below b1).cell 3 _ rfl; have zz4 := (s2.below b1).cell 4 _ rfl; have zf := (s2.below b1).free) | (go_at_call 24; refine (ck _ (below_trans bw b1)).mono ?_; rintro e q2 ⟨rfl, b2⟩; have b12 := below_trans b1 b2; have p0 := (s0.below b12).cell 0 _ rfl; have p1 := (s0.below b12).cell 1 _ rfl; have p2 := (s0.below b12).cell 2 _ rfl; have p3 := (s0.below b12).cell 3 _ rfl; have p4 := (s0.below b12).cell 4 _ rfl; have zz0 := (s2.below b12).cell 0 _ rfl; have zz1 := (s2.below b12).cell 1 _ rfl; have zz2 := (s2.below b12).cell 2 _ rfl; have zz3 := (s2.below b12).cell 3 _ rfl; have zz4 := (s2.below b12).cell 4 _ rfl; have zf := (s2.below b12).free) | (go_at_call 25; refine (cl _).mono ?_; rintro e q3 ⟨rfl, rfl⟩) | (go_at_call 9; refine (CC.out _ (below_trans bw b12)).mono ?_; rintro e q4 ⟨v1, t1, t2, t3, rfl, oD, b4⟩; obtain ⟨cs0, r0⟩ := oD.code.row; obtain ⟨ca, cq, e0⟩ := own_form r0; obtain ⟨oa, oq, e1⟩ := own_form oD.origs; obtain ⟨da, dq, e2⟩ := own_form oD.dests; obtain ⟨cs3, r3⟩ := oD.loops.own.row; obtain ⟨la, lq, e3⟩ := own_form r3; obtain ⟨cs4, r4⟩ := oD.cases.own.row; obtain ⟨ka, kq, e4⟩ := own_form r4; obtain ⟨y0, y1, y2, y3, y4⟩ := v1; (try dsimp only at e0 e1 e2 e3 e4); subst e0 e1 e2 e3 e4; simp only [Dv.cs]))
      have bo := box_below q4 (.cells #[.slice ca d.code.length cq, .slice oa d.origs.length oq, .slice da d.dests.length dq, .slice la d.loops.length lq, .slice ka d.cases.length kq] 26)
      have so := stands_new q4 #[.slice ca d.code.length cq, .slice oa d.origs.length oq, .slice da d.dests.length dq, .slice la d.loops.length lq, .slice ka d.cases.length kq] 26
      have oD4 := oD.below bo
      have b15 := below_trans (below_trans b12 b4) bo
      have B15 := below_trans bw b15
      have sz4 := s2.below b15
      obtain ⟨BX, hBX⟩ : ∃ B, q4.heap.size = B := ⟨_, rfl⟩
      have hW0 : w.heap.size + 1 < W0.heap.size := (Array.getElem?_eq_some_iff.1 s2).1
      have hWq : W0.heap.size ≤ q3.heap.size := b12.size
      have hBq : q3.heap.size ≤ BX := by rw [← hBX]; exact b4.size
      have hBs : q3.heap.size ≤ (q4.alloc (.cells #[.slice ca d.code.length cq, .slice oa d.origs.length oq, .slice da d.dests.length dq, .slice la d.loops.length lq, .slice ka d.cases.length kq] 26)).heap.size := Nat.le_trans b4.size bo.size
      obtain ⟨base, hba⟩ : ∃ B, q3.heap.size = B := ⟨_, rfl⟩
      rw [hBX] at so
      simp only [hBX]
      rw [hba] at oD4 hBq hWq hBs
      generalize q4.alloc (.cells #[.slice ca d.code.length cq, .slice oa d.origs.length oq, .slice da d.dests.length dq, .slice la d.loops.length lq, .slice ka d.cases.length kq] 26) = q5 at so oD4 sz4 B15 hBs ⊢
      clear bo b15 oD b4 hba hBX b12 f0 f1 f2 f3 f4 bw s0 s2 r0 r3 r4
      have u0 := so.cell 0 _ rfl
      have oDF := oD4
      have soF := so
      have szF := sz4
      have BF := B15
      have hsF := hBs
      generalize q5 = q9 at oDF soF szF BF hsF so oD4 sz4 B15 u0 ⊢
      clear so oD4 sz4 B15 u0
      have u0 := soF.cell 0 _ rfl
      have u1 := soF.cell 1 _ rfl
      have u2 := soF.cell 2 _ rfl
      have u3 := soF.cell 3 _ rfl
      have u4 := soF.cell 4 _ rfl
      go_upto_region 13 with fail
      have bd : Below q9.heap.size q9 q9.drew := below_drewN (Below.refl q9.heap.size q9) 1
      have soD := soF.below bd
      have szD := szF.below bd
      have oDD := oDF.below bd
      have BD := below_trans BF bd
      have hsD := Nat.le_trans hsF bd.size
      clear oDF
      go_region
      go_upto_region 25 with fail
      generalize q9.drew = q10 at soD szD oDD BD hsD bd ⊢
      clear soF szF BF hsF u0 u1 u2 u3 u4 bd
      have soA := soD
      have szA := szD
      have BA := BD
      have hsA := hsD
      have oD0 := oDD
      have uA := Out.refl t1 t2 q10
      have cA := oDD.code
      have pA := own_le oDD.le1 oDD.dests
      have prA : ∀ k, (Value.slice da d.dests.length dq).ownBlock = some k → t1 ≤ k ∧ k < t2 := fun k hk => ⟨(oDD.dests.lt k hk).1, oDD.destsL k hk⟩
      have ze1 := ze.dests
      generalize q10 = qa at soA szA BA hsA oD0 uA cA pA soD szD oDD BD hsD ⊢
      clear soD szD oDD BD hsD
      have u0 := soA.cell 2 _ rfl
      have bX := box_below qa (.cells #[.int .i64 (d.code.length : Int)] 3)
      have soX := soA.below bX
      have szX := szA.below bX
      have pX := own_below pA bX
      have hsX := Nat.le_trans hsA bX.size
      obtain ⟨i8, hi8, hz6, hz5, hz4⟩ := info_parts infoJ10
      have hlY : (d.dests ++ [(d.code.length : Int)]).length = d.dests.length + 1 := by simp
      have UA := hid uA
      have CA := hid cA
      have O0 := hid oD0
      clear uA cA oD0
      go_upto_region 52 with (at_builtin; refine wpList_append_rd (k := .i64) rfl _ _ 23 rfl base 3 i8 8 Try.underlying23 hi8 hz6 hz5 hz4 _ d.dests rfl pX _ [(d.code.length : Int)] rfl (rd_one qa (d.code.length : Int) 3) (by unfold maxLen; simp; omega) (by simp; omega) hsX ?_; intro v9 w9 ho9 hg9; rw [hlY] at ho9; obtain ⟨a8, c8, rfl⟩ := own_form ho9; have so9 := Stands.grown soX hg9 (stands_apart soX pX (by decide)); have y2 := so9.cell 2 _ rfl; have yg := so9.free 2)
      have soZ := so9.set 2 (.slice a8 (d.dests.length + 1) c8)
      have szZ := (Stands.grown szX hg9 (stands_apart szX pX (by decide))).other (b' := BX) 2 (.slice a8 (d.dests.length + 1) c8) (by omega)
      have oE9 := OwD.toD O0.out (UA.out.trans ((Out.below bX).trans (Out.grown hg9 prA))) (OwnR.kept (OwnR.below CA.out bX (fun _ _ q => q)) (Kept.own pX hg9) (by decide) opR_apt10) (xs := d.dests ++ [(d.code.length : Int)]) (by rw [hlY]; exact ho9)
      have oEZ := oE9.kept (set_kept so9 2 (.slice a8 (d.dests.length + 1) c8)) (by decide) (by decide) (by decide)
      have BZ := below_set (below_grown (below_trans BA bX) hg9 (fun q hq => by have := (pX.lt q hq).1; omega)) BX 2 (.slice a8 (d.dests.length + 1) c8) (by omega)
      generalize w9.setCell ⟨BX, 2, none⟩ (.slice a8 (d.dests.length + 1) c8) = qz at soZ szZ oEZ BZ ⊢
      have soZ : Stands qz BX #[.slice ca d.code.length cq, .slice oa d.origs.length oq, .slice a8 (d.dests.length + 1) c8, .slice la d.loops.length lq, .slice ka d.cases.length kq] 26 := soZ
      clear oE9 so9 y2 yg ho9 hg9 pX pA soX soA szX szA BA bX UA CA O0
      have u0 := soZ.cell 0 _ rfl
      have u1 := soZ.cell 1 _ rfl
      have u2 := soZ.cell 2 _ rfl
      have u3 := soZ.cell 3 _ rfl
      have u4 := soZ.cell 4 _ rfl
      have zz0 := szZ.cell 0 _ rfl
      have zz1 := szZ.cell 1 _ rfl
      have zz2 := szZ.cell 2 _ rfl
      have zz3 := szZ.cell 3 _ rfl
      have zz4 := szZ.cell 4 _ rfl
      have zf := szZ.free
      obtain ⟨g1, g2⟩ := set5q szZ (.slice ca d.code.length cq) (.slice oa d.origs.length oq) (.slice a8 (d.dests.length + 1) c8) (.slice la d.loops.length lq) (.slice ka d.cases.length kq)
      have G1 := hid g1
      have GM := hid (g2 (fun u => OwE base u ⟨.slice ca d.code.length cq, .slice oa d.origs.length oq, .slice a8 (d.dests.length + 1) c8, .slice la d.loops.length lq, .slice ka d.cases.length kq⟩ ⟨d.code, d.origs, d.dests ++ [(d.code.length : Int)], d.loops, d.cases⟩) (fun u u' kk q => q.kept kk (by decide) (by decide) (by decide)) oEZ)
      have J7 : Hid (Below w.heap.size w _) := below_set (below_set (below_set (below_set (below_set (BZ) (w.heap.size + 1) 0 (.slice ca d.code.length cq) (by omega)) (w.heap.size + 1) 1 (.slice oa d.origs.length oq) (by omega)) (w.heap.size + 1) 2 (.slice a8 (d.dests.length + 1) c8) (by omega)) (w.heap.size + 1) 3 (.slice la d.loops.length lq) (by omega)) (w.heap.size + 1) 4 (.slice ka d.cases.length kq) (by omega)
      clear g1 g2 oEZ BZ szZ soZ
      go_wp2_with fail
      (try simp only [Exit.inBlock, Exit.then])
      refine bodyPost_ret (res_row2 rfl _ _ (w.heap.size + 1) 26 _ (0, 0) _ rfl G1.out Try.underlying26 rfl (show _ = some 5 by kernel_rfl)) rfl ?_
      exact ⟨⟨.slice ca d.code.length cq, .slice oa d.origs.length oq, .slice a8 (d.dests.length + 1) c8, .slice la d.loops.length lq, .slice ka d.cases.length kq⟩, rfl, ⟨_, GM.out⟩, J7.out⟩
end Go.Proofs.Ytfmpeminfcehaaa
