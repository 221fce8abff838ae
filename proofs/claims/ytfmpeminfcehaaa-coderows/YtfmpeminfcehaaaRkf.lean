/-
  Act of the document's answer for code: acts 14.
-/
import Derived.Test.YtfmpeminfcehaaaRk8
import Derived.Deep.RegionHeld2
namespace Go.Proofs.Ytfmpeminfcehaaa
open Go.ChangeShapes Go.WideShapes Go.ChangeAt Go.RowKit
set_option linter.unusedVariables false
set_option linter.unusedSimpArgs false

set_option maxHeartbeats 8000000 in
set_option maxRecDepth 100000 in
theorem w_r10act14 (v : Dv) (d : Dft) (w : World) (h : RdD w v d) (z : szD d) (ze : szE d) :
    Calls Try.prog 11 #[.agg v.cs, .int .i64 14] w fun e w' => ∃ v1, e = .returned (.tuple #[.agg (Dv.cs v1), .int .i64 (actD d 14).2]) ∧ OwQ w' v1 (actD d 14).1 ∧ Below w.heap.size w w' := by
  have cf := fun W (b : Below w.heap.size w W) => w_r10formed v d W (h.below b)
  have ck := fun W (b : Below w.heap.size w W) => w_r10lacks v d 14 W (h.below b) (by decide) (by decide)
  have cl := fun W => w_r10laid 14 W (by decide) (by decide)
  rw [show ladF 14 = 3 from rfl] at cl
  have cc := fun W (b : Below w.heap.size w W) => w_r10copy v d W (h.below b) z
  have l0 := slr_len h.code uO (P := Try.prog)
  have m1 := rd_maxI h.origs
  have m2 := rd_maxI h.dests
  have m3 := slr_max h.loops
  have m4 := slr_max h.cases
  unfold maxLen at m1 m2 m3 m4
  have s0 := (stands_new w v.cs 26).below (box_below _ (.cells #[.slice none 0 0, .slice none 0 0, .slice none 0 0, .slice none 0 0, .slice none 0 0] 26))
  have s2 := stands_new (w.alloc (.cells v.cs 26)) #[.slice none 0 0, .slice none 0 0, .slice none 0 0, .slice none 0 0, .slice none 0 0] 26
  rw [size_al] at s2
  have bw := below_trans (box_below w (.cells v.cs 26)) (box_below _ (.cells #[.slice none 0 0, .slice none 0 0, .slice none 0 0, .slice none 0 0, .slice none 0 0] 26))
  have CC := hid cc
  clear cc z h
  obtain ⟨x0, x1, x2, x3, x4⟩ := v
  simp only [Dv.cs] at cf ck s0 s2 bw l0 CC ⊢
  cases c1 : frmD d with
  | false =>
    rw [act_no1 c1]
    simp only [c1] at cf
    clear ck m1 m2 m3 m4
    go_enter Try.func11, Try.ntmps11
    go_upto_region 1 with fail
    generalize (w.alloc (.cells #[x0, x1, x2, x3, x4] 26)).alloc (.cells #[.slice none 0 0, .slice none 0 0, .slice none 0 0, .slice none 0 0, .slice none 0 0] 26) = W0 at s0 s2 bw ⊢
    have f0 := s0.cell 0 _ rfl
    have f1 := s0.cell 1 _ rfl
    have f2 := s0.cell 2 _ rfl
    have f3 := s0.cell 3 _ rfl
    have f4 := s0.cell 4 _ rfl
    go_wp2_with (first | (go_at_call 13; refine (cf _ bw).mono ?_; rintro e q1 ⟨rfl, b1⟩; have p0 := (s0.below b1).cell 0 _ rfl; have p1 := (s0.below b1).cell 1 _ rfl; have p2 := (s0.below b1).cell 2 _ rfl; have p3 := (s0.below b1).cell 3 _ rfl; have p4 := (s0.below b1).cell 4 _ rfl; have zz0 := (s2.below b1).cell 0 _ rfl; have zz1 := (s2.below b1).cell 1 _ rfl; have zz2 := (s2.below b1).cell 2 _ rfl; have zz3 := (s2.below b1).cell 3 _ rfl; have zz4 := (s2.below b1).cell 4 _ rfl; have zf := (s2.below b1).free))
    obtain ⟨g1, g2⟩ := set5q (s2.below b1) (.slice none 0 0) (.slice none 0 0) (.slice none 0 0) (.slice none 0 0) (.slice none 0 0)
    have J7 := below_set (below_set (below_set (below_set (below_set (below_trans bw b1) (w.heap.size + 1) 0 (.slice none 0 0) (by omega)) (w.heap.size + 1) 1 (.slice none 0 0) (by omega)) (w.heap.size + 1) 2 (.slice none 0 0) (by omega)) (w.heap.size + 1) 3 (.slice none 0 0) (by omega)) (w.heap.size + 1) 4 (.slice none 0 0) (by omega)
    (try simp only [Exit.inBlock, Exit.then])
    refine bodyPost_ret (res_row2 rfl _ _ (w.heap.size + 1) 26 _ (0, 0) _ rfl g1 Try.underlying26 rfl (show _ = some 5 by kernel_rfl)) rfl ?_
    exact ⟨nilDv, rfl, OwQ.nil _, J7⟩
  | true =>
    simp only [c1] at cf
    cases c2 : lakF d 14 with
    | true =>
      rw [act_no2 c1 (by decide) (by decide) c2]
      simp only [c2] at ck
      clear m1 m2 m3 m4
      go_enter Try.func11, Try.ntmps11
      go_upto_region 1 with fail
      generalize (w.alloc (.cells #[x0, x1, x2, x3, x4] 26)).alloc (.cells #[.slice none 0 0, .slice none 0 0, .slice none 0 0, .slice none 0 0, .slice none 0 0] 26) = W0 at s0 s2 bw ⊢
      have f0 := s0.cell 0 _ rfl
      have f1 := s0.cell 1 _ rfl
      have f2 := s0.cell 2 _ rfl
      have f3 := s0.cell 3 _ rfl
      have f4 := s0.cell 4 _ rfl
      go_wp2_with (first | (go_at_call 13; refine (cf _ bw).mono ?_; rintro e q1 ⟨rfl, b1⟩; have p0 := (s0.below b1).cell 0 _ rfl; have p1 := (s0.below b1).cell 1 _ rfl; have p2 := (s0.below b1).cell 2 _ rfl; have p3 := (s0.below b1).cell 3 _ rfl; have p4 := (s0.below b1).cell 4 _ rfl; have zz0 := (s2.below b1).cell 0 _ rfl; have zz1 := (s2.below b1).cell 1 _ rfl; have zz2 := (s2.below b1).cell 2 _ rfl; have zz3 := (s2.below b1).cell 3 _ rfl; have zz4 := (s2.below b1).cell 4 _ rfl; have zf := (s2.below b1).free) | (go_at_call 24; refine (ck _ (below_trans bw b1)).mono ?_; rintro e q2 ⟨rfl, b2⟩; have b12 := below_trans b1 b2; have p0 := (s0.below b12).cell 0 _ rfl; have p1 := (s0.below b12).cell 1 _ rfl; have p2 := (s0.below b12).cell 2 _ rfl; have p3 := (s0.below b12).cell 3 _ rfl; have p4 := (s0.below b12).cell 4 _ rfl; have zz0 := (s2.below b12).cell 0 _ rfl; have zz1 := (s2.below b12).cell 1 _ rfl; have zz2 := (s2.below b12).cell 2 _ rfl; have zz3 := (s2.below b12).cell 3 _ rfl; have zz4 := (s2.below b12).cell 4 _ rfl; have zf := (s2.below b12).free))
      obtain ⟨g1, g2⟩ := set5q (s2.below b12) (.slice none 0 0) (.slice none 0 0) (.slice none 0 0) (.slice none 0 0) (.slice none 0 0)
      have J7 := below_set (below_set (below_set (below_set (below_set (below_trans bw b12) (w.heap.size + 1) 0 (.slice none 0 0) (by omega)) (w.heap.size + 1) 1 (.slice none 0 0) (by omega)) (w.heap.size + 1) 2 (.slice none 0 0) (by omega)) (w.heap.size + 1) 3 (.slice none 0 0) (by omega)) (w.heap.size + 1) 4 (.slice none 0 0) (by omega)
      (try simp only [Exit.inBlock, Exit.then])
      refine bodyPost_ret (res_row2 rfl _ _ (w.heap.size + 1) 26 _ (0, 0) _ rfl g1 Try.underlying26 rfl (show _ = some 5 by kernel_rfl)) rfl ?_
      exact ⟨nilDv, rfl, OwQ.nil _, J7⟩
    | false =>
      simp only [c2] at ck
      by_cases c3 : (256 : Int) ≤ d.code.length
      · rw [act_no3 c1 (by decide) (by decide) c2 (by decide) (by omega)]
        clear m1 m2 m3 m4
        go_enter Try.func11, Try.ntmps11
        go_upto_region 1 with fail
        generalize (w.alloc (.cells #[x0, x1, x2, x3, x4] 26)).alloc (.cells #[.slice none 0 0, .slice none 0 0, .slice none 0 0, .slice none 0 0, .slice none 0 0] 26) = W0 at s0 s2 bw ⊢
        have f0 := s0.cell 0 _ rfl
        have f1 := s0.cell 1 _ rfl
        have f2 := s0.cell 2 _ rfl
        have f3 := s0.cell 3 _ rfl
        have f4 := s0.cell 4 _ rfl
        go_wp2_with (first | (go_at_call 13; refine (cf _ bw).mono ?_; rintro e q1 ⟨rfl, b1⟩; have p0 := (s0.below b1).cell 0 _ rfl; have p1 := (s0.below b1).cell 1 _ rfl; have p2 := (s0.below b1).cell 2 _ rfl; have p3 := (s0.below b1).cell 3 _ rfl; have p4 := (s0.below b1).cell 4 _ rfl; have zz0 := (s2.below b1).cell 0 _ rfl; have zz1 := (s2.below b1).cell 1 _ rfl; have zz2 := (s2.below b1).cell 2 _ rfl; have zz3 := (s2.below b1).cell 3 _ rfl; have zz4 := (s2.below b1).cell 4 _ rfl; have zf := (s2.below b1).free) | (go_at_call 24; refine (ck _ (below_trans bw b1)).mono ?_; rintro e q2 ⟨rfl, b2⟩; have b12 := below_trans b1 b2; have p0 := (s0.below b12).cell 0 _ rfl; have p1 := (s0.below b12).cell 1 _ rfl; have p2 := (s0.below b12).cell 2 _ rfl; have p3 := (s0.below b12).cell 3 _ rfl; have p4 := (s0.below b12).cell 4 _ rfl; have zz0 := (s2.below b12).cell 0 _ rfl; have zz1 := (s2.below b12).cell 1 _ rfl; have zz2 := (s2.below b12).cell 2 _ rfl; have zz3 := (s2.below b12).cell 3 _ rfl; have zz4 := (s2.below b12).cell 4 _ rfl; have zf := (s2.below b12).free) | (go_at_call 25; refine (cl _).mono ?_; rintro e q3 ⟨rfl, rfl⟩))
        obtain ⟨g1, g2⟩ := set5q (s2.below b12) (.slice none 0 0) (.slice none 0 0) (.slice none 0 0) (.slice none 0 0) (.slice none 0 0)
        have J7 := below_set (below_set (below_set (below_set (below_set (below_trans bw b12) (w.heap.size + 1) 0 (.slice none 0 0) (by omega)) (w.heap.size + 1) 1 (.slice none 0 0) (by omega)) (w.heap.size + 1) 2 (.slice none 0 0) (by omega)) (w.heap.size + 1) 3 (.slice none 0 0) (by omega)) (w.heap.size + 1) 4 (.slice none 0 0) (by omega)
        (try simp only [Exit.inBlock, Exit.then])
        refine bodyPost_ret (res_row2 rfl _ _ (w.heap.size + 1) 26 _ (0, 0) _ rfl g1 Try.underlying26 rfl (show _ = some 5 by kernel_rfl)) rfl ?_
        exact ⟨nilDv, rfl, OwQ.nil _, J7⟩
      · rw [act_yes c1 (by decide) (by decide) c2 (fun h => by omega)]
        have hD : doD d 14 (layF d 14) d.code.length (layF d 14).length (ladF 14) = ⟨setN (d.code ++ [(3, 0)]) (nwO d.cases).1 ((d.code.length : Int) + 1), d.origs, d.dests, d.loops, d.cases.set (d.cases.length - 1) (-1, (nwO d.cases).2 ++ [(d.code.length : Int)])⟩ := by simp [doD, layF, ladF]
        rw [hD]
        clear hD
        go_enter Try.func11, Try.ntmps11
        go_upto_region 1 with fail
        generalize (w.alloc (.cells #[x0, x1, x2, x3, x4] 26)).alloc (.cells #[.slice none 0 0, .slice none 0 0, .slice none 0 0, .slice none 0 0, .slice none 0 0] 26) = W0 at s0 s2 bw ⊢
        have f0 := s0.cell 0 _ rfl
        have f1 := s0.cell 1 _ rfl
        have f2 := s0.cell 2 _ rfl
        have f3 := s0.cell 3 _ rfl
        have f4 := s0.cell 4 _ rfl
        go_upto_region 9 with (first | (go_at_call 13; refine (cf _ bw).mono ?_; rintro e q1 ⟨rfl, b1⟩; have p0 := (s0.below b1).cell 0 _ rfl; have p1 := (s0.below b1).cell 1 _ rfl; have p2 := (s0.below b1).cell 2 _ rfl; have p3 := (s0.below b1).cell 3 _ rfl; have p4 := (s0.below b1).cell 4 _ rfl; have zz0 := (s2.below b1).cell 0 _ rfl; have zz1 := (s2.below b1).cell 1 _ rfl; have zz2 := (s2.below b1).cell 2 _ rfl; have zz3 := (s2.below b1).cell 3 _ rfl; have zz4 := (s2.below b1).cell 4 _ rfl; have zf := (s2.below b1).free) | (go_at_call 24; refine (ck _ (below_trans bw b1)).mono ?_; rintro e q2 ⟨rfl, b2⟩; have b12 := below_trans b1 b2; have p0 := (s0.below b12).cell 0 _ rfl; have p1 := (s0.below b12).cell 1 _ rfl; have p2 := (s0.below b12).cell 2 _ rfl; have p3 := (s0.below b12).cell 3 _ rfl; have p4 := (s0.below b12).cell 4 _ rfl; have zz0 := (s2.below b12).cell 0 _ rfl; have zz1 := (s2.below b12).cell 1 _ rfl; have zz2 := (s2.below b12).cell 2 _ rfl; have zz3 := (s2.below b12).cell 3 _ rfl; have zz4 := (s2.below b12).cell 4 _ rfl; have zf := (s2.below b12).free) | (go_at_call 25; refine (cl _).mono ?_; rintro e q3 ⟨rfl, rfl⟩) | (go_at_call 9; refine (CC.out _ (below_trans bw b12)).mono ?_; rintro e q4 ⟨v1, t1, t2, t3, rfl, oD, b4⟩; obtain ⟨cs0, r0⟩ := oD.code.row; obtain ⟨ca, cq, e0⟩ := own_form r0; obtain ⟨oa, oq, e1⟩ := own_form oD.origs; obtain ⟨da, dq, e2⟩ := own_form oD.dests; obtain ⟨cs3, r3⟩ := oD.loops.own.row; obtain ⟨la, lq, e3⟩ := own_form r3; obtain ⟨cs4, r4⟩ := oD.cases.own.row; obtain ⟨ka, kq, e4⟩ := own_form r4; obtain ⟨y0, y1, y2, y3, y4⟩ := v1; (try dsimp only at e0 e1 e2 e3 e4); subst e0 e1 e2 e3 e4; simp only [Dv.cs]))
        have bo := box_below q4 (.cells #[.slice ca d.code.length cq, .slice oa d.origs.length oq, .slice da d.dests.length dq, .slice la d.loops.length lq, .slice ka d.cases.length kq] 26)
        have so := stands_new q4 #[.slice ca d.code.length cq, .slice oa d.origs.length oq, .slice da d.dests.length dq, .slice la d.loops.length lq, .slice ka d.cases.length kq] 26
        have oD4 := oD.below bo
        have b15 := below_trans (below_trans b12 b4) bo
        have B15 := below_trans bw b15
        have sz4 := s2.below b15
        obtain ⟨BX, hBX⟩ : ∃ B, q4.heap.size = B := ⟨_, rfl⟩
        have hW0 : w.heap.size + 1 < W0.heap.size := (Array.getElem?_eq_some_iff.1 s2).1
        have hWq : W0.heap.size ≤ q3.heap.size := b12.size
        have hBq : q3.heap.size ≤ BX := by rw [← hBX]; exact b4.size
        have hBs : q3.heap.size ≤ (q4.alloc (.cells #[.slice ca d.code.length cq, .slice oa d.origs.length oq, .slice da d.dests.length dq, .slice la d.loops.length lq, .slice ka d.cases.length kq] 26)).heap.size := Nat.le_trans b4.size bo.size
        obtain ⟨base, hba⟩ : ∃ B, q3.heap.size = B := ⟨_, rfl⟩
        rw [hBX] at so
        simp only [hBX]
        rw [hba] at oD4 hBq hWq hBs
        generalize q4.alloc (.cells #[.slice ca d.code.length cq, .slice oa d.origs.length oq, .slice da d.dests.length dq, .slice la d.loops.length lq, .slice ka d.cases.length kq] 26) = q5 at so oD4 sz4 B15 hBs ⊢
        clear bo b15 oD b4 hba hBX b12 f0 f1 f2 f3 f4 bw s0 s2 r0 r3 r4
        have u0 := so.cell 0 _ rfl
        go_upto_region 11 with fail
        have bX := box_below q5 (.cells #[.int .i64 3, .int .u32 0] 37)
        have oDX := oD4.below bX
        obtain ⟨rows, p1, p2, p3, p4⟩ := oDX.code
        obtain ⟨i9, hi9, hz9, hz8, hz7⟩ := info_parts infoOp10
        have one : ∀ r ∈ [[Value.int .i64 3, .int .u32 0]], ∀ u ∈ r, u.oneCell' = true := fun r hr u hu => by rw [List.mem_singleton] at hr; subst hr; simp at hu; rcases hu with rfl | rfl <;> rfl
        have P1 := hid p1
        have P2 := hid p2
        have P4 := hid p4
        have OX := hid oDX
        clear p1 p2 p4 oDX oD4
        go_upto_region 12 with (at_builtin; refine wpList_append_rows rfl _ _ 22 rfl base 37 i9 _ 2 16 Try.underlying22 hi9 hz9 hz8 hz7 rfl (by decide) _ d.code.length _ rfl p3 _ [[Value.int .i64 3, .int .u32 0]] rfl (slc_one q5 [Value.int .i64 3, .int .u32 0] 37 2 rfl) one (by unfold maxLen; simp only [List.length_singleton]; omega) (by simp only [List.length_singleton]; omega) (Nat.le_trans hBs bX.size) ?_; intro v9 w9 ho9 hg9; obtain ⟨a9, c9, rfl⟩ := own_form ho9; have so9 := Stands.grown (so.below bX) hg9 (stands_apart (so.below bX) p3 (by decide)); have y2 := so9.cell 0 _ rfl; have yg := so9.free 0)
        have kW := Kept.own p3 hg9
        have szF := (Stands.grown (sz4.below bX) hg9 (stands_apart (sz4.below bX) p3 (by decide))).other (b' := BX) 0 (.slice a9 (d.code.length + [[Value.int .i64 3, .int .u32 0]].length) c9) (by omega)
        have oC9 : OwC base w9 (.slice a9 (d.code.length + 1) c9) (d.code ++ [(3, 0)]) := OwnR.snoc (e := 37) (O := opR) opR_apt10 P1.out P2.out p3 P4.out rfl (x := (3, 0)) rfl (by simpa using ho9) hg9
        have oD9 := OX.out.code' kW oC9
        have oDF := oD9.kept (set_kept so9 0 (.slice a9 (d.code.length + [[Value.int .i64 3, .int .u32 0]].length) c9)) (by decide) (by decide) (by decide)
        have soF := so9.set 0 (.slice a9 (d.code.length + [[Value.int .i64 3, .int .u32 0]].length) c9)
        have BF := below_set (below_grown (below_trans B15 bX) hg9 (fun q hq => by have := (p3.lt q hq).1; omega)) BX 0 (.slice a9 (d.code.length + [[Value.int .i64 3, .int .u32 0]].length) c9) (by omega)
        have hsF : base ≤ (w9.setCell ⟨BX, 0, none⟩ (.slice a9 (d.code.length + [[Value.int .i64 3, .int .u32 0]].length) c9)).heap.size := Nat.le_trans hBs (Nat.le_trans bX.size (Nat.le_trans hg9.size (set_kept so9 0 (.slice a9 (d.code.length + [[Value.int .i64 3, .int .u32 0]].length) c9)).size))
        generalize w9.setCell ⟨BX, 0, none⟩ (.slice a9 (d.code.length + [[Value.int .i64 3, .int .u32 0]].length) c9) = q9 at szF oDF soF BF hsF ⊢
        have soF : Stands q9 BX #[.slice a9 (d.code.length + 1) c9, .slice oa d.origs.length oq, .slice da d.dests.length dq, .slice la d.loops.length lq, .slice ka d.cases.length kq] 26 := soF
        clear p3 ho9 hg9 kW oD9 oC9 so9 y2 yg bX so sz4 B15 u0 one OX P1 P2 P4
        have u0 := soF.cell 0 _ rfl
        have u1 := soF.cell 1 _ rfl
        have u2 := soF.cell 2 _ rfl
        have u3 := soF.cell 3 _ rfl
        have u4 := soF.cell 4 _ rfl
        go_upto_region 13 with fail
        have hp := lak_k (Or.inr (Or.inl rfl)) c2
        have hq : 0 ≤ (nwO d.cases).1 ∧ (nwO d.cases).1 < d.code.length := (frm_k c1 hp).1.resolve_left (lak_14 c2)
        have hcl := frm_code c1
        have hc9 : (d.code ++ [(3, 0)]).length = d.code.length + 1 := by simp
        obtain ⟨csr, rC0⟩ := oDF.code.row
        obtain ⟨gc, cz, ez⟩ := own_some rC0 (by rw [hc9]; omega)
        obtain ⟨rfl, rfl⟩ := slice_inj ez
        clear ez
        clear rC0 csr
        obtain ⟨csr, ror⟩ := oDF.cases.own.row
        obtain ⟨gk, cz, ez⟩ := own_some ror hp
        obtain ⟨rfl, rfl⟩ := slice_inj ez
        clear ez
        clear ror csr
        have bd : Below q9.heap.size q9 q9.drew := below_drewN (Below.refl q9.heap.size q9) 1
        have soD := soF.below bd
        have szD := szF.below bd
        have oDD := oDF.below bd
        have BD := below_trans BF bd
        have hsD := Nat.le_trans hsF bd.size
        clear oDF
        go_region
        go_upto_region 46 with fail
        generalize q9.drew = q10 at soD szD oDD BD hsD bd ⊢
        clear soF szF BF hsF u0 u1 u2 u3 u4 bd
        have u1 := soD.cell 4 _ rfl
        obtain ⟨gx, cx, rowsNn, vo, Nn⟩ := oDD.cases.newest hp
        obtain ⟨hgx, rfl⟩ := slice_inj Nn.form
        cases hgx
        (try dsimp only at Nn)
        obtain ⟨va, vq, rfl⟩ := own_form Nn.outs
        have ix := idx_opn gk d.cases.length kq hp
        have cO := Nn.cellO
        have bX := box_below q10 (.cells #[.int .i64 (d.code.length : Int)] 3)
        have b2 : Below (q10.alloc (.cells #[.int .i64 (d.code.length : Int)] 3)).heap.size (q10.alloc (.cells #[.int .i64 (d.code.length : Int)] 3)) (q10.alloc (.cells #[.int .i64 (d.code.length : Int)] 3)).drew := below_drewN (Below.refl _ _) 1
        have cO2 := (Nn.kept hp (Kept.below (T := 35) bX) (by decide) (by decide)).cellO
        have u2 := (soD.below bX).cell 4 _ rfl
        have rX := Rd.below (rd_one (k := .i64) q10 (d.code.length : Int) 3) b2
        have b3 := below_trans bX b2
        have NX := Nn.kept hp (Kept.below (T := 35) b3) (by decide) (by decide)
        have l1 := oDD.le1
        have l2 := oDD.le2
        have l3 := oDD.le3
        have l4 := oDD.le4
        have pX := NX.outs
        have soX := soD.below b3
        have szX := szD.below b3
        have BX2 := below_trans BD b3
        have hsX := Nat.le_trans (show t3 ≤ q10.heap.size by omega) b3.size
        have oX : OwC base _ _ _ := OwnR.below oDD.code b3 (fun _ _ q => q)
        obtain ⟨i8, hi8, hz6, hz5, hz4⟩ := info_parts infoJ10
        have zo := ze.kouts _ (nwO_mem (List.length_pos_iff.1 hp))
        have hlY : ((nwO d.cases).2 ++ [(d.code.length : Int)]).length = (nwO d.cases).2.length + 1 := by simp
        have rng := NX.rng
        have rg2 := oDD.cases.rng
        have UX := hid (Out.below (lo := t3) (hi := q10.heap.size) b3)
        have O0 := hid oDD
        have HN := hid NX
        have OX := hid oX
        have RX := hid rX
        clear oDD Nn NX oX b2 bX b3 l4 rX
        have cD : q10.drew.cell? ⟨gk, (d.cases.length - 1) * 2 + 1, none⟩ = some (.slice va (nwO d.cases).2.length vq) := cO
        refine wp_region_held_drew (S := fun W => W.cell? ⟨BX, 4, none⟩ = some (.slice (some ⟨gk, 0, none⟩) d.cases.length kq)) (by kernel_rfl) u1 (fun hHeld => ?_)
        refine wpAnyH_take (i := 0) (v := ?v14) rfl (by kernel_rfl) (by kernel_rfl) (by kernel_rfl) (fun _ _ _ h => h) (Or.inl ⟨by kernel_rfl, ?h14⟩) hHeld ?r14
        case h14 => intro W hSw; (try dsimp only at hSw); go_simp; try with_reducible rfl
        simp only [Act.put, List.setIfInBounds_toArray, List.set_cons_zero, List.set_cons_succ]
        refine wpAnyH_take (i := 1) (v := ?v15) rfl (by kernel_rfl) (by kernel_rfl) (by kernel_rfl) (fun _ _ _ h => h) (Or.inl ⟨by kernel_rfl, ?h15⟩) hHeld ?r15
        case h15 => intro W hSw; (try dsimp only at hSw); go_simp; try with_reducible rfl
        simp only [Act.put, List.setIfInBounds_toArray, List.set_cons_zero, List.set_cons_succ]
        refine wpAnyH_take (i := 2) (v := ?v16) rfl (by kernel_rfl) (by kernel_rfl) (by kernel_rfl) (fun _ _ _ h => h) (Or.inl ⟨by kernel_rfl, ?h16⟩) hHeld ?r16
        case h16 => intro W hSw; (try dsimp only at hSw); go_simp; try with_reducible rfl
        simp only [Act.put, List.setIfInBounds_toArray, List.set_cons_zero, List.set_cons_succ]
        refine wpAnyH_take (i := 3) (v := ?v17) rfl (by kernel_rfl) (by kernel_rfl) (by kernel_rfl) (fun _ _ _ h => h) (Or.inl ⟨by kernel_rfl, ?h17⟩) hHeld ?r17
        case h17 => intro W hSw; (try dsimp only at hSw); go_simp; try with_reducible rfl
        simp only [Act.put, List.setIfInBounds_toArray, List.set_cons_zero, List.set_cons_succ]
        refine wpAnyH_take (i := 4) (v := ?v18) rfl (by kernel_rfl) (by kernel_rfl) (by kernel_rfl) (fun _ _ _ h => h) (Or.inl ⟨by kernel_rfl, ?h18⟩) hHeld ?r18
        case h18 => intro W hSw; (try dsimp only at hSw); go_simp; try with_reducible rfl
        simp only [Act.put, List.setIfInBounds_toArray, List.set_cons_zero, List.set_cons_succ]
        refine wpAnyH_take (i := 5) (v := ?v19) rfl (by kernel_rfl) (by kernel_rfl) (by kernel_rfl) (fun _ _ _ h => h) (Or.inl ⟨by kernel_rfl, ?h19⟩) hHeld ?r19
        case h19 => intro W hSw; (try dsimp only at hSw); go_simp; try with_reducible rfl
        simp only [Act.put, List.setIfInBounds_toArray, List.set_cons_zero, List.set_cons_succ]
        refine wpAnyH_take (i := 6) (v := ?v20) rfl (by kernel_rfl) (by kernel_rfl) (by kernel_rfl) (fun _ _ _ h => h) (Or.inl ⟨by kernel_rfl, ?h20⟩) hHeld ?r20
        case h20 => intro W hSw; (try dsimp only at hSw); go_simp; try with_reducible rfl
        simp only [Act.put, List.setIfInBounds_toArray, List.set_cons_zero, List.set_cons_succ]
        refine wpAnyH_take (i := 7) (v := ?v21) rfl (by kernel_rfl) (by kernel_rfl) (by kernel_rfl) (fun _ _ _ h => h) (Or.inl ⟨by kernel_rfl, ?h21⟩) hHeld ?r21
        case h21 => intro W hSw; (try dsimp only at hSw); go_simp; try with_reducible rfl
        simp only [Act.put, List.setIfInBounds_toArray, List.set_cons_zero, List.set_cons_succ]
        refine wpAnyH_take (i := 9) (v := ?v22) rfl (by kernel_rfl) (by kernel_rfl) (by kernel_rfl) (fun _ _ _ h => h) (Or.inl ⟨by kernel_rfl, ?h22⟩) hHeld ?r22
        case h22 => intro W hSw; (try dsimp only at hSw); go_simp; try with_reducible rfl
        simp only [Act.put, List.setIfInBounds_toArray, List.set_cons_zero, List.set_cons_succ]
        refine wpAnyH_ready (rs := [8, 10]) (by kernel_rfl) (by simp) ?_
        refine AllReadyH.cons rfl (fun K hK => ?_) (AllReadyH.cons rfl (fun K hK => ?_) AllReadyH.nil)
        · go_simp
          refine hK.out _ _ (u1) (fun hHeld => ?_)
          clear hK K
          refine wpAnyH_ready (rs := [10]) (by kernel_rfl) (by simp) ?_
          refine AllReadyH.cons rfl (fun K hK => ?_) AllReadyH.nil
          go_simp
          refine hK.out _ _ (u2) (fun hHeld => ?_)
          clear hK K
          refine wpAnyH_ready (rs := [11]) (by kernel_rfl) (by simp) ?_
          refine AllReadyH.cons rfl (fun K hK => ?_) AllReadyH.nil
          refine step_append_rd (k := .i64) rfl _ _ 23 rfl t3 3 i8 8 Try.underlying23 hi8 hz6 hz5 hz4 (.slice va (nwO d.cases).2.length vq) (nwO d.cases).2 rfl pX (.slice (some ⟨q10.heap.size, 0, none⟩) 1 1) [(d.code.length : Int)] rfl RX.out (by unfold maxLen; simp; omega) (by simp; omega) hsX ?_
          intro v9 w9 ho9 hg9
          have ho8 := ho9
          rw [hlY] at ho8
          obtain ⟨a8, c8, rfl⟩ := own_form ho8
          have so9 := Stands.grown soX hg9 (stands_apart soX pX (by decide))
          have NP := HN.out.put hp hg9 (.slice a8 ((nwO d.cases).2.length + 1) c8) ((nwO d.cases).2 ++ [(d.code.length : Int)]) ho9
          obtain ⟨n1, n2, n3, ⟨u9, y1⟩, y2⟩ := NP
          have soB := stands_kept n3 (by decide) so9
          have szB := stands_kept n3 (by decide) (Stands.grown szX hg9 (stands_apart szX pX (by decide)))
          have oCB : OwC base _ _ _ := OwnR.kept (OwnR.kept OX.out (Kept.own pX hg9) (by decide) opR_apt10) n3 (by decide) opR_apt10
          have BB := below_grown (below_grown BX2 hg9 (fun q hq => by have := (pX.lt q hq).1; omega)) n2 (fun q hq => by have := (rg2 q hq).1; omega)
          have uB := UX.out.trans ((Out.grown hg9 rng).trans (Out.grown n2 rg2))
          have nRB := n1
          have y3 := so9.cell 4 _ rfl
          have y4 := soB.cell 4 _ rfl
          refine hK.out _ _ (y3) (fun hHeld => ?_)
          clear hK K
          have hsoB := hid soB
          have hszB := hid szB
          have hoCB := hid oCB
          have hBB := hid BB
          have huB := hid uB
          have hnRB := hid nRB
          clear soB szB oCB BB uB nRB n1 n2 n3 ho9 ho8
          refine wpAnyH_take (i := 12) (v := ?v23) rfl (by kernel_rfl) (by kernel_rfl) (by kernel_rfl) (fun _ _ _ h => h) (Or.inl ⟨by kernel_rfl, ?h23⟩) hHeld ?r23
          case h23 => intro W hSw; (try dsimp only at hSw); go_simp; try with_reducible rfl
          simp only [Act.put, List.setIfInBounds_toArray, List.set_cons_zero, List.set_cons_succ]
          refine wpAnyH_take (i := 13) (v := ?v24) rfl (by kernel_rfl) (by kernel_rfl) (by kernel_rfl) (fun _ _ _ h => h) (Or.inl ⟨by kernel_rfl, ?h24⟩) hHeld ?r24
          case h24 => intro W hSw; (try dsimp only at hSw); go_simp; try with_reducible rfl
          simp only [Act.put, List.setIfInBounds_toArray, List.set_cons_zero, List.set_cons_succ]
          refine wpAnyH_ready (rs := [14]) (by kernel_rfl) (by simp) ?_
          refine AllReadyH.cons rfl (fun K hK => ?_) AllReadyH.nil
          go_simp
          refine hK.out _ _ (y4) (fun hHeld => ?_)
          clear hK K
          refine wpAnyH_done (by kernel_rfl) ?_ _
          have soB := hsoB.out
          have szB := hszB.out
          have oCB := hoCB.out
          have BB := hBB.out
          have uB := huB.out
          have nRB := hnRB.out
          clear hsoB hszB hoCB hBB huB hnRB y1 y2 y3 y4 so9 soX szX pX OX UX HN BX2 rng cO2 u2 RX cD u1 cO soD szD BD hsD hg9 hHeld
          have hl2 : (d.cases.set (d.cases.length - 1) ((nwO d.cases).1, (nwO d.cases).2 ++ [(d.code.length : Int)])).length = d.cases.length := List.length_set
          have nR2 : OwnR 58 2 (opnO t3) t3 (w9.setCell ⟨gk, (d.cases.length - 1) * 2 + 1, none⟩ (.slice a8 ((nwO d.cases).2.length + 1) c8)) (.slice (some ⟨gk, 0, none⟩) (d.cases.set (d.cases.length - 1) ((nwO d.cases).1, (nwO d.cases).2 ++ [(d.code.length : Int)])).length kq) (d.cases.set (d.cases.length - 1) ((nwO d.cases).1, (nwO d.cases).2 ++ [(d.code.length : Int)])) := by rw [hl2]; exact nRB
          have cA2 := opn_cellA nR2 (by rw [hl2]; exact hp)
          rw [hl2, nwO_set hp] at cA2
          clear nRB
          generalize (w9.setCell ⟨gk, (d.cases.length - 1) * 2 + 1, none⟩ (.slice a8 ((nwO d.cases).2.length + 1) c8)) = q11 at soB szB BB uB oCB nR2 cA2 ⊢
          have u0 := soB.cell 0 _ rfl
          have u4 := soB.cell 4 _ rfl
          have iy := idx_opI gc (d.code.length + 1) c9 (nwO d.cases).1 hq.1 (by omega)
          have hwr := wrap32 ((d.code.length : Int) + 1) (by omega) (by omega)
          obtain ⟨csr, rC⟩ := OwnR.row oCB
          have oc0 : OwC base q11 (.slice (some ⟨gc, 0, none⟩) (d.code ++ [(3, 0)]).length c9) (d.code ++ [(3, 0)]) := by rw [hc9]; exact oCB
          obtain ⟨s0, ⟨uy, y1⟩, y2⟩ := OwC.put oc0 (nwO d.cases).1.toNat (by rw [hc9]; omega) ((d.code.length : Int) + 1)
          rw [setN_nat _ _ _ hq.1] at s0
          have b2 : Below (q11.setCell ⟨gc, (nwO d.cases).1.toNat * 2 + 1, none⟩ (.int .u32 ((d.code.length : Int) + 1))).heap.size (q11.setCell ⟨gc, (nwO d.cases).1.toNat * 2 + 1, none⟩ (.int .u32 ((d.code.length : Int) + 1))) (q11.setCell ⟨gc, (nwO d.cases).1.toNat * 2 + 1, none⟩ (.int .u32 ((d.code.length : Int) + 1))).drew := below_drewN (Below.refl _ _) 1
          have s1 : OwC base _ _ _ := OwnR.below s0 b2 (fun _ _ q => q)
          rw [hc9] at s1
          have hg1 : q11.grownBy (q11.setCell ⟨gc, (nwO d.cases).1.toNat * 2 + 1, none⟩ (.int .u32 ((d.code.length : Int) + 1))).drew (some gc) := gb_below (gb_set (gb_refl q11 _) _ _) b2
          have k1 := Kept.own rC hg1
          have so11 := stands_kept k1 (by decide) soB
          have sz11 := stands_kept k1 (by decide) szB
          have B11 := below_grown BB hg1 (fun q hq => by have := (rC.lt q hq).1; omega)
          have nR3 := OwnR.kept nR2 k1 (by decide) (opnO_apt (by decide))
          have u11 := uB.trans (Out.kept k1 (by decide) (by decide))
          have NR := hid nR3
          have UB := hid u11
          have S1 := hid s1
          have h0x := hq.1
          clear oc0 s0 s1 rC hg1 k1 b2 nR2 nR3 uB u11 oCB hq
          go_wp2_with fail
          go_region
          go_upto_region 48 with fail
          have nR3 := NR.out
          have u11 := UB.out
          have s1 := S1.out
          clear NR UB S1
          generalize (q11.setCell ⟨gc, (nwO d.cases).1.toNat * 2 + 1, none⟩ (.int .u32 ((d.code.length : Int) + 1))).drew = q12 at so11 sz11 B11 nR3 u11 s1 ⊢
          clear soB szB BB cA2 u0 u4 y1 y2
          have u4 := so11.cell 4 _ rfl
          obtain ⟨m1, m2, m3, ⟨um, m4⟩, m5⟩ := opn_setA nR3 (by rw [hl2]; exact hp) (-1)
          rw [hl2, nwO_set hp, List.set_set] at m1
          rw [hl2] at m2 m3 m4 m5
          have soZ := stands_kept m2 (by decide) so11
          have szZ := stands_kept m2 (by decide) sz11
          have BZ := below_grown B11 m3 (fun q hq => by have := (rg2 q hq).1; omega)
          have oEZ := hid (OwD.toK O0.out (u11.trans (Out.grown m3 rg2)) (OwnR.kept s1 m2 (by decide) opR_apt10) (opnO_leR (base := base) m1 (by omega)))
          clear m1 m2 m3 nR3 u11 s1 O0
          go_upto_region 52 with fail
          have oEZ := oEZ.out
          generalize q12.setCell ⟨gk, (d.cases.length - 1) * 2, none⟩ (.int .i64 (-1)) = qz at soZ szZ oEZ BZ ⊢
          clear so11 sz11 B11 u4 m4 m5
          have u0 := soZ.cell 0 _ rfl
          have u1 := soZ.cell 1 _ rfl
          have u2 := soZ.cell 2 _ rfl
          have u3 := soZ.cell 3 _ rfl
          have u4 := soZ.cell 4 _ rfl
          have zz0 := szZ.cell 0 _ rfl
          have zz1 := szZ.cell 1 _ rfl
          have zz2 := szZ.cell 2 _ rfl
          have zz3 := szZ.cell 3 _ rfl
          have zz4 := szZ.cell 4 _ rfl
          have zf := szZ.free
          obtain ⟨g1, g2⟩ := set5q szZ (.slice (some ⟨gc, 0, none⟩) (d.code.length + 1) c9) (.slice oa d.origs.length oq) (.slice da d.dests.length dq) (.slice la d.loops.length lq) (.slice (some ⟨gk, 0, none⟩) d.cases.length kq)
          have G1 := hid g1
          have GM := hid (g2 (fun u => OwE base u ⟨.slice (some ⟨gc, 0, none⟩) (d.code.length + 1) c9, .slice oa d.origs.length oq, .slice da d.dests.length dq, .slice la d.loops.length lq, .slice (some ⟨gk, 0, none⟩) d.cases.length kq⟩ ⟨setN (d.code ++ [(3, 0)]) (nwO d.cases).1 ((d.code.length : Int) + 1), d.origs, d.dests, d.loops, d.cases.set (d.cases.length - 1) (-1, (nwO d.cases).2 ++ [(d.code.length : Int)])⟩) (fun u u' kk q => q.kept kk (by decide) (by decide) (by decide)) oEZ)
          have J7 : Hid (Below w.heap.size w _) := below_set (below_set (below_set (below_set (below_set (BZ) (w.heap.size + 1) 0 (.slice (some ⟨gc, 0, none⟩) (d.code.length + 1) c9) (by omega)) (w.heap.size + 1) 1 (.slice oa d.origs.length oq) (by omega)) (w.heap.size + 1) 2 (.slice da d.dests.length dq) (by omega)) (w.heap.size + 1) 3 (.slice la d.loops.length lq) (by omega)) (w.heap.size + 1) 4 (.slice (some ⟨gk, 0, none⟩) d.cases.length kq) (by omega)
          clear g1 g2 oEZ BZ szZ soZ
          go_wp2_with fail
          (try simp only [Exit.inBlock, Exit.then])
          refine bodyPost_ret (res_row2 rfl _ _ (w.heap.size + 1) 26 _ (0, 0) _ rfl G1.out Try.underlying26 rfl (show _ = some 5 by kernel_rfl)) rfl ?_
          exact ⟨⟨.slice (some ⟨gc, 0, none⟩) (d.code.length + 1) c9, .slice oa d.origs.length oq, .slice da d.dests.length dq, .slice la d.loops.length lq, .slice (some ⟨gk, 0, none⟩) d.cases.length kq⟩, rfl, ⟨_, GM.out⟩, J7.out⟩
        · go_simp
          refine hK.out _ _ (u2) (fun hHeld => ?_)
          clear hK K
          refine wpAnyH_ready (rs := [8]) (by kernel_rfl) (by simp) ?_
          refine AllReadyH.cons rfl (fun K hK => ?_) AllReadyH.nil
          go_simp
          refine hK.out _ _ (u2) (fun hHeld => ?_)
          clear hK K
          refine wpAnyH_ready (rs := [11]) (by kernel_rfl) (by simp) ?_
          refine AllReadyH.cons rfl (fun K hK => ?_) AllReadyH.nil
          refine step_append_rd (k := .i64) rfl _ _ 23 rfl t3 3 i8 8 Try.underlying23 hi8 hz6 hz5 hz4 (.slice va (nwO d.cases).2.length vq) (nwO d.cases).2 rfl pX (.slice (some ⟨q10.heap.size, 0, none⟩) 1 1) [(d.code.length : Int)] rfl RX.out (by unfold maxLen; simp; omega) (by simp; omega) hsX ?_
          intro v9 w9 ho9 hg9
          have ho8 := ho9
          rw [hlY] at ho8
          obtain ⟨a8, c8, rfl⟩ := own_form ho8
          have so9 := Stands.grown soX hg9 (stands_apart soX pX (by decide))
          have NP := HN.out.put hp hg9 (.slice a8 ((nwO d.cases).2.length + 1) c8) ((nwO d.cases).2 ++ [(d.code.length : Int)]) ho9
          obtain ⟨n1, n2, n3, ⟨u9, y1⟩, y2⟩ := NP
          have soB := stands_kept n3 (by decide) so9
          have szB := stands_kept n3 (by decide) (Stands.grown szX hg9 (stands_apart szX pX (by decide)))
          have oCB : OwC base _ _ _ := OwnR.kept (OwnR.kept OX.out (Kept.own pX hg9) (by decide) opR_apt10) n3 (by decide) opR_apt10
          have BB := below_grown (below_grown BX2 hg9 (fun q hq => by have := (pX.lt q hq).1; omega)) n2 (fun q hq => by have := (rg2 q hq).1; omega)
          have uB := UX.out.trans ((Out.grown hg9 rng).trans (Out.grown n2 rg2))
          have nRB := n1
          have y3 := so9.cell 4 _ rfl
          have y4 := soB.cell 4 _ rfl
          refine hK.out _ _ (y3) (fun hHeld => ?_)
          clear hK K
          have hsoB := hid soB
          have hszB := hid szB
          have hoCB := hid oCB
          have hBB := hid BB
          have huB := hid uB
          have hnRB := hid nRB
          clear soB szB oCB BB uB nRB n1 n2 n3 ho9 ho8
          refine wpAnyH_take (i := 12) (v := ?v25) rfl (by kernel_rfl) (by kernel_rfl) (by kernel_rfl) (fun _ _ _ h => h) (Or.inl ⟨by kernel_rfl, ?h25⟩) hHeld ?r25
          case h25 => intro W hSw; (try dsimp only at hSw); go_simp; try with_reducible rfl
          simp only [Act.put, List.setIfInBounds_toArray, List.set_cons_zero, List.set_cons_succ]
          refine wpAnyH_take (i := 13) (v := ?v26) rfl (by kernel_rfl) (by kernel_rfl) (by kernel_rfl) (fun _ _ _ h => h) (Or.inl ⟨by kernel_rfl, ?h26⟩) hHeld ?r26
          case h26 => intro W hSw; (try dsimp only at hSw); go_simp; try with_reducible rfl
          simp only [Act.put, List.setIfInBounds_toArray, List.set_cons_zero, List.set_cons_succ]
          refine wpAnyH_ready (rs := [14]) (by kernel_rfl) (by simp) ?_
          refine AllReadyH.cons rfl (fun K hK => ?_) AllReadyH.nil
          go_simp
          refine hK.out _ _ (y4) (fun hHeld => ?_)
          clear hK K
          refine wpAnyH_done (by kernel_rfl) ?_ _
          have soB := hsoB.out
          have szB := hszB.out
          have oCB := hoCB.out
          have BB := hBB.out
          have uB := huB.out
          have nRB := hnRB.out
          clear hsoB hszB hoCB hBB huB hnRB y1 y2 y3 y4 so9 soX szX pX OX UX HN BX2 rng cO2 u2 RX cD u1 cO soD szD BD hsD hg9 hHeld
          have hl2 : (d.cases.set (d.cases.length - 1) ((nwO d.cases).1, (nwO d.cases).2 ++ [(d.code.length : Int)])).length = d.cases.length := List.length_set
          have nR2 : OwnR 58 2 (opnO t3) t3 (w9.setCell ⟨gk, (d.cases.length - 1) * 2 + 1, none⟩ (.slice a8 ((nwO d.cases).2.length + 1) c8)) (.slice (some ⟨gk, 0, none⟩) (d.cases.set (d.cases.length - 1) ((nwO d.cases).1, (nwO d.cases).2 ++ [(d.code.length : Int)])).length kq) (d.cases.set (d.cases.length - 1) ((nwO d.cases).1, (nwO d.cases).2 ++ [(d.code.length : Int)])) := by rw [hl2]; exact nRB
          have cA2 := opn_cellA nR2 (by rw [hl2]; exact hp)
          rw [hl2, nwO_set hp] at cA2
          clear nRB
          generalize (w9.setCell ⟨gk, (d.cases.length - 1) * 2 + 1, none⟩ (.slice a8 ((nwO d.cases).2.length + 1) c8)) = q11 at soB szB BB uB oCB nR2 cA2 ⊢
          have u0 := soB.cell 0 _ rfl
          have u4 := soB.cell 4 _ rfl
          have iy := idx_opI gc (d.code.length + 1) c9 (nwO d.cases).1 hq.1 (by omega)
          have hwr := wrap32 ((d.code.length : Int) + 1) (by omega) (by omega)
          obtain ⟨csr, rC⟩ := OwnR.row oCB
          have oc0 : OwC base q11 (.slice (some ⟨gc, 0, none⟩) (d.code ++ [(3, 0)]).length c9) (d.code ++ [(3, 0)]) := by rw [hc9]; exact oCB
          obtain ⟨s0, ⟨uy, y1⟩, y2⟩ := OwC.put oc0 (nwO d.cases).1.toNat (by rw [hc9]; omega) ((d.code.length : Int) + 1)
          rw [setN_nat _ _ _ hq.1] at s0
          have b2 : Below (q11.setCell ⟨gc, (nwO d.cases).1.toNat * 2 + 1, none⟩ (.int .u32 ((d.code.length : Int) + 1))).heap.size (q11.setCell ⟨gc, (nwO d.cases).1.toNat * 2 + 1, none⟩ (.int .u32 ((d.code.length : Int) + 1))) (q11.setCell ⟨gc, (nwO d.cases).1.toNat * 2 + 1, none⟩ (.int .u32 ((d.code.length : Int) + 1))).drew := below_drewN (Below.refl _ _) 1
          have s1 : OwC base _ _ _ := OwnR.below s0 b2 (fun _ _ q => q)
          rw [hc9] at s1
          have hg1 : q11.grownBy (q11.setCell ⟨gc, (nwO d.cases).1.toNat * 2 + 1, none⟩ (.int .u32 ((d.code.length : Int) + 1))).drew (some gc) := gb_below (gb_set (gb_refl q11 _) _ _) b2
          have k1 := Kept.own rC hg1
          have so11 := stands_kept k1 (by decide) soB
          have sz11 := stands_kept k1 (by decide) szB
          have B11 := below_grown BB hg1 (fun q hq => by have := (rC.lt q hq).1; omega)
          have nR3 := OwnR.kept nR2 k1 (by decide) (opnO_apt (by decide))
          have u11 := uB.trans (Out.kept k1 (by decide) (by decide))
          have NR := hid nR3
          have UB := hid u11
          have S1 := hid s1
          have h0x := hq.1
          clear oc0 s0 s1 rC hg1 k1 b2 nR2 nR3 uB u11 oCB hq
          go_wp2_with fail
          go_region
          go_upto_region 48 with fail
          have nR3 := NR.out
          have u11 := UB.out
          have s1 := S1.out
          clear NR UB S1
          generalize (q11.setCell ⟨gc, (nwO d.cases).1.toNat * 2 + 1, none⟩ (.int .u32 ((d.code.length : Int) + 1))).drew = q12 at so11 sz11 B11 nR3 u11 s1 ⊢
          clear soB szB BB cA2 u0 u4 y1 y2
          have u4 := so11.cell 4 _ rfl
          obtain ⟨m1, m2, m3, ⟨um, m4⟩, m5⟩ := opn_setA nR3 (by rw [hl2]; exact hp) (-1)
          rw [hl2, nwO_set hp, List.set_set] at m1
          rw [hl2] at m2 m3 m4 m5
          have soZ := stands_kept m2 (by decide) so11
          have szZ := stands_kept m2 (by decide) sz11
          have BZ := below_grown B11 m3 (fun q hq => by have := (rg2 q hq).1; omega)
          have oEZ := hid (OwD.toK O0.out (u11.trans (Out.grown m3 rg2)) (OwnR.kept s1 m2 (by decide) opR_apt10) (opnO_leR (base := base) m1 (by omega)))
          clear m1 m2 m3 nR3 u11 s1 O0
          go_upto_region 52 with fail
          have oEZ := oEZ.out
          generalize q12.setCell ⟨gk, (d.cases.length - 1) * 2, none⟩ (.int .i64 (-1)) = qz at soZ szZ oEZ BZ ⊢
          clear so11 sz11 B11 u4 m4 m5
          have u0 := soZ.cell 0 _ rfl
          have u1 := soZ.cell 1 _ rfl
          have u2 := soZ.cell 2 _ rfl
          have u3 := soZ.cell 3 _ rfl
          have u4 := soZ.cell 4 _ rfl
          have zz0 := szZ.cell 0 _ rfl
          have zz1 := szZ.cell 1 _ rfl
          have zz2 := szZ.cell 2 _ rfl
          have zz3 := szZ.cell 3 _ rfl
          have zz4 := szZ.cell 4 _ rfl
          have zf := szZ.free
          obtain ⟨g1, g2⟩ := set5q szZ (.slice (some ⟨gc, 0, none⟩) (d.code.length + 1) c9) (.slice oa d.origs.length oq) (.slice da d.dests.length dq) (.slice la d.loops.length lq) (.slice (some ⟨gk, 0, none⟩) d.cases.length kq)
          have G1 := hid g1
          have GM := hid (g2 (fun u => OwE base u ⟨.slice (some ⟨gc, 0, none⟩) (d.code.length + 1) c9, .slice oa d.origs.length oq, .slice da d.dests.length dq, .slice la d.loops.length lq, .slice (some ⟨gk, 0, none⟩) d.cases.length kq⟩ ⟨setN (d.code ++ [(3, 0)]) (nwO d.cases).1 ((d.code.length : Int) + 1), d.origs, d.dests, d.loops, d.cases.set (d.cases.length - 1) (-1, (nwO d.cases).2 ++ [(d.code.length : Int)])⟩) (fun u u' kk q => q.kept kk (by decide) (by decide) (by decide)) oEZ)
          have J7 : Hid (Below w.heap.size w _) := below_set (below_set (below_set (below_set (below_set (BZ) (w.heap.size + 1) 0 (.slice (some ⟨gc, 0, none⟩) (d.code.length + 1) c9) (by omega)) (w.heap.size + 1) 1 (.slice oa d.origs.length oq) (by omega)) (w.heap.size + 1) 2 (.slice da d.dests.length dq) (by omega)) (w.heap.size + 1) 3 (.slice la d.loops.length lq) (by omega)) (w.heap.size + 1) 4 (.slice (some ⟨gk, 0, none⟩) d.cases.length kq) (by omega)
          clear g1 g2 oEZ BZ szZ soZ
          go_wp2_with fail
          (try simp only [Exit.inBlock, Exit.then])
          refine bodyPost_ret (res_row2 rfl _ _ (w.heap.size + 1) 26 _ (0, 0) _ rfl G1.out Try.underlying26 rfl (show _ = some 5 by kernel_rfl)) rfl ?_
          exact ⟨⟨.slice (some ⟨gc, 0, none⟩) (d.code.length + 1) c9, .slice oa d.origs.length oq, .slice da d.dests.length dq, .slice la d.loops.length lq, .slice (some ⟨gk, 0, none⟩) d.cases.length kq⟩, rfl, ⟨_, GM.out⟩, J7.out⟩
end Go.Proofs.Ytfmpeminfcehaaa
