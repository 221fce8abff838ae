/-
  Act of the document's answer for code: acts 12, 13, 15.
-/
import Derived.Test.YtfmpeminfcehaaaRk8
namespace Go.Proofs.Ytfmpeminfcehaaa
open Go.ChangeShapes Go.WideShapes Go.ChangeAt Go.RowKit
set_option linter.unusedVariables false
set_option linter.unusedSimpArgs false

set_option maxHeartbeats 8000000 in
set_option maxRecDepth 100000 in
theorem w_r10act12 (v : Dv) (d : Dft) (w : World) (h : RdD w v d) (z : szD d) (ze : szE d) :
    Calls Try.prog 11 #[.agg v.cs, .int .i64 12] w fun e w' => ∃ v1, e = .returned (.tuple #[.agg (Dv.cs v1), .int .i64 (actD d 12).2]) ∧ OwQ w' v1 (actD d 12).1 ∧ Below w.heap.size w w' := by
  have cf := fun W (b : Below w.heap.size w W) => w_r10formed v d W (h.below b)
  have ck := fun W (b : Below w.heap.size w W) => w_r10lacks v d 12 W (h.below b) (by decide) (by decide)
  have cl := fun W => w_r10laid 12 W (by decide) (by decide)
  rw [show ladF 12 = 0 from rfl] at cl
  have cc := fun W (b : Below w.heap.size w W) => w_r10copy v d W (h.below b) z
  have l0 := slr_len h.code uO (P := Try.prog)
  have m1 := rd_maxI h.origs
  have m2 := rd_maxI h.dests
  have m3 := slr_max h.loops
  have m4 := slr_max h.cases
  unfold maxLen at m1 m2 m3 m4
  have s0 := (stands_new w v.cs 26).below (box_below _ (.cells #[.slice none 0 0, .slice none 0 0, .slice none 0 0, .slice none 0 0, .slice none 0 0] 26))
  have s2 := stands_new (w.alloc (.cells v.cs 26)) #[.slice none 0 0, .slice none 0 0, .slice none 0 0, .slice none 0 0, .slice none 0 0] 26
  rw [size_al] at s2
  have bw := below_trans (box_below w (.cells v.cs 26)) (box_below _ (.cells #[.slice none 0 0, .slice none 0 0, .slice none 0 0, .slice none 0 0, .slice none 0 0] 26))
  have CC := hid cc
  clear cc z h
  obtain ⟨x0, x1, x2, x3, x4⟩ := v
  simp only [Dv.cs] at cf ck s0 s2 bw l0 CC ⊢
  cases c1 : frmD d with
  | false =>
    rw [act_no1 c1]
    simp only [c1] at cf
    clear ck m1 m2 m3 m4
    go_enter Try.func11, Try.ntmps11
    go_upto_region 1 with fail
    generalize (w.alloc (.cells #[x0, x1, x2, x3, x4] 26)).alloc (.cells #[.slice none 0 0, .slice none 0 0, .slice none 0 0, .slice none 0 0, .slice none 0 0] 26) = W0 at s0 s2 bw ⊢
    have f0 := s0.cell 0 _ rfl
    have f1 := s0.cell 1 _ rfl
    have f2 := s0.cell 2 _ rfl
    have f3 := s0.cell 3 _ rfl
    have f4 := s0.cell 4 _ rfl
    go_wp2_with (first | (go_at_call 13; refine (cf _ bw).mono ?_; rintro e q1 ⟨rfl, b1⟩; have p0 := (s0.below b1).cell 0 _ rfl; have p1 := (s0.below b1).cell 1 _ rfl; have p2 := (s0.below b1).cell 2 _ rfl; have p3 := (s0.below b1).cell 3 _ rfl; have p4 := (s0.below b1).cell 4 _ rfl; have zz0 := (s2.below b1).cell 0 _ rfl; have zz1 := (s2.below b1).cell 1 _ rfl; have zz2 := (s2.below b1).cell 2 _ rfl; have zz3 := (s2.below b1).cell 3 _ rfl; have zz4 := (s2.below b1).cell 4 _ rfl; have zf := (s2.below b1).free))
    obtain ⟨g1, g2⟩ := set5q (s2.below b1) (.slice none 0 0) (.slice none 0 0) (.slice none 0 0) (.slice none 0 0) (.slice none 0 0)
    have J7 := below_set (below_set (below_set (below_set (below_set (below_trans bw b1) (w.heap.size + 1) 0 (.slice none 0 0) (by omega)) (w.heap.size + 1) 1 (.slice none 0 0) (by omega)) (w.heap.size + 1) 2 (.slice none 0 0) (by omega)) (w.heap.size + 1) 3 (.slice none 0 0) (by omega)) (w.heap.size + 1) 4 (.slice none 0 0) (by omega)
    (try simp only [Exit.inBlock, Exit.then])
    refine bodyPost_ret (res_row2 rfl _ _ (w.heap.size + 1) 26 _ (0, 0) _ rfl g1 Try.underlying26 rfl (show _ = some 5 by kernel_rfl)) rfl ?_
    exact ⟨nilDv, rfl, OwQ.nil _, J7⟩
  | true =>
    simp only [c1] at cf
    cases c2 : lakF d 12 with
    | true =>
      cases c2
    | false =>
      simp only [c2] at ck
      rw [act_yes c1 (by decide) (by decide) c2 (fun h => h.1 rfl)]
      have hD : doD d 12 (layF d 12) d.code.length (layF d 12).length (ladF 12) = ⟨d.code, d.origs, d.dests, d.loops, d.cases ++ [((-1), [])]⟩ := by simp [doD, layF, ladF]
      rw [hD]
      clear hD
      go_enter Try.func11, Try.ntmps11
      go_upto_region 1 with fail
      generalize (w.alloc (.cells #[x0, x1, x2, x3, x4] 26)).alloc (.cells #[.slice none 0 0, .slice none 0 0, .slice none 0 0, .slice none 0 0, .slice none 0 0] 26) = W0 at s0 s2 bw ⊢
      have f0 := s0.cell 0 _ rfl
      have f1 := s0.cell 1 _ rfl
      have f2 := s0.cell 2 _ rfl
      have f3 := s0.cell 3 _ rfl
      have f4 := s0.cell 4 _ rfl
      go_upto_region 9 with (first | (go_at_call 13; refine (cf _ bw).mono ?_; rintro e q1 ⟨rfl, b1⟩; have p0 := (s0.below b1).cell 0 _ rfl; have p1 := (s0.below b1).cell 1 _ rfl; have p2 := (s0.below b1).cell 2 _ rfl; have p3 := (s0.below b1).cell 3 _ rfl; have p4 := (s0.below b1).cell 4 _ rfl; have zz0 := (s2.below b1).cell 0 _ rfl; have zz1 := (s2.below b1).cell 1 _ rfl; have zz2 := (s2.below b1).cell 2 _ rfl; have zz3 := (s2.below b1).cell 3 _ rfl; have zz4 := (s2.below b1).cell 4 _ rfl; have zf := (s2.below b1).free) | (go_at_call 24; refine (ck _ (below_trans bw b1)).mono ?_; rintro e q2 ⟨rfl, b2⟩; have b12 := below_trans b1 b2; have p0 := (s0.below b12).cell 0 _ rfl; have p1 := (s0.below b12).cell 1 _ rfl; have p2 := (s0.below b12).cell 2 _ rfl; have p3 := (s0.below b12).cell 3 _ rfl; have p4 := (s0.below b12).cell 4 _ rfl; have zz0 := (s2.below b12).cell 0 _ rfl; have zz1 := (s2.below b12).cell 1 _ rfl; have zz2 := (s2.below b12).cell 2 _ rfl; have zz3 := (s2.below b12).cell 3 _ rfl; have zz4 := (s2.below b12).cell 4 _ rfl; have zf := (s2.below b12).free) | (go_at_call 25; refine (cl _).mono ?_; rintro e q3 ⟨rfl, rfl⟩) | (go_at_call 9; refine (CC.out _ (below_trans bw b12)).mono ?_; rintro e q4 ⟨v1, t1, t2, t3, rfl, oD, b4⟩; obtain ⟨cs0, r0⟩ := oD.code.row; obtain ⟨ca, cq, e0⟩ := own_form r0; obtain ⟨oa, oq, e1⟩ := own_form oD.origs; obtain ⟨da, dq, e2⟩ := own_form oD.dests; obtain ⟨cs3, r3⟩ := oD.loops.own.row; obtain ⟨la, lq, e3⟩ := own_form r3; obtain ⟨cs4, r4⟩ := oD.cases.own.row; obtain ⟨ka, kq, e4⟩ := own_form r4; obtain ⟨y0, y1, y2, y3, y4⟩ := v1; (try dsimp only at e0 e1 e2 e3 e4); subst e0 e1 e2 e3 e4; simp only [Dv.cs]))
      have bo := box_below q4 (.cells #[.slice ca d.code.length cq, .slice oa d.origs.length oq, .slice da d.dests.length dq, .slice la d.loops.length lq, .slice ka d.cases.length kq] 26)
      have so := stands_new q4 #[.slice ca d.code.length cq, .slice oa d.origs.length oq, .slice da d.dests.length dq, .slice la d.loops.length lq, .slice ka d.cases.length kq] 26
      have oD4 := oD.below bo
      have b15 := below_trans (below_trans b12 b4) bo
      have B15 := below_trans bw b15
      have sz4 := s2.below b15
      obtain ⟨BX, hBX⟩ : ∃ B, q4.heap.size = B := ⟨_, rfl⟩
      have hW0 : w.heap.size + 1 < W0.heap.size := (Array.getElem?_eq_some_iff.1 s2).1
      have hWq : W0.heap.size ≤ q3.heap.size := b12.size
      have hBq : q3.heap.size ≤ BX := by rw [← hBX]; exact b4.size
      have hBs : q3.heap.size ≤ (q4.alloc (.cells #[.slice ca d.code.length cq, .slice oa d.origs.length oq, .slice da d.dests.length dq, .slice la d.loops.length lq, .slice ka d.cases.length kq] 26)).heap.size := Nat.le_trans b4.size bo.size
      obtain ⟨base, hba⟩ : ∃ B, q3.heap.size = B := ⟨_, rfl⟩
      rw [hBX] at so
      simp only [hBX]
      rw [hba] at oD4 hBq hWq hBs
      generalize q4.alloc (.cells #[.slice ca d.code.length cq, .slice oa d.origs.length oq, .slice da d.dests.length dq, .slice la d.loops.length lq, .slice ka d.cases.length kq] 26) = q5 at so oD4 sz4 B15 hBs ⊢
      clear bo b15 oD b4 hba hBX b12 f0 f1 f2 f3 f4 bw s0 s2 r0 r3 r4
      have u0 := so.cell 0 _ rfl
      have oDF := oD4
      have soF := so
      have szF := sz4
      have BF := B15
      have hsF := hBs
      generalize q5 = q9 at oDF soF szF BF hsF so oD4 sz4 B15 u0 ⊢
      clear so oD4 sz4 B15 u0
      have u0 := soF.cell 0 _ rfl
      have u1 := soF.cell 1 _ rfl
      have u2 := soF.cell 2 _ rfl
      have u3 := soF.cell 3 _ rfl
      have u4 := soF.cell 4 _ rfl
      go_upto_region 13 with fail
      have bd : Below q9.heap.size q9 q9.drew := below_drewN (Below.refl q9.heap.size q9) 1
      have soD := soF.below bd
      have szD := szF.below bd
      have oDD := oDF.below bd
      have BD := below_trans BF bd
      have hsD := Nat.le_trans hsF bd.size
      clear oDF
      go_region
      go_upto_region 42 with fail
      generalize q9.drew = q10 at soD szD oDD BD hsD bd ⊢
      clear soF szF BF hsF u0 u1 u2 u3 u4 bd
      have u0 := soD.cell 4 _ rfl
      have bX := box_below q10 (.cells #[.int .i64 (-1), .slice none 0 0] 58)
      have oDX := oDD.below bX
      have l1 := oDX.le1
      have l2 := oDX.le2
      have l3 := oDX.le3
      obtain ⟨rows, p1, p2, p3, p4⟩ := oDX.cases.owe (base := base) (by omega)
      have prA := oDX.cases.rng
      obtain ⟨i9n, hi9n, hz9n, hz8n, hz7n⟩ := info_parts infoOn10
      have one : ∀ r ∈ [[Value.int .i64 (-1), .slice none 0 0]], ∀ u ∈ r, u.oneCell' = true := fun r hr u hu => by rw [List.mem_singleton] at hr; subst hr; simp at hu; rcases hu with rfl | rfl <;> rfl
      have ze1 := ze.cases
      have soX := soD.below bX
      have szX := szD.below bX
      have P1 := hid p1
      have P2 := hid p2
      have P4 := hid p4
      have OX := hid oDX
      clear p1 p2 p4 oDX oDD l1 l2 l3
      go_upto_region 52 with (at_builtin; refine wpList_append_rowsB rfl _ _ 24 rfl base 58 i9n _ 2 32 Try.underlying24 hi9n hz9n hz8n hz7n rfl (by decide) _ d.cases.length _ rfl p3 _ [[Value.int .i64 (-1), .slice none 0 0]] rfl (slc_one q10 [Value.int .i64 (-1), .slice none 0 0] 58 2 rfl) one (by unfold maxLen; simp only [List.length_singleton]; omega) (by simp only [List.length_singleton]; omega) (Nat.le_trans hsD bX.size) ?_; intro v9 w9 ho9 hg9; obtain ⟨a8, c8, rfl⟩ := own_form ho9; have so9 := Stands.grown soX hg9 (stands_apart soX p3 (by decide)); have y2 := so9.cell 4 _ rfl; have yg := so9.free 4)
      have soZ := so9.set 4 (.slice a8 (d.cases.length + [[Value.int .i64 (-1), .slice none 0 0]].length) c8)
      have szZ := (Stands.grown szX hg9 (stands_apart szX p3 (by decide))).other (b' := BX) 4 (.slice a8 (d.cases.length + [[Value.int .i64 (-1), .slice none 0 0]].length) c8) (by omega)
      have nR : OwnR 58 2 (opnO base) base w9 (.slice a8 (d.cases.length + 1) c8) (d.cases ++ [((-1), [])]) := OwnR.snoc (e := 58) (O := opnO base) (opnO_apt (by decide)) P1.out P2.out p3 P4.out rfl (x := ((-1), [])) ⟨.slice none 0 0, rfl, World.ownsRow_nil _ _ _ _⟩ (by simpa using ho9) hg9
      have oE9 := OwD.toK OX.out (Out.grown hg9 prA) (OwnR.kept OX.out.code (Kept.own p3 hg9) (by decide) opR_apt10) nR
      have oEZ := oE9.kept (set_kept so9 4 (.slice a8 (d.cases.length + [[Value.int .i64 (-1), .slice none 0 0]].length) c8)) (by decide) (by decide) (by decide)
      have BZ := below_set (below_grown (below_trans BD bX) hg9 (fun q hq => by have := (p3.lt q hq).1; omega)) BX 4 (.slice a8 (d.cases.length + [[Value.int .i64 (-1), .slice none 0 0]].length) c8) (by omega)
      generalize w9.setCell ⟨BX, 4, none⟩ (.slice a8 (d.cases.length + [[Value.int .i64 (-1), .slice none 0 0]].length) c8) = qz at soZ szZ oEZ BZ ⊢
      have soZ : Stands qz BX #[.slice ca d.code.length cq, .slice oa d.origs.length oq, .slice da d.dests.length dq, .slice la d.loops.length lq, .slice a8 (d.cases.length + 1) c8] 26 := soZ
      clear oE9 so9 y2 yg ho9 hg9 p3 soX soD szX szD BD bX OX P1 P2 P4 nR prA one
      have u0 := soZ.cell 0 _ rfl
      have u1 := soZ.cell 1 _ rfl
      have u2 := soZ.cell 2 _ rfl
      have u3 := soZ.cell 3 _ rfl
      have u4 := soZ.cell 4 _ rfl
      have zz0 := szZ.cell 0 _ rfl
      have zz1 := szZ.cell 1 _ rfl
      have zz2 := szZ.cell 2 _ rfl
      have zz3 := szZ.cell 3 _ rfl
      have zz4 := szZ.cell 4 _ rfl
      have zf := szZ.free
      obtain ⟨g1, g2⟩ := set5q szZ (.slice ca d.code.length cq) (.slice oa d.origs.length oq) (.slice da d.dests.length dq) (.slice la d.loops.length lq) (.slice a8 (d.cases.length + 1) c8)
      have G1 := hid g1
      have GM := hid (g2 (fun u => OwE base u ⟨.slice ca d.code.length cq, .slice oa d.origs.length oq, .slice da d.dests.length dq, .slice la d.loops.length lq, .slice a8 (d.cases.length + 1) c8⟩ ⟨d.code, d.origs, d.dests, d.loops, d.cases ++ [((-1), [])]⟩) (fun u u' kk q => q.kept kk (by decide) (by decide) (by decide)) oEZ)
      have J7 : Hid (Below w.heap.size w _) := below_set (below_set (below_set (below_set (below_set (BZ) (w.heap.size + 1) 0 (.slice ca d.code.length cq) (by omega)) (w.heap.size + 1) 1 (.slice oa d.origs.length oq) (by omega)) (w.heap.size + 1) 2 (.slice da d.dests.length dq) (by omega)) (w.heap.size + 1) 3 (.slice la d.loops.length lq) (by omega)) (w.heap.size + 1) 4 (.slice a8 (d.cases.length + 1) c8) (by omega)
      clear g1 g2 oEZ BZ szZ soZ
      go_wp2_with fail
      (try simp only [Exit.inBlock, Exit.then])
      refine bodyPost_ret (res_row2 rfl _ _ (w.heap.size + 1) 26 _ (0, 0) _ rfl G1.out Try.underlying26 rfl (show _ = some 5 by kernel_rfl)) rfl ?_
      exact ⟨⟨.slice ca d.code.length cq, .slice oa d.origs.length oq, .slice da d.dests.length dq, .slice la d.loops.length lq, .slice a8 (d.cases.length + 1) c8⟩, rfl, ⟨_, GM.out⟩, J7.out⟩

set_option maxHeartbeats 8000000 in
set_option maxRecDepth 100000 in
theorem w_r10act13 (v : Dv) (d : Dft) (w : World) (h : RdD w v d) (z : szD d) (ze : szE d) :
    Calls Try.prog 11 #[.agg v.cs, .int .i64 13] w fun e w' => ∃ v1, e = .returned (.tuple #[.agg (Dv.cs v1), .int .i64 (actD d 13).2]) ∧ OwQ w' v1 (actD d 13).1 ∧ Below w.heap.size w w' := by
  have cf := fun W (b : Below w.heap.size w W) => w_r10formed v d W (h.below b)
  have ck := fun W (b : Below w.heap.size w W) => w_r10lacks v d 13 W (h.below b) (by decide) (by decide)
  have cl := fun W => w_r10laid 13 W (by decide) (by decide)
  rw [show ladF 13 = 10 from rfl] at cl
  have cc := fun W (b : Below w.heap.size w W) => w_r10copy v d W (h.below b) z
  have l0 := slr_len h.code uO (P := Try.prog)
  have m1 := rd_maxI h.origs
  have m2 := rd_maxI h.dests
  have m3 := slr_max h.loops
  have m4 := slr_max h.cases
  unfold maxLen at m1 m2 m3 m4
  have s0 := (stands_new w v.cs 26).below (box_below _ (.cells #[.slice none 0 0, .slice none 0 0, .slice none 0 0, .slice none 0 0, .slice none 0 0] 26))
  have s2 := stands_new (w.alloc (.cells v.cs 26)) #[.slice none 0 0, .slice none 0 0, .slice none 0 0, .slice none 0 0, .slice none 0 0] 26
  rw [size_al] at s2
  have bw := below_trans (box_below w (.cells v.cs 26)) (box_below _ (.cells #[.slice none 0 0, .slice none 0 0, .slice none 0 0, .slice none 0 0, .slice none 0 0] 26))
  have CC := hid cc
  clear cc z h
  obtain ⟨x0, x1, x2, x3, x4⟩ := v
  simp only [Dv.cs] at cf ck s0 s2 bw l0 CC ⊢
  cases c1 : frmD d with
  | false =>
    rw [act_no1 c1]
    simp only [c1] at cf
    clear ck m1 m2 m3 m4
    go_enter Try.func11, Try.ntmps11
    go_upto_region 1 with fail
    generalize (w.alloc (.cells #[x0, x1, x2, x3, x4] 26)).alloc (.cells #[.slice none 0 0, .slice none 0 0, .slice none 0 0, .slice none 0 0, .slice none 0 0] 26) = W0 at s0 s2 bw ⊢
    have f0 := s0.cell 0 _ rfl
    have f1 := s0.cell 1 _ rfl
    have f2 := s0.cell 2 _ rfl
    have f3 := s0.cell 3 _ rfl
    have f4 := s0.cell 4 _ rfl
    go_wp2_with (first | (go_at_call 13; refine (cf _ bw).mono ?_; rintro e q1 ⟨rfl, b1⟩; have p0 := (s0.below b1).cell 0 _ rfl; have p1 := (s0.below b1).cell 1 _ rfl; have p2 := (s0.below b1).cell 2 _ rfl; have p3 := (s0.below b1).cell 3 _ rfl; have p4 := (s0.below b1).cell 4 _ rfl; have zz0 := (s2.below b1).cell 0 _ rfl; have zz1 := (s2.below b1).cell 1 _ rfl; have zz2 := (s2.below b1).cell 2 _ rfl; have zz3 := (s2.below b1).cell 3 _ rfl; have zz4 := (s2.below b1).cell 4 _ rfl; have zf := (s2.below b1).free))
    obtain ⟨g1, g2⟩ := set5q (s2.below b1) (.slice none 0 0) (.slice none 0 0) (.slice none 0 0) (.slice none 0 0) (.slice none 0 0)
    have J7 := below_set (below_set (below_set (below_set (below_set (below_trans bw b1) (w.heap.size + 1) 0 (.slice none 0 0) (by omega)) (w.heap.size + 1) 1 (.slice none 0 0) (by omega)) (w.heap.size + 1) 2 (.slice none 0 0) (by omega)) (w.heap.size + 1) 3 (.slice none 0 0) (by omega)) (w.heap.size + 1) 4 (.slice none 0 0) (by omega)
    (try simp only [Exit.inBlock, Exit.then])
    refine bodyPost_ret (res_row2 rfl _ _ (w.heap.size + 1) 26 _ (0, 0) _ rfl g1 Try.underlying26 rfl (show _ = some 5 by kernel_rfl)) rfl ?_
    exact ⟨nilDv, rfl, OwQ.nil _, J7⟩
  | true =>
    simp only [c1] at cf
    cases c2 : lakF d 13 with
    | true =>
      rw [act_no2 c1 (by decide) (by decide) c2]
      simp only [c2] at ck
      clear m1 m2 m3 m4
      go_enter Try.func11, Try.ntmps11
      go_upto_region 1 with fail
      generalize (w.alloc (.cells #[x0, x1, x2, x3, x4] 26)).alloc (.cells #[.slice none 0 0, .slice none 0 0, .slice none 0 0, .slice none 0 0, .slice none 0 0] 26) = W0 at s0 s2 bw ⊢
      have f0 := s0.cell 0 _ rfl
      have f1 := s0.cell 1 _ rfl
      have f2 := s0.cell 2 _ rfl
      have f3 := s0.cell 3 _ rfl
      have f4 := s0.cell 4 _ rfl
      go_wp2_with (first | (go_at_call 13; refine (cf _ bw).mono ?_; rintro e q1 ⟨rfl, b1⟩; have p0 := (s0.below b1).cell 0 _ rfl; have p1 := (s0.below b1).cell 1 _ rfl; have p2 := (s0.below b1).cell 2 _ rfl; have p3 := (s0.below b1).cell 3 _ rfl; have p4 := (s0.below b1).cell 4 _ rfl; have zz0 := (s2.below b1).cell 0 _ rfl; have zz1 := (s2.below b1).cell 1 _ rfl; have zz2 := (s2.below b1).cell 2 _ rfl; have zz3 := (s2.below b1).cell 3 _ rfl; have zz4 := (s2.below b1).cell 4 _ rfl; have zf := (s2.below b1).free) | (go_at_call 24; refine (ck _ (below_trans bw b1)).mono ?_; rintro e q2 ⟨rfl, b2⟩; have b12 := below_trans b1 b2; have p0 := (s0.below b12).cell 0 _ rfl; have p1 := (s0.below b12).cell 1 _ rfl; have p2 := (s0.below b12).cell 2 _ rfl; have p3 := (s0.below b12).cell 3 _ rfl; have p4 := (s0.below b12).cell 4 _ rfl; have zz0 := (s2.below b12).cell 0 _ rfl; have zz1 := (s2.below b12).cell 1 _ rfl; have zz2 := (s2.below b12).cell 2 _ rfl; have zz3 := (s2.below b12).cell 3 _ rfl; have zz4 := (s2.below b12).cell 4 _ rfl; have zf := (s2.below b12).free))
      obtain ⟨g1, g2⟩ := set5q (s2.below b12) (.slice none 0 0) (.slice none 0 0) (.slice none 0 0) (.slice none 0 0) (.slice none 0 0)
      have J7 := below_set (below_set (below_set (below_set (below_set (below_trans bw b12) (w.heap.size + 1) 0 (.slice none 0 0) (by omega)) (w.heap.size + 1) 1 (.slice none 0 0) (by omega)) (w.heap.size + 1) 2 (.slice none 0 0) (by omega)) (w.heap.size + 1) 3 (.slice none 0 0) (by omega)) (w.heap.size + 1) 4 (.slice none 0 0) (by omega)
      (try simp only [Exit.inBlock, Exit.then])
      refine bodyPost_ret (res_row2 rfl _ _ (w.heap.size + 1) 26 _ (0, 0) _ rfl g1 Try.underlying26 rfl (show _ = some 5 by kernel_rfl)) rfl ?_
      exact ⟨nilDv, rfl, OwQ.nil _, J7⟩
    | false =>
      simp only [c2] at ck
      by_cases c3 : (256 : Int) ≤ d.code.length
      · rw [act_no3 c1 (by decide) (by decide) c2 (by decide) (by omega)]
        clear m1 m2 m3 m4
        go_enter Try.func11, Try.ntmps11
        go_upto_region 1 with fail
        generalize (w.alloc (.cells #[x0, x1, x2, x3, x4] 26)).alloc (.cells #[.slice none 0 0, .slice none 0 0, .slice none 0 0, .slice none 0 0, .slice none 0 0] 26) = W0 at s0 s2 bw ⊢
        have f0 := s0.cell 0 _ rfl
        have f1 := s0.cell 1 _ rfl
        have f2 := s0.cell 2 _ rfl
        have f3 := s0.cell 3 _ rfl
        have f4 := s0.cell 4 _ rfl
        go_wp2_with (first | (go_at_call 13; refine (cf _ bw).mono ?_; rintro e q1 ⟨rfl, b1⟩; have p0 := (s0.below b1).cell 0 _ rfl; have p1 := (s0.below b1).cell 1 _ rfl; have p2 := (s0.below b1).cell 2 _ rfl; have p3 := (s0.below b1).cell 3 _ rfl; have p4 := (s0.below b1).cell 4 _ rfl; have zz0 := (s2.below b1).cell 0 _ rfl; have zz1 := (s2.below b1).cell 1 _ rfl; have zz2 := (s2.below b1).cell 2 _ rfl; have zz3 := (s2.below b1).cell 3 _ rfl; have zz4 := (s2.below b1).cell 4 _ rfl; have zf := (s2.below b1).free) | (go_at_call 24; refine (ck _ (below_trans bw b1)).mono ?_; rintro e q2 ⟨rfl, b2⟩; have b12 := below_trans b1 b2; have p0 := (s0.below b12).cell 0 _ rfl; have p1 := (s0.below b12).cell 1 _ rfl; have p2 := (s0.below b12).cell 2 _ rfl; have p3 := (s0.below b12).cell 3 _ rfl; have p4 := (s0.below b12).cell 4 _ rfl; have zz0 := (s2.below b12).cell 0 _ rfl; have zz1 := (s2.below b12).cell 1 _ rfl; have zz2 := (s2.below b12).cell 2 _ rfl; have zz3 := (s2.below b12).cell 3 _ rfl; have zz4 := (s2.below b12).cell 4 _ rfl; have zf := (s2.below b12).free) | (go_at_call 25; refine (cl _).mono ?_; rintro e q3 ⟨rfl, rfl⟩))
        obtain ⟨g1, g2⟩ := set5q (s2.below b12) (.slice none 0 0) (.slice none 0 0) (.slice none 0 0) (.slice none 0 0) (.slice none 0 0)
        have J7 := below_set (below_set (below_set (below_set (below_set (below_trans bw b12) (w.heap.size + 1) 0 (.slice none 0 0) (by omega)) (w.heap.size + 1) 1 (.slice none 0 0) (by omega)) (w.heap.size + 1) 2 (.slice none 0 0) (by omega)) (w.heap.size + 1) 3 (.slice none 0 0) (by omega)) (w.heap.size + 1) 4 (.slice none 0 0) (by omega)
        (try simp only [Exit.inBlock, Exit.then])
        refine bodyPost_ret (res_row2 rfl _ _ (w.heap.size + 1) 26 _ (0, 0) _ rfl g1 Try.underlying26 rfl (show _ = some 5 by kernel_rfl)) rfl ?_
        exact ⟨nilDv, rfl, OwQ.nil _, J7⟩
      · rw [act_yes c1 (by decide) (by decide) c2 (fun h => by omega)]
        have hD : doD d 13 (layF d 13) d.code.length (layF d 13).length (ladF 13) = ⟨(d.code ++ [(10, 0)]), d.origs, d.dests, d.loops, d.cases.set (d.cases.length - 1) ((d.code.length : Int), (nwO d.cases).2)⟩ := by simp [doD, layF, ladF]
        rw [hD]
        clear hD
        go_enter Try.func11, Try.ntmps11
        go_upto_region 1 with fail
        generalize (w.alloc (.cells #[x0, x1, x2, x3, x4] 26)).alloc (.cells #[.slice none 0 0, .slice none 0 0, .slice none 0 0, .slice none 0 0, .slice none 0 0] 26) = W0 at s0 s2 bw ⊢
        have f0 := s0.cell 0 _ rfl
        have f1 := s0.cell 1 _ rfl
        have f2 := s0.cell 2 _ rfl
        have f3 := s0.cell 3 _ rfl
        have f4 := s0.cell 4 _ rfl
        go_upto_region 9 with (first | (go_at_call 13; refine (cf _ bw).mono ?_; rintro e q1 ⟨rfl, b1⟩; have p0 := (s0.below b1).cell 0 _ rfl; have p1 := (s0.below b1).cell 1 _ rfl; have p2 := (s0.below b1).cell 2 _ rfl; have p3 := (s0.below b1).cell 3 _ rfl; have p4 := (s0.below b1).cell 4 _ rfl; have zz0 := (s2.below b1).cell 0 _ rfl; have zz1 := (s2.below b1).cell 1 _ rfl; have zz2 := (s2.below b1).cell 2 _ rfl; have zz3 := (s2.below b1).cell 3 _ rfl; have zz4 := (s2.below b1).cell 4 _ rfl; have zf := (s2.below b1).free) | (go_at_call 24; refine (ck _ (below_trans bw b1)).mono ?_; rintro e q2 ⟨rfl, b2⟩; have b12 := below_trans b1 b2; have p0 := (s0.below b12).cell 0 _ rfl; have p1 := (s0.below b12).cell 1 _ rfl; have p2 := (s0.below b12).cell 2 _ rfl; have p3 := (s0.below b12).cell 3 _ rfl; have p4 := (s0.below b12).cell 4 _ rfl; have zz0 := (s2.below b12).cell 0 _ rfl; have zz1 := (s2.below b12).cell 1 _ rfl; have zz2 := (s2.below b12).cell 2 _ rfl; have zz3 := (s2.below b12).cell 3 _ rfl; have zz4 := (s2.below b12).cell 4 _ rfl; have zf := (s2.below b12).free) | (go_at_call 25; refine (cl _).mono ?_; rintro e q3 ⟨rfl, rfl⟩) | (go_at_call 9; refine (CC.out _ (below_trans bw b12)).mono ?_; rintro e q4 ⟨v1, t1, t2, t3, rfl, oD, b4⟩; obtain ⟨cs0, r0⟩ := oD.code.row; obtain ⟨ca, cq, e0⟩ := own_form r0; obtain ⟨oa, oq, e1⟩ := own_form oD.origs; obtain ⟨da, dq, e2⟩ := own_form oD.dests; obtain ⟨cs3, r3⟩ := oD.loops.own.row; obtain ⟨la, lq, e3⟩ := own_form r3; obtain ⟨cs4, r4⟩ := oD.cases.own.row; obtain ⟨ka, kq, e4⟩ := own_form r4; obtain ⟨y0, y1, y2, y3, y4⟩ := v1; (try dsimp only at e0 e1 e2 e3 e4); subst e0 e1 e2 e3 e4; simp only [Dv.cs]))
        have bo := box_below q4 (.cells #[.slice ca d.code.length cq, .slice oa d.origs.length oq, .slice da d.dests.length dq, .slice la d.loops.length lq, .slice ka d.cases.length kq] 26)
        have so := stands_new q4 #[.slice ca d.code.length cq, .slice oa d.origs.length oq, .slice da d.dests.length dq, .slice la d.loops.length lq, .slice ka d.cases.length kq] 26
        have oD4 := oD.below bo
        have b15 := below_trans (below_trans b12 b4) bo
        have B15 := below_trans bw b15
        have sz4 := s2.below b15
        obtain ⟨BX, hBX⟩ : ∃ B, q4.heap.size = B := ⟨_, rfl⟩
        have hW0 : w.heap.size + 1 < W0.heap.size := (Array.getElem?_eq_some_iff.1 s2).1
        have hWq : W0.heap.size ≤ q3.heap.size := b12.size
        have hBq : q3.heap.size ≤ BX := by rw [← hBX]; exact b4.size
        have hBs : q3.heap.size ≤ (q4.alloc (.cells #[.slice ca d.code.length cq, .slice oa d.origs.length oq, .slice da d.dests.length dq, .slice la d.loops.length lq, .slice ka d.cases.length kq] 26)).heap.size := Nat.le_trans b4.size bo.size
        obtain ⟨base, hba⟩ : ∃ B, q3.heap.size = B := ⟨_, rfl⟩
        rw [hBX] at so
        simp only [hBX]
        rw [hba] at oD4 hBq hWq hBs
        generalize q4.alloc (.cells #[.slice ca d.code.length cq, .slice oa d.origs.length oq, .slice da d.dests.length dq, .slice la d.loops.length lq, .slice ka d.cases.length kq] 26) = q5 at so oD4 sz4 B15 hBs ⊢
        clear bo b15 oD b4 hba hBX b12 f0 f1 f2 f3 f4 bw s0 s2 r0 r3 r4
        have u0 := so.cell 0 _ rfl
        go_upto_region 11 with fail
        have bX := box_below q5 (.cells #[.int .i64 10, .int .u32 0] 37)
        have oDX := oD4.below bX
        obtain ⟨rows, p1, p2, p3, p4⟩ := oDX.code
        obtain ⟨i9, hi9, hz9, hz8, hz7⟩ := info_parts infoOp10
        have one : ∀ r ∈ [[Value.int .i64 10, .int .u32 0]], ∀ u ∈ r, u.oneCell' = true := fun r hr u hu => by rw [List.mem_singleton] at hr; subst hr; simp at hu; rcases hu with rfl | rfl <;> rfl
        have P1 := hid p1
        have P2 := hid p2
        have P4 := hid p4
        have OX := hid oDX
        clear p1 p2 p4 oDX oD4
        go_upto_region 12 with (at_builtin; refine wpList_append_rows rfl _ _ 22 rfl base 37 i9 _ 2 16 Try.underlying22 hi9 hz9 hz8 hz7 rfl (by decide) _ d.code.length _ rfl p3 _ [[Value.int .i64 10, .int .u32 0]] rfl (slc_one q5 [Value.int .i64 10, .int .u32 0] 37 2 rfl) one (by unfold maxLen; simp only [List.length_singleton]; omega) (by simp only [List.length_singleton]; omega) (Nat.le_trans hBs bX.size) ?_; intro v9 w9 ho9 hg9; obtain ⟨a9, c9, rfl⟩ := own_form ho9; have so9 := Stands.grown (so.below bX) hg9 (stands_apart (so.below bX) p3 (by decide)); have y2 := so9.cell 0 _ rfl; have yg := so9.free 0)
        have kW := Kept.own p3 hg9
        have szF := (Stands.grown (sz4.below bX) hg9 (stands_apart (sz4.below bX) p3 (by decide))).other (b' := BX) 0 (.slice a9 (d.code.length + [[Value.int .i64 10, .int .u32 0]].length) c9) (by omega)
        have oC9 : OwC base w9 (.slice a9 (d.code.length + 1) c9) (d.code ++ [(10, 0)]) := OwnR.snoc (e := 37) (O := opR) opR_apt10 P1.out P2.out p3 P4.out rfl (x := (10, 0)) rfl (by simpa using ho9) hg9
        have oD9 := OX.out.code' kW oC9
        have oDF := oD9.kept (set_kept so9 0 (.slice a9 (d.code.length + [[Value.int .i64 10, .int .u32 0]].length) c9)) (by decide) (by decide) (by decide)
        have soF := so9.set 0 (.slice a9 (d.code.length + [[Value.int .i64 10, .int .u32 0]].length) c9)
        have BF := below_set (below_grown (below_trans B15 bX) hg9 (fun q hq => by have := (p3.lt q hq).1; omega)) BX 0 (.slice a9 (d.code.length + [[Value.int .i64 10, .int .u32 0]].length) c9) (by omega)
        have hsF : base ≤ (w9.setCell ⟨BX, 0, none⟩ (.slice a9 (d.code.length + [[Value.int .i64 10, .int .u32 0]].length) c9)).heap.size := Nat.le_trans hBs (Nat.le_trans bX.size (Nat.le_trans hg9.size (set_kept so9 0 (.slice a9 (d.code.length + [[Value.int .i64 10, .int .u32 0]].length) c9)).size))
        generalize w9.setCell ⟨BX, 0, none⟩ (.slice a9 (d.code.length + [[Value.int .i64 10, .int .u32 0]].length) c9) = q9 at szF oDF soF BF hsF ⊢
        have soF : Stands q9 BX #[.slice a9 (d.code.length + 1) c9, .slice oa d.origs.length oq, .slice da d.dests.length dq, .slice la d.loops.length lq, .slice ka d.cases.length kq] 26 := soF
        clear p3 ho9 hg9 kW oD9 oC9 so9 y2 yg bX so sz4 B15 u0 one OX P1 P2 P4
        have u0 := soF.cell 0 _ rfl
        have u1 := soF.cell 1 _ rfl
        have u2 := soF.cell 2 _ rfl
        have u3 := soF.cell 3 _ rfl
        have u4 := soF.cell 4 _ rfl
        go_upto_region 13 with fail
        have hp := lak_k (Or.inl rfl) c2
        obtain ⟨csr, ror⟩ := oDF.cases.own.row
        obtain ⟨gk, cz, ez⟩ := own_some ror hp
        obtain ⟨rfl, rfl⟩ := slice_inj ez
        clear ez
        clear ror csr
        have bd : Below q9.heap.size q9 q9.drew := below_drewN (Below.refl q9.heap.size q9) 1
        have soD := soF.below bd
        have szD := szF.below bd
        have oDD := oDF.below bd
        have BD := below_trans BF bd
        have hsD := Nat.le_trans hsF bd.size
        clear oDF
        go_region
        have l1 := oDD.le1
        have l2 := oDD.le2
        have l3 := oDD.le3
        have ok := oDD.cases.owe (base := base) (by omega)
        have prA := oDD.cases.rng
        have ix := idx_opn gk d.cases.length kq hp
        go_upto_region 44 with fail
        generalize q9.drew = q10 at soD szD oDD BD hsD bd ok prA ⊢
        clear soF szF BF hsF u0 u1 u2 u3 u4 bd
        obtain ⟨n1, n2, n3, ⟨un, n4⟩, n5⟩ := opn_setA ok hp (d.code.length : Int)
        have u0 := soD.cell 4 _ rfl
        obtain ⟨csr, ror⟩ := ok.row
        have soZ := Stands.grown soD n3 (stands_apart soD ror (by decide))
        have szZ := Stands.grown szD n3 (stands_apart szD ror (by decide))
        have oEZ := OwD.toK oDD (Out.grown n3 prA) (OwnR.kept oDD.code n2 (by decide) opR_apt10) n1
        have BZ := below_grown BD n3 (fun q hq => by have := (ror.lt q hq).1; omega)
        clear ok oDD n1 n2 n3 ror prA
        go_upto_region 52 with fail
        generalize (q10.setCell ⟨gk, (d.cases.length - 1) * 2, none⟩ (.int .i64 (d.code.length : Int))) = qz at soZ szZ oEZ BZ ⊢
        clear soD szD BD u0 n4 n5
        have u0 := soZ.cell 0 _ rfl
        have u1 := soZ.cell 1 _ rfl
        have u2 := soZ.cell 2 _ rfl
        have u3 := soZ.cell 3 _ rfl
        have u4 := soZ.cell 4 _ rfl
        have zz0 := szZ.cell 0 _ rfl
        have zz1 := szZ.cell 1 _ rfl
        have zz2 := szZ.cell 2 _ rfl
        have zz3 := szZ.cell 3 _ rfl
        have zz4 := szZ.cell 4 _ rfl
        have zf := szZ.free
        obtain ⟨g1, g2⟩ := set5q szZ (.slice a9 (d.code.length + 1) c9) (.slice oa d.origs.length oq) (.slice da d.dests.length dq) (.slice la d.loops.length lq) (.slice (some ⟨gk, 0, none⟩) d.cases.length kq)
        have G1 := hid g1
        have GM := hid (g2 (fun u => OwE base u ⟨.slice a9 (d.code.length + 1) c9, .slice oa d.origs.length oq, .slice da d.dests.length dq, .slice la d.loops.length lq, .slice (some ⟨gk, 0, none⟩) d.cases.length kq⟩ ⟨(d.code ++ [(10, 0)]), d.origs, d.dests, d.loops, d.cases.set (d.cases.length - 1) ((d.code.length : Int), (nwO d.cases).2)⟩) (fun u u' kk q => q.kept kk (by decide) (by decide) (by decide)) oEZ)
        have J7 : Hid (Below w.heap.size w _) := below_set (below_set (below_set (below_set (below_set (BZ) (w.heap.size + 1) 0 (.slice a9 (d.code.length + 1) c9) (by omega)) (w.heap.size + 1) 1 (.slice oa d.origs.length oq) (by omega)) (w.heap.size + 1) 2 (.slice da d.dests.length dq) (by omega)) (w.heap.size + 1) 3 (.slice la d.loops.length lq) (by omega)) (w.heap.size + 1) 4 (.slice (some ⟨gk, 0, none⟩) d.cases.length kq) (by omega)
        clear g1 g2 oEZ BZ szZ soZ
        go_wp2_with fail
        (try simp only [Exit.inBlock, Exit.then])
        refine bodyPost_ret (res_row2 rfl _ _ (w.heap.size + 1) 26 _ (0, 0) _ rfl G1.out Try.underlying26 rfl (show _ = some 5 by kernel_rfl)) rfl ?_
        exact ⟨⟨.slice a9 (d.code.length + 1) c9, .slice oa d.origs.length oq, .slice da d.dests.length dq, .slice la d.loops.length lq, .slice (some ⟨gk, 0, none⟩) d.cases.length kq⟩, rfl, ⟨_, GM.out⟩, J7.out⟩

set_option maxHeartbeats 8000000 in
set_option maxRecDepth 100000 in
theorem w_r10act15 (v : Dv) (d : Dft) (w : World) (h : RdD w v d) (z : szD d) (ze : szE d) :
    Calls Try.prog 11 #[.agg v.cs, .int .i64 15] w fun e w' => ∃ v1, e = .returned (.tuple #[.agg (Dv.cs v1), .int .i64 (actD d 15).2]) ∧ OwQ w' v1 (actD d 15).1 ∧ Below w.heap.size w w' := by
  have cf := fun W (b : Below w.heap.size w W) => w_r10formed v d W (h.below b)
  have ck := fun W (b : Below w.heap.size w W) => w_r10lacks v d 15 W (h.below b) (by decide) (by decide)
  have cl := fun W => w_r10laid 15 W (by decide) (by decide)
  rw [show ladF 15 = 11 from rfl] at cl
  have cc := fun W (b : Below w.heap.size w W) => w_r10copy v d W (h.below b) z
  have l0 := slr_len h.code uO (P := Try.prog)
  have m1 := rd_maxI h.origs
  have m2 := rd_maxI h.dests
  have m3 := slr_max h.loops
  have m4 := slr_max h.cases
  unfold maxLen at m1 m2 m3 m4
  have s0 := (stands_new w v.cs 26).below (box_below _ (.cells #[.slice none 0 0, .slice none 0 0, .slice none 0 0, .slice none 0 0, .slice none 0 0] 26))
  have s2 := stands_new (w.alloc (.cells v.cs 26)) #[.slice none 0 0, .slice none 0 0, .slice none 0 0, .slice none 0 0, .slice none 0 0] 26
  rw [size_al] at s2
  have bw := below_trans (box_below w (.cells v.cs 26)) (box_below _ (.cells #[.slice none 0 0, .slice none 0 0, .slice none 0 0, .slice none 0 0, .slice none 0 0] 26))
  have CC := hid cc
  clear cc z h
  obtain ⟨x0, x1, x2, x3, x4⟩ := v
  simp only [Dv.cs] at cf ck s0 s2 bw l0 CC ⊢
  cases c1 : frmD d with
  | false =>
    rw [act_no1 c1]
    simp only [c1] at cf
    clear ck m1 m2 m3 m4
    go_enter Try.func11, Try.ntmps11
    go_upto_region 1 with fail
    generalize (w.alloc (.cells #[x0, x1, x2, x3, x4] 26)).alloc (.cells #[.slice none 0 0, .slice none 0 0, .slice none 0 0, .slice none 0 0, .slice none 0 0] 26) = W0 at s0 s2 bw ⊢
    have f0 := s0.cell 0 _ rfl
    have f1 := s0.cell 1 _ rfl
    have f2 := s0.cell 2 _ rfl
    have f3 := s0.cell 3 _ rfl
    have f4 := s0.cell 4 _ rfl
    go_wp2_with (first | (go_at_call 13; refine (cf _ bw).mono ?_; rintro e q1 ⟨rfl, b1⟩; have p0 := (s0.below b1).cell 0 _ rfl; have p1 := (s0.below b1).cell 1 _ rfl; have p2 := (s0.below b1).cell 2 _ rfl; have p3 := (s0.below b1).cell 3 _ rfl; have p4 := (s0.below b1).cell 4 _ rfl; have zz0 := (s2.below b1).cell 0 _ rfl; have zz1 := (s2.below b1).cell 1 _ rfl; have zz2 := (s2.below b1).cell 2 _ rfl; have zz3 := (s2.below b1).cell 3 _ rfl; have zz4 := (s2.below b1).cell 4 _ rfl; have zf := (s2.below b1).free))
    obtain ⟨g1, g2⟩ := set5q (s2.below b1) (.slice none 0 0) (.slice none 0 0) (.slice none 0 0) (.slice none 0 0) (.slice none 0 0)
    have J7 := below_set (below_set (below_set (below_set (below_set (below_trans bw b1) (w.heap.size + 1) 0 (.slice none 0 0) (by omega)) (w.heap.size + 1) 1 (.slice none 0 0) (by omega)) (w.heap.size + 1) 2 (.slice none 0 0) (by omega)) (w.heap.size + 1) 3 (.slice none 0 0) (by omega)) (w.heap.size + 1) 4 (.slice none 0 0) (by omega)
    (try simp only [Exit.inBlock, Exit.then])
    refine bodyPost_ret (res_row2 rfl _ _ (w.heap.size + 1) 26 _ (0, 0) _ rfl g1 Try.underlying26 rfl (show _ = some 5 by kernel_rfl)) rfl ?_
    exact ⟨nilDv, rfl, OwQ.nil _, J7⟩
  | true =>
    simp only [c1] at cf
    cases c2 : lakF d 15 with
    | true =>
      rw [act_no2 c1 (by decide) (by decide) c2]
      simp only [c2] at ck
      clear m1 m2 m3 m4
      go_enter Try.func11, Try.ntmps11
      go_upto_region 1 with fail
      generalize (w.alloc (.cells #[x0, x1, x2, x3, x4] 26)).alloc (.cells #[.slice none 0 0, .slice none 0 0, .slice none 0 0, .slice none 0 0, .slice none 0 0] 26) = W0 at s0 s2 bw ⊢
      have f0 := s0.cell 0 _ rfl
      have f1 := s0.cell 1 _ rfl
      have f2 := s0.cell 2 _ rfl
      have f3 := s0.cell 3 _ rfl
      have f4 := s0.cell 4 _ rfl
      go_wp2_with (first | (go_at_call 13; refine (cf _ bw).mono ?_; rintro e q1 ⟨rfl, b1⟩; have p0 := (s0.below b1).cell 0 _ rfl; have p1 := (s0.below b1).cell 1 _ rfl; have p2 := (s0.below b1).cell 2 _ rfl; have p3 := (s0.below b1).cell 3 _ rfl; have p4 := (s0.below b1).cell 4 _ rfl; have zz0 := (s2.below b1).cell 0 _ rfl; have zz1 := (s2.below b1).cell 1 _ rfl; have zz2 := (s2.below b1).cell 2 _ rfl; have zz3 := (s2.below b1).cell 3 _ rfl; have zz4 := (s2.below b1).cell 4 _ rfl; have zf := (s2.below b1).free) | (go_at_call 24; refine (ck _ (below_trans bw b1)).mono ?_; rintro e q2 ⟨rfl, b2⟩; have b12 := below_trans b1 b2; have p0 := (s0.below b12).cell 0 _ rfl; have p1 := (s0.below b12).cell 1 _ rfl; have p2 := (s0.below b12).cell 2 _ rfl; have p3 := (s0.below b12).cell 3 _ rfl; have p4 := (s0.below b12).cell 4 _ rfl; have zz0 := (s2.below b12).cell 0 _ rfl; have zz1 := (s2.below b12).cell 1 _ rfl; have zz2 := (s2.below b12).cell 2 _ rfl; have zz3 := (s2.below b12).cell 3 _ rfl; have zz4 := (s2.below b12).cell 4 _ rfl; have zf := (s2.below b12).free))
      obtain ⟨g1, g2⟩ := set5q (s2.below b12) (.slice none 0 0) (.slice none 0 0) (.slice none 0 0) (.slice none 0 0) (.slice none 0 0)
      have J7 := below_set (below_set (below_set (below_set (below_set (below_trans bw b12) (w.heap.size + 1) 0 (.slice none 0 0) (by omega)) (w.heap.size + 1) 1 (.slice none 0 0) (by omega)) (w.heap.size + 1) 2 (.slice none 0 0) (by omega)) (w.heap.size + 1) 3 (.slice none 0 0) (by omega)) (w.heap.size + 1) 4 (.slice none 0 0) (by omega)
      (try simp only [Exit.inBlock, Exit.then])
      refine bodyPost_ret (res_row2 rfl _ _ (w.heap.size + 1) 26 _ (0, 0) _ rfl g1 Try.underlying26 rfl (show _ = some 5 by kernel_rfl)) rfl ?_
      exact ⟨nilDv, rfl, OwQ.nil _, J7⟩
    | false =>
      simp only [c2] at ck
      by_cases c3 : (256 : Int) ≤ d.code.length
      · rw [act_no3 c1 (by decide) (by decide) c2 (by decide) (by omega)]
        clear m1 m2 m3 m4
        go_enter Try.func11, Try.ntmps11
        go_upto_region 1 with fail
        generalize (w.alloc (.cells #[x0, x1, x2, x3, x4] 26)).alloc (.cells #[.slice none 0 0, .slice none 0 0, .slice none 0 0, .slice none 0 0, .slice none 0 0] 26) = W0 at s0 s2 bw ⊢
        have f0 := s0.cell 0 _ rfl
        have f1 := s0.cell 1 _ rfl
        have f2 := s0.cell 2 _ rfl
        have f3 := s0.cell 3 _ rfl
        have f4 := s0.cell 4 _ rfl
        go_wp2_with (first | (go_at_call 13; refine (cf _ bw).mono ?_; rintro e q1 ⟨rfl, b1⟩; have p0 := (s0.below b1).cell 0 _ rfl; have p1 := (s0.below b1).cell 1 _ rfl; have p2 := (s0.below b1).cell 2 _ rfl; have p3 := (s0.below b1).cell 3 _ rfl; have p4 := (s0.below b1).cell 4 _ rfl; have zz0 := (s2.below b1).cell 0 _ rfl; have zz1 := (s2.below b1).cell 1 _ rfl; have zz2 := (s2.below b1).cell 2 _ rfl; have zz3 := (s2.below b1).cell 3 _ rfl; have zz4 := (s2.below b1).cell 4 _ rfl; have zf := (s2.below b1).free) | (go_at_call 24; refine (ck _ (below_trans bw b1)).mono ?_; rintro e q2 ⟨rfl, b2⟩; have b12 := below_trans b1 b2; have p0 := (s0.below b12).cell 0 _ rfl; have p1 := (s0.below b12).cell 1 _ rfl; have p2 := (s0.below b12).cell 2 _ rfl; have p3 := (s0.below b12).cell 3 _ rfl; have p4 := (s0.below b12).cell 4 _ rfl; have zz0 := (s2.below b12).cell 0 _ rfl; have zz1 := (s2.below b12).cell 1 _ rfl; have zz2 := (s2.below b12).cell 2 _ rfl; have zz3 := (s2.below b12).cell 3 _ rfl; have zz4 := (s2.below b12).cell 4 _ rfl; have zf := (s2.below b12).free) | (go_at_call 25; refine (cl _).mono ?_; rintro e q3 ⟨rfl, rfl⟩))
        obtain ⟨g1, g2⟩ := set5q (s2.below b12) (.slice none 0 0) (.slice none 0 0) (.slice none 0 0) (.slice none 0 0) (.slice none 0 0)
        have J7 := below_set (below_set (below_set (below_set (below_set (below_trans bw b12) (w.heap.size + 1) 0 (.slice none 0 0) (by omega)) (w.heap.size + 1) 1 (.slice none 0 0) (by omega)) (w.heap.size + 1) 2 (.slice none 0 0) (by omega)) (w.heap.size + 1) 3 (.slice none 0 0) (by omega)) (w.heap.size + 1) 4 (.slice none 0 0) (by omega)
        (try simp only [Exit.inBlock, Exit.then])
        refine bodyPost_ret (res_row2 rfl _ _ (w.heap.size + 1) 26 _ (0, 0) _ rfl g1 Try.underlying26 rfl (show _ = some 5 by kernel_rfl)) rfl ?_
        exact ⟨nilDv, rfl, OwQ.nil _, J7⟩
      · rw [act_yes c1 (by decide) (by decide) c2 (fun h => by omega)]
        have hD : doD d 15 (layF d 15) d.code.length (layF d 15).length (ladF 15) = ⟨aimF (d.code ++ [(11, 0)]) (nwO d.cases).2 ((d.code.length : Int) + 1), d.origs, d.dests, d.loops, d.cases.take (d.cases.length - 1)⟩ := by simp [doD, layF, ladF]
        rw [hD]
        clear hD
        go_enter Try.func11, Try.ntmps11
        go_upto_region 1 with fail
        generalize (w.alloc (.cells #[x0, x1, x2, x3, x4] 26)).alloc (.cells #[.slice none 0 0, .slice none 0 0, .slice none 0 0, .slice none 0 0, .slice none 0 0] 26) = W0 at s0 s2 bw ⊢
        have f0 := s0.cell 0 _ rfl
        have f1 := s0.cell 1 _ rfl
        have f2 := s0.cell 2 _ rfl
        have f3 := s0.cell 3 _ rfl
        have f4 := s0.cell 4 _ rfl
        go_upto_region 9 with (first | (go_at_call 13; refine (cf _ bw).mono ?_; rintro e q1 ⟨rfl, b1⟩; have p0 := (s0.below b1).cell 0 _ rfl; have p1 := (s0.below b1).cell 1 _ rfl; have p2 := (s0.below b1).cell 2 _ rfl; have p3 := (s0.below b1).cell 3 _ rfl; have p4 := (s0.below b1).cell 4 _ rfl; have zz0 := (s2.below b1).cell 0 _ rfl; have zz1 := (s2.below b1).cell 1 _ rfl; have zz2 := (s2.below b1).cell 2 _ rfl; have zz3 := (s2.below b1).cell 3 _ rfl; have zz4 := (s2.below b1).cell 4 _ rfl; have zf := (s2.below b1).free) | (go_at_call 24; refine (ck _ (below_trans bw b1)).mono ?_; rintro e q2 ⟨rfl, b2⟩; have b12 := below_trans b1 b2; have p0 := (s0.below b12).cell 0 _ rfl; have p1 := (s0.below b12).cell 1 _ rfl; have p2 := (s0.below b12).cell 2 _ rfl; have p3 := (s0.below b12).cell 3 _ rfl; have p4 := (s0.below b12).cell 4 _ rfl; have zz0 := (s2.below b12).cell 0 _ rfl; have zz1 := (s2.below b12).cell 1 _ rfl; have zz2 := (s2.below b12).cell 2 _ rfl; have zz3 := (s2.below b12).cell 3 _ rfl; have zz4 := (s2.below b12).cell 4 _ rfl; have zf := (s2.below b12).free) | (go_at_call 25; refine (cl _).mono ?_; rintro e q3 ⟨rfl, rfl⟩) | (go_at_call 9; refine (CC.out _ (below_trans bw b12)).mono ?_; rintro e q4 ⟨v1, t1, t2, t3, rfl, oD, b4⟩; obtain ⟨cs0, r0⟩ := oD.code.row; obtain ⟨ca, cq, e0⟩ := own_form r0; obtain ⟨oa, oq, e1⟩ := own_form oD.origs; obtain ⟨da, dq, e2⟩ := own_form oD.dests; obtain ⟨cs3, r3⟩ := oD.loops.own.row; obtain ⟨la, lq, e3⟩ := own_form r3; obtain ⟨cs4, r4⟩ := oD.cases.own.row; obtain ⟨ka, kq, e4⟩ := own_form r4; obtain ⟨y0, y1, y2, y3, y4⟩ := v1; (try dsimp only at e0 e1 e2 e3 e4); subst e0 e1 e2 e3 e4; simp only [Dv.cs]))
        have bo := box_below q4 (.cells #[.slice ca d.code.length cq, .slice oa d.origs.length oq, .slice da d.dests.length dq, .slice la d.loops.length lq, .slice ka d.cases.length kq] 26)
        have so := stands_new q4 #[.slice ca d.code.length cq, .slice oa d.origs.length oq, .slice da d.dests.length dq, .slice la d.loops.length lq, .slice ka d.cases.length kq] 26
        have oD4 := oD.below bo
        have b15 := below_trans (below_trans b12 b4) bo
        have B15 := below_trans bw b15
        have sz4 := s2.below b15
        obtain ⟨BX, hBX⟩ : ∃ B, q4.heap.size = B := ⟨_, rfl⟩
        have hW0 : w.heap.size + 1 < W0.heap.size := (Array.getElem?_eq_some_iff.1 s2).1
        have hWq : W0.heap.size ≤ q3.heap.size := b12.size
        have hBq : q3.heap.size ≤ BX := by rw [← hBX]; exact b4.size
        have hBs : q3.heap.size ≤ (q4.alloc (.cells #[.slice ca d.code.length cq, .slice oa d.origs.length oq, .slice da d.dests.length dq, .slice la d.loops.length lq, .slice ka d.cases.length kq] 26)).heap.size := Nat.le_trans b4.size bo.size
        obtain ⟨base, hba⟩ : ∃ B, q3.heap.size = B := ⟨_, rfl⟩
        rw [hBX] at so
        simp only [hBX]
        rw [hba] at oD4 hBq hWq hBs
        generalize q4.alloc (.cells #[.slice ca d.code.length cq, .slice oa d.origs.length oq, .slice da d.dests.length dq, .slice la d.loops.length lq, .slice ka d.cases.length kq] 26) = q5 at so oD4 sz4 B15 hBs ⊢
        clear bo b15 oD b4 hba hBX b12 f0 f1 f2 f3 f4 bw s0 s2 r0 r3 r4
        have u0 := so.cell 0 _ rfl
        go_upto_region 11 with fail
        have bX := box_below q5 (.cells #[.int .i64 11, .int .u32 0] 37)
        have oDX := oD4.below bX
        obtain ⟨rows, p1, p2, p3, p4⟩ := oDX.code
        obtain ⟨i9, hi9, hz9, hz8, hz7⟩ := info_parts infoOp10
        have one : ∀ r ∈ [[Value.int .i64 11, .int .u32 0]], ∀ u ∈ r, u.oneCell' = true := fun r hr u hu => by rw [List.mem_singleton] at hr; subst hr; simp at hu; rcases hu with rfl | rfl <;> rfl
        have P1 := hid p1
        have P2 := hid p2
        have P4 := hid p4
        have OX := hid oDX
        clear p1 p2 p4 oDX oD4
        go_upto_region 12 with (at_builtin; refine wpList_append_rows rfl _ _ 22 rfl base 37 i9 _ 2 16 Try.underlying22 hi9 hz9 hz8 hz7 rfl (by decide) _ d.code.length _ rfl p3 _ [[Value.int .i64 11, .int .u32 0]] rfl (slc_one q5 [Value.int .i64 11, .int .u32 0] 37 2 rfl) one (by unfold maxLen; simp only [List.length_singleton]; omega) (by simp only [List.length_singleton]; omega) (Nat.le_trans hBs bX.size) ?_; intro v9 w9 ho9 hg9; obtain ⟨a9, c9, rfl⟩ := own_form ho9; have so9 := Stands.grown (so.below bX) hg9 (stands_apart (so.below bX) p3 (by decide)); have y2 := so9.cell 0 _ rfl; have yg := so9.free 0)
        have kW := Kept.own p3 hg9
        have szF := (Stands.grown (sz4.below bX) hg9 (stands_apart (sz4.below bX) p3 (by decide))).other (b' := BX) 0 (.slice a9 (d.code.length + [[Value.int .i64 11, .int .u32 0]].length) c9) (by omega)
        have oC9 : OwC base w9 (.slice a9 (d.code.length + 1) c9) (d.code ++ [(11, 0)]) := OwnR.snoc (e := 37) (O := opR) opR_apt10 P1.out P2.out p3 P4.out rfl (x := (11, 0)) rfl (by simpa using ho9) hg9
        have oD9 := OX.out.code' kW oC9
        have oDF := oD9.kept (set_kept so9 0 (.slice a9 (d.code.length + [[Value.int .i64 11, .int .u32 0]].length) c9)) (by decide) (by decide) (by decide)
        have soF := so9.set 0 (.slice a9 (d.code.length + [[Value.int .i64 11, .int .u32 0]].length) c9)
        have BF := below_set (below_grown (below_trans B15 bX) hg9 (fun q hq => by have := (p3.lt q hq).1; omega)) BX 0 (.slice a9 (d.code.length + [[Value.int .i64 11, .int .u32 0]].length) c9) (by omega)
        have hsF : base ≤ (w9.setCell ⟨BX, 0, none⟩ (.slice a9 (d.code.length + [[Value.int .i64 11, .int .u32 0]].length) c9)).heap.size := Nat.le_trans hBs (Nat.le_trans bX.size (Nat.le_trans hg9.size (set_kept so9 0 (.slice a9 (d.code.length + [[Value.int .i64 11, .int .u32 0]].length) c9)).size))
        generalize w9.setCell ⟨BX, 0, none⟩ (.slice a9 (d.code.length + [[Value.int .i64 11, .int .u32 0]].length) c9) = q9 at szF oDF soF BF hsF ⊢
        have soF : Stands q9 BX #[.slice a9 (d.code.length + 1) c9, .slice oa d.origs.length oq, .slice da d.dests.length dq, .slice la d.loops.length lq, .slice ka d.cases.length kq] 26 := soF
        clear p3 ho9 hg9 kW oD9 oC9 so9 y2 yg bX so sz4 B15 u0 one OX P1 P2 P4
        have u0 := soF.cell 0 _ rfl
        have u1 := soF.cell 1 _ rfl
        have u2 := soF.cell 2 _ rfl
        have u3 := soF.cell 3 _ rfl
        have u4 := soF.cell 4 _ rfl
        go_upto_region 13 with fail
        have hp := lak_k (Or.inr (Or.inr rfl)) c2
        have hin := (frm_k c1 hp).2
        have hcl := frm_code c1
        have hc9 : (d.code ++ [(11, 0)]).length = d.code.length + 1 := by simp
        obtain ⟨csr, rC0⟩ := oDF.code.row
        obtain ⟨gc, cz, ez⟩ := own_some rC0 (by rw [hc9]; omega)
        obtain ⟨rfl, rfl⟩ := slice_inj ez
        clear ez
        clear rC0 csr
        obtain ⟨csr, ror⟩ := oDF.cases.own.row
        obtain ⟨gk, cz, ez⟩ := own_some ror hp
        obtain ⟨rfl, rfl⟩ := slice_inj ez
        clear ez
        clear ror csr
        have bd : Below q9.heap.size q9 q9.drew := below_drewN (Below.refl q9.heap.size q9) 1
        have soD := soF.below bd
        have szD := szF.below bd
        have oDD := oDF.below bd
        have BD := below_trans BF bd
        have hsD := Nat.le_trans hsF bd.size
        clear oDF
        go_region
        go_upto_region 50 with fail
        generalize q9.drew = q10 at soD szD oDD BD hsD bd ⊢
        clear soF szF BF hsF u0 u1 u2 u3 u4 bd
        have u1 := soD.cell 4 _ rfl
        obtain ⟨gx, cx, rowsNn, vo, Nn⟩ := oDD.cases.newest hp
        obtain ⟨hgx, rfl⟩ := slice_inj Nn.form
        cases hgx
        have ix := idx_opn gk d.cases.length kq hp
        have cO := Nn.cellO
        have cu := cut_opn gk d.cases.length kq hp (own_cap Nn.own)
        obtain ⟨csr, rC⟩ := oDD.code.row
        have hBg : BX ≠ gc := fun e => stands_apart soD rC (by decide) (by rw [e]; rfl)
        have cA := w_r10aim base BX gc c9 _ _ _ _ vo (d.code ++ [(11, 0)]) (nwO d.cases).2 ((d.code.length : Int) + 1) q10 (by rw [hc9]; exact soD) (by rw [hc9]; exact oDD.code) (fun W hg => (Rd_own (own_kept (Kept.own rC hg) (by decide) Nn.outs)).1) (fun n hn => by have := hin n hn; rw [hc9]; omega) (by omega) (by omega) hBg
        simp only [hc9] at cA
        have O0 := hid oDD
        have RC := hid rC
        clear oDD rC hin Nn
        go_upto_region 52 with (go_at_call 26; refine cA.mono ?_; rintro e q11 ⟨rfl, oC1, hgC⟩; have so11 := Stands.grown soD hgC (fun e => hBg (by injection e)); have u1 := so11.cell 4 _ rfl; have yg := so11.free 4)
        have kC := Kept.own RC.out hgC
        have soZ := so11.set 4 (.slice (some ⟨gk, 0, none⟩) (d.cases.length - 1) kq)
        have szZ := (stands_kept kC (by decide) szD).other (b' := BX) 4 (.slice (some ⟨gk, 0, none⟩) (d.cases.length - 1) kq) (by omega)
        have l1 := O0.out.le1
        have l2 := O0.out.le2
        have l3 := O0.out.le3
        obtain ⟨gy, cy, rowsy, voy, Ny⟩ := (O0.out.cases.kept kC (by decide) (by decide)).newest hp
        obtain ⟨hgy, rfl⟩ := slice_inj Ny.form
        cases hgy
        have nR := opnO_leR (base := base) (Ny.cut (gb_refl _ _)) (by omega)
        have oE9 := OwD.toK (hi := 0) O0.out (Out.kept kC (by decide) (by decide)) oC1 nR
        have oEZ := oE9.kept (set_kept so11 4 (.slice (some ⟨gk, 0, none⟩) (d.cases.length - 1) kq)) (by decide) (by decide) (by decide)
        have BZ := below_set (below_grown BD hgC (fun q hq => by have := (RC.out.lt q hq).1; omega)) BX 4 (.slice (some ⟨gk, 0, none⟩) (d.cases.length - 1) kq) (by omega)
        generalize q11.setCell ⟨BX, 4, none⟩ (.slice (some ⟨gk, 0, none⟩) (d.cases.length - 1) kq) = qz at soZ szZ oEZ BZ ⊢
        have soZ : Stands qz BX #[.slice (some ⟨gc, 0, none⟩) (d.code.length + 1) c9, .slice oa d.origs.length oq, .slice da d.dests.length dq, .slice la d.loops.length lq, .slice (some ⟨gk, 0, none⟩) (d.cases.length - 1) kq] 26 := soZ
        clear oE9 nR Ny kC so11 u1 yg soD szD BD O0 RC oC1 hgC cu cA cO ix
        have u0 := soZ.cell 0 _ rfl
        have u1 := soZ.cell 1 _ rfl
        have u2 := soZ.cell 2 _ rfl
        have u3 := soZ.cell 3 _ rfl
        have u4 := soZ.cell 4 _ rfl
        have zz0 := szZ.cell 0 _ rfl
        have zz1 := szZ.cell 1 _ rfl
        have zz2 := szZ.cell 2 _ rfl
        have zz3 := szZ.cell 3 _ rfl
        have zz4 := szZ.cell 4 _ rfl
        have zf := szZ.free
        obtain ⟨g1, g2⟩ := set5q szZ (.slice (some ⟨gc, 0, none⟩) (d.code.length + 1) c9) (.slice oa d.origs.length oq) (.slice da d.dests.length dq) (.slice la d.loops.length lq) (.slice (some ⟨gk, 0, none⟩) (d.cases.length - 1) kq)
        have G1 := hid g1
        have GM := hid (g2 (fun u => OwE base u ⟨.slice (some ⟨gc, 0, none⟩) (d.code.length + 1) c9, .slice oa d.origs.length oq, .slice da d.dests.length dq, .slice la d.loops.length lq, .slice (some ⟨gk, 0, none⟩) (d.cases.length - 1) kq⟩ ⟨aimF (d.code ++ [(11, 0)]) (nwO d.cases).2 ((d.code.length : Int) + 1), d.origs, d.dests, d.loops, d.cases.take (d.cases.length - 1)⟩) (fun u u' kk q => q.kept kk (by decide) (by decide) (by decide)) oEZ)
        have J7 : Hid (Below w.heap.size w _) := below_set (below_set (below_set (below_set (below_set (BZ) (w.heap.size + 1) 0 (.slice (some ⟨gc, 0, none⟩) (d.code.length + 1) c9) (by omega)) (w.heap.size + 1) 1 (.slice oa d.origs.length oq) (by omega)) (w.heap.size + 1) 2 (.slice da d.dests.length dq) (by omega)) (w.heap.size + 1) 3 (.slice la d.loops.length lq) (by omega)) (w.heap.size + 1) 4 (.slice (some ⟨gk, 0, none⟩) (d.cases.length - 1) kq) (by omega)
        clear g1 g2 oEZ BZ szZ soZ
        go_wp2_with fail
        (try simp only [Exit.inBlock, Exit.then])
        refine bodyPost_ret (res_row2 rfl _ _ (w.heap.size + 1) 26 _ (0, 0) _ rfl G1.out Try.underlying26 rfl (show _ = some 5 by kernel_rfl)) rfl ?_
        exact ⟨⟨.slice (some ⟨gc, 0, none⟩) (d.code.length + 1) c9, .slice oa d.origs.length oq, .slice da d.dests.length dq, .slice la d.loops.length lq, .slice (some ⟨gk, 0, none⟩) (d.cases.length - 1) kq⟩, rfl, ⟨_, GM.out⟩, J7.out⟩
end Go.Proofs.Ytfmpeminfcehaaa
