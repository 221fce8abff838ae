/-
  Act, Put and Finish of the landed package code.
-/
import Derived.Test.YtfmpeminfcehaaaCk9
import Derived.Test.YtfmpeminfcehaaaCk2
namespace Go.Proofs.Ytfmpeminfcehaaa
open Go.ChangeShapes Go.WideShapes Go.ChangeAt Go.RowKit
set_option linter.unusedVariables false
set_option linter.unusedSimpArgs false

theorem act_noP {d : Dft} {a : Int} (h : frmD d = false) : actD d a = (nilD, 1) := by unfold actD; rw [if_pos (Or.inl h)]
theorem rd_nilP (w : World) : RdD w ⟨.slice none 0 0, .slice none 0 0, .slice none 0 0, .slice none 0 0, .slice none 0 0⟩ nilD := ⟨SlR.nil, Rd_nil, Rd_nil, SlR.nil, SlR.nil⟩
theorem act_bad {d : Dft} {a : Int} (h : ¬ (actD d a).2 = 0) : (actD d a).1 = nilD := by
  unfold actD at h ⊢
  split
  · rfl
  · rename_i c1
    rw [if_neg c1] at h
    split
    · rfl
    · rename_i c2
      rw [if_neg c2] at h
      split
      · rfl
      · rename_i c3
        rw [if_neg c3] at h
        exact absurd rfl h

set_option maxHeartbeats 8000000 in
set_option maxRecDepth 100000 in
theorem w_p10actA (v : Dv) (d : Dft) (a : Int) (w : World) (h : RdD w v d) (z : szD d) (ze : szE d) :
    Calls Try.prog 10 #[.agg v.cs, .int .i64 a] w fun e w' => ∃ v1, e = .returned (.tuple #[.agg (Dv.cs v1), .int .i64 (actD d a).2]) ∧ OwQ w' v1 (actD d a).1 ∧ Below w.heap.size w w' := by
  have cf := fun W (b : Below w.heap.size w W) => w_p10formed v d W (h.below b)
  have ct := fun W (b : Below w.heap.size w W) => w_p10twin v d W (h.below b) z
  have CT := hid ct
  have s0 := (stands_new w v.cs 26).below (box_below _ (.cells #[.slice none 0 0, .slice none 0 0, .slice none 0 0, .slice none 0 0, .slice none 0 0] 26))
  have s2 := stands_new (w.alloc (.cells v.cs 26)) #[.slice none 0 0, .slice none 0 0, .slice none 0 0, .slice none 0 0, .slice none 0 0] 26
  rw [size_al] at s2
  have bw := below_trans (box_below w (.cells v.cs 26)) (box_below _ (.cells #[.slice none 0 0, .slice none 0 0, .slice none 0 0, .slice none 0 0, .slice none 0 0] 26))
  clear h z ct
  obtain ⟨x0, x1, x2, x3, x4⟩ := v
  simp only [Dv.cs] at cf CT s0 s2 bw ⊢
  cases c1 : frmD d with
  | false =>
    rw [act_noP c1]
    simp only [c1] at cf
    go_enter Try.func10, Try.ntmps10
    go_upto_region 1 with fail
    generalize (w.alloc (.cells #[x0, x1, x2, x3, x4] 26)).alloc (.cells #[.slice none 0 0, .slice none 0 0, .slice none 0 0, .slice none 0 0, .slice none 0 0] 26) = W0 at s0 s2 bw ⊢
    have f0 := s0.cell 0 _ rfl
    have f1 := s0.cell 1 _ rfl
    have f2 := s0.cell 2 _ rfl
    have f3 := s0.cell 3 _ rfl
    have f4 := s0.cell 4 _ rfl
    go_wp2_with (first | (go_at_call 12; refine (cf _ bw).mono ?_; rintro e q1 ⟨rfl, b1⟩; have p0 := (s0.below b1).cell 0 _ rfl; have p1 := (s0.below b1).cell 1 _ rfl; have p2 := (s0.below b1).cell 2 _ rfl; have p3 := (s0.below b1).cell 3 _ rfl; have p4 := (s0.below b1).cell 4 _ rfl; have zz0 := (s2.below b1).cell 0 _ rfl; have zz1 := (s2.below b1).cell 1 _ rfl; have zz2 := (s2.below b1).cell 2 _ rfl; have zz3 := (s2.below b1).cell 3 _ rfl; have zz4 := (s2.below b1).cell 4 _ rfl; have zf := (s2.below b1).free))
    obtain ⟨g1, g2⟩ := set5q (s2.below b1) (.slice none 0 0) (.slice none 0 0) (.slice none 0 0) (.slice none 0 0) (.slice none 0 0)
    have J7 := set5b (below_trans bw b1) (w.heap.size + 1) (by omega) (.slice none 0 0) (.slice none 0 0) (.slice none 0 0) (.slice none 0 0) (.slice none 0 0)
    (try simp only [Exit.inBlock, Exit.then])
    refine bodyPost_ret (res_row2 rfl _ _ (w.heap.size + 1) 26 _ (0, 0) _ rfl g1 Try.underlying26 rfl (show _ = some 5 by kernel_rfl)) rfl ?_
    exact ⟨⟨.slice none 0 0, .slice none 0 0, .slice none 0 0, .slice none 0 0, .slice none 0 0⟩, rfl, OwQ.nil _, J7⟩
  | true =>
    simp only [c1] at cf
    go_enter Try.func10, Try.ntmps10
    go_upto_region 1 with fail
    generalize (w.alloc (.cells #[x0, x1, x2, x3, x4] 26)).alloc (.cells #[.slice none 0 0, .slice none 0 0, .slice none 0 0, .slice none 0 0, .slice none 0 0] 26) = W0 at s0 s2 bw ⊢
    have f0 := s0.cell 0 _ rfl
    have f1 := s0.cell 1 _ rfl
    have f2 := s0.cell 2 _ rfl
    have f3 := s0.cell 3 _ rfl
    have f4 := s0.cell 4 _ rfl
    go_upto_region 4 with (first | (go_at_call 12; refine (cf _ bw).mono ?_; rintro e q1 ⟨rfl, b1⟩; have p0 := (s0.below b1).cell 0 _ rfl; have p1 := (s0.below b1).cell 1 _ rfl; have p2 := (s0.below b1).cell 2 _ rfl; have p3 := (s0.below b1).cell 3 _ rfl; have p4 := (s0.below b1).cell 4 _ rfl; have zz0 := (s2.below b1).cell 0 _ rfl; have zz1 := (s2.below b1).cell 1 _ rfl; have zz2 := (s2.below b1).cell 2 _ rfl; have zz3 := (s2.below b1).cell 3 _ rfl; have zz4 := (s2.below b1).cell 4 _ rfl; have zf := (s2.below b1).free) | (go_at_call 22; refine (CT.out _ (below_trans bw b1)).mono ?_; rintro e q2 ⟨v1, t1, t2, t3, rfl, oD, b2⟩; obtain ⟨y0, y1, y2, y3, y4⟩ := v1; obtain ⟨cs0, r0⟩ := oD.code.row; obtain ⟨ca, cq, e0⟩ := own_form r0; obtain ⟨oa, oq, e1⟩ := own_form oD.origs; obtain ⟨da, dq, e2⟩ := own_form oD.dests; obtain ⟨cs3, r3⟩ := oD.loops.own.row; obtain ⟨la, lq, e3⟩ := own_form r3; obtain ⟨cs4, r4⟩ := oD.cases.own.row; obtain ⟨ka, kq, e4⟩ := own_form r4; (try dsimp only at e0 e1 e2 e3 e4); subst e0 e1 e2 e3 e4; simp only [Dv.cs]))
    have bo := box_below q2 (.cells #[.slice ca d.code.length cq, .slice oa d.origs.length oq, .slice da d.dests.length dq, .slice la d.loops.length lq, .slice ka d.cases.length kq] 52)
    have so := stands_new q2 #[.slice ca d.code.length cq, .slice oa d.origs.length oq, .slice da d.dests.length dq, .slice la d.loops.length lq, .slice ka d.cases.length kq] 52
    have oD4 := oD.below bo
    have b4 := below_trans (below_trans b1 b2) bo
    have hqb := b2.size
    have hsb : w.heap.size ≤ q1.heap.size := Nat.le_trans bw.size b1.size
    obtain ⟨BX, hBX⟩ : ∃ B, q2.heap.size = B := ⟨_, rfl⟩
    obtain ⟨base, hba⟩ : ∃ B, q1.heap.size = B := ⟨_, rfl⟩
    have hrs : (w.heap.size + 1) < base := by rw [← hba]; exact Nat.lt_of_lt_of_le (Array.getElem?_eq_some_iff.1 s2).1 b1.size
    rw [hBX] at so hqb
    (try simp only [hBX])
    rw [hba] at oD4 hqb hsb
    generalize q2.alloc (.cells #[.slice ca d.code.length cq, .slice oa d.origs.length oq, .slice da d.dests.length dq, .slice la d.loops.length lq, .slice ka d.cases.length kq] 52) = q4 at so oD4 b4 bo ⊢
    clear bo oD b2 hba hBX r0 r3 r4
    have cd := w_p10do BX base t1 t2 t3 _ _ _ _ _ d a q4 so oD4 c1 ze hqb
    by_cases hE : (actD d a).2 = 0
    · have hne : ((actD d a).2 != 0) = false := by simp [hE]
      go_upto_region 7 with (go_at_call 23; refine cd.mono ?_; rintro e q5 ⟨rfl, h5, d5⟩; obtain ⟨⟨n0, n1, n2, n3, n4⟩, so5, oE⟩ := h5 hE)
      have oR := oE
      obtain ⟨ks0, kr0⟩ := OwnR.row oE.code
      obtain ⟨ka0, kc0, ke0⟩ := own_form kr0
      obtain ⟨ka1, kc1, ke1⟩ := own_form oE.origs
      obtain ⟨ka2, kc2, ke2⟩ := own_form oE.dests
      obtain ⟨ks3, kr3⟩ := OwnR.row oE.loops
      obtain ⟨ka3, kc3, ke3⟩ := own_form kr3
      obtain ⟨ks4, kr4⟩ := OwnR.row oE.cases
      obtain ⟨ka4, kc4, ke4⟩ := own_form kr4
      dsimp only at ke0 ke1 ke2 ke3 ke4
      subst ke0 ke1 ke2 ke3 ke4
      have sR0 := s2.below b4
      have sR : Stands q5 (w.heap.size + 1) #[.slice none 0 0, .slice none 0 0, .slice none 0 0, .slice none 0 0, .slice none 0 0] 26 := by unfold Stands at sR0 ⊢; rw [d5.block _ hrs]; exact sR0
      have so5 : Stands q5 BX #[.slice ka0 (actD d a).1.code.length kc0, .slice ka1 (actD d a).1.origs.length kc1, .slice ka2 (actD d a).1.dests.length kc2, .slice ka3 (actD d a).1.loops.length kc3, .slice ka4 (actD d a).1.cases.length kc4] 52 := so5
      have u0 := so5.cell 0 _ rfl
      have zz0 := sR.cell 0 _ rfl
      have u1 := so5.cell 1 _ rfl
      have zz1 := sR.cell 1 _ rfl
      have u2 := so5.cell 2 _ rfl
      have zz2 := sR.cell 2 _ rfl
      have u3 := so5.cell 3 _ rfl
      have zz3 := sR.cell 3 _ rfl
      have u4 := so5.cell 4 _ rfl
      have zz4 := sR.cell 4 _ rfl
      have zf := sR.free
      obtain ⟨g1, g2⟩ := set5q sR (.slice ka0 (actD d a).1.code.length kc0) (.slice ka1 (actD d a).1.origs.length kc1) (.slice ka2 (actD d a).1.dests.length kc2) (.slice ka3 (actD d a).1.loops.length kc3) (.slice ka4 (actD d a).1.cases.length kc4)
      have GM := g2 (fun u => OwE base u ⟨.slice ka0 (actD d a).1.code.length kc0, .slice ka1 (actD d a).1.origs.length kc1, .slice ka2 (actD d a).1.dests.length kc2, .slice ka3 (actD d a).1.loops.length kc3, .slice ka4 (actD d a).1.cases.length kc4⟩ (actD d a).1) (fun u u' kk q => q.kept kk (by decide) (by decide) (by decide)) oE
      have J5 : Below w.heap.size w q5 := (below_trans bw b4).trans (d5.mono hsb)
      have J7 := set5b J5 (w.heap.size + 1) (by omega) (.slice ka0 (actD d a).1.code.length kc0) (.slice ka1 (actD d a).1.origs.length kc1) (.slice ka2 (actD d a).1.dests.length kc2) (.slice ka3 (actD d a).1.loops.length kc3) (.slice ka4 (actD d a).1.cases.length kc4)
      clear s0 s2 b4 bw f0 f1 f2 f3 f4 so oD4 cd sR0 so5 oE oR kr0 kr3 kr4
      go_wp2_with fail
      (try simp only [Exit.inBlock, Exit.then])
      refine bodyPost_ret (res_row2 rfl _ _ (w.heap.size + 1) 26 _ (0, 0) _ rfl g1 Try.underlying26 rfl (show _ = some 5 by kernel_rfl)) rfl ?_
      exact ⟨⟨.slice ka0 (actD d a).1.code.length kc0, .slice ka1 (actD d a).1.origs.length kc1, .slice ka2 (actD d a).1.dests.length kc2, .slice ka3 (actD d a).1.loops.length kc3, .slice ka4 (actD d a).1.cases.length kc4⟩, by rw [hE]; rfl, ⟨_, GM⟩, J7⟩
    · have hne : ((actD d a).2 != 0) = true := by simp [hE]
      have hb := act_bad hE
      have sR0 := s2.below b4
      go_upto_region 6 with (go_at_call 23; refine cd.mono ?_; rintro e q5 ⟨rfl, h5, d5⟩; clear h5)
      have sR : Stands q5 (w.heap.size + 1) #[.slice none 0 0, .slice none 0 0, .slice none 0 0, .slice none 0 0, .slice none 0 0] 26 := by unfold Stands at sR0 ⊢; rw [d5.block _ hrs]; exact sR0
      have zz0 := sR.cell 0 _ rfl
      have zz1 := sR.cell 1 _ rfl
      have zz2 := sR.cell 2 _ rfl
      have zz3 := sR.cell 3 _ rfl
      have zz4 := sR.cell 4 _ rfl
      have zf := sR.free
      obtain ⟨g1, g2⟩ := set5q sR (.slice none 0 0) (.slice none 0 0) (.slice none 0 0) (.slice none 0 0) (.slice none 0 0)
      have J5 : Below w.heap.size w q5 := (below_trans bw b4).trans (d5.mono hsb)
      have J7 := set5b J5 (w.heap.size + 1) (by omega) (.slice none 0 0) (.slice none 0 0) (.slice none 0 0) (.slice none 0 0) (.slice none 0 0)
      clear s0 s2 b4 bw f0 f1 f2 f3 f4 so oD4 cd sR0
      go_wp2_with fail
      (try simp only [Exit.inBlock, Exit.then])
      refine bodyPost_ret (res_row2 rfl _ _ (w.heap.size + 1) 26 _ (0, 0) _ rfl g1 Try.underlying26 rfl (show _ = some 5 by kernel_rfl)) rfl ?_
      exact ⟨⟨.slice none 0 0, .slice none 0 0, .slice none 0 0, .slice none 0 0, .slice none 0 0⟩, rfl, by rw [hb]; exact OwQ.nil _, J7⟩

theorem put_has (K N : Int) : hasK [1, 2, 12, 13] K = putK (K, N) := by
  unfold hasK putK
  by_cases h1 : K = 1
  · simp [h1]
  · by_cases h2 : K = 2
    · simp [h2]
    · by_cases h3 : K = 12
      · simp [h3]
      · by_cases h4 : K = 13
        · simp [h4]
        · simp [h1, h2, h3, h4]
theorem pput_no1 {d : Dft} {o : Opd} (h : frmD d = false ∨ putK o = false) : putD d o = (nilD, 1) := by unfold putD; rw [if_pos h]
theorem pput_no3 {d : Dft} {o : Opd} (h : frmD d = true) (h1 : putK o = true) (h2 : d.code.length = 256) : putD d o = (nilD, 3) := by unfold putD; rw [if_neg (by rw [h, h1]; simp), if_pos (by omega)]
theorem pput_yes {d : Dft} {o : Opd} (h : frmD d = true) (h1 : putK o = true) (h2 : d.code.length < 256) : putD d o = ({ d with code := d.code ++ [o] }, 0) := by unfold putD; rw [if_neg (by rw [h, h1]; simp), if_neg (by omega)]

set_option maxHeartbeats 8000000 in
set_option maxRecDepth 100000 in
theorem w_p10putA (v : Dv) (d : Dft) (K N : Int) (w : World) (h : RdD w v d) (z : szD d) :
    Calls Try.prog 15 #[.agg v.cs, .agg #[.int .i64 K, .int .u32 N]] w fun e w' => ∃ v1, e = .returned (.tuple #[.agg (Dv.cs v1), .int .i64 (putD d (K, N)).2]) ∧ OwQ w' v1 (putD d (K, N)).1 ∧ Below w.heap.size w w' := by
  have cf := fun W (b : Below w.heap.size w W) => w_p10formed v d W (h.below b)
  have ct := fun W (b : Below w.heap.size w W) => w_p10twin v d W (h.below b) z
  have CT := hid ct
  have s0 := ((stands_new w v.cs 26).below (box_below _ (.cells #[.int .i64 K, .int .u32 N] 37))).below (box_below _ (.cells #[.slice none 0 0, .slice none 0 0, .slice none 0 0, .slice none 0 0, .slice none 0 0] 26))
  have s1 := (stands_new (w.alloc (.cells v.cs 26)) #[.int .i64 K, .int .u32 N] 37).below (box_below _ (.cells #[.slice none 0 0, .slice none 0 0, .slice none 0 0, .slice none 0 0, .slice none 0 0] 26))
  have s2 := stands_new ((w.alloc (.cells v.cs 26)).alloc (.cells #[.int .i64 K, .int .u32 N] 37)) #[.slice none 0 0, .slice none 0 0, .slice none 0 0, .slice none 0 0, .slice none 0 0] 26
  rw [size_al] at s1
  rw [size_al, size_al] at s2
  have bw := below_trans (below_trans (box_below w (.cells v.cs 26)) (box_below _ (.cells #[.int .i64 K, .int .u32 N] 37))) (box_below _ (.cells #[.slice none 0 0, .slice none 0 0, .slice none 0 0, .slice none 0 0, .slice none 0 0] 26))
  clear h z ct
  obtain ⟨x0, x1, x2, x3, x4⟩ := v
  simp only [Dv.cs] at cf CT s0 s2 bw s1 ⊢
  cases c1 : frmD d with
  | false =>
    rw [pput_no1 (Or.inl c1)]
    simp only [c1] at cf
    go_enter Try.func15, Try.ntmps15
    go_upto_region 1 with fail
    generalize ((w.alloc (.cells #[x0, x1, x2, x3, x4] 26)).alloc (.cells #[.int .i64 K, .int .u32 N] 37)).alloc (.cells #[.slice none 0 0, .slice none 0 0, .slice none 0 0, .slice none 0 0, .slice none 0 0] 26) = W0 at s0 s1 s2 bw ⊢
    have f0 := s0.cell 0 _ rfl
    have f1 := s0.cell 1 _ rfl
    have f2 := s0.cell 2 _ rfl
    have f3 := s0.cell 3 _ rfl
    have f4 := s0.cell 4 _ rfl
    go_wp2_with (first | (go_at_call 12; refine (cf _ bw).mono ?_; rintro e q1 ⟨rfl, b1⟩; have p0 := (s0.below b1).cell 0 _ rfl; have p1 := (s0.below b1).cell 1 _ rfl; have p2 := (s0.below b1).cell 2 _ rfl; have p3 := (s0.below b1).cell 3 _ rfl; have p4 := (s0.below b1).cell 4 _ rfl; have zz0 := (s2.below b1).cell 0 _ rfl; have zz1 := (s2.below b1).cell 1 _ rfl; have zz2 := (s2.below b1).cell 2 _ rfl; have zz3 := (s2.below b1).cell 3 _ rfl; have zz4 := (s2.below b1).cell 4 _ rfl; have zf := (s2.below b1).free))
    obtain ⟨g1, g2⟩ := set5q (s2.below b1) (.slice none 0 0) (.slice none 0 0) (.slice none 0 0) (.slice none 0 0) (.slice none 0 0)
    have J7 := set5b (below_trans bw b1) (w.heap.size + 1 + 1) (by omega) (.slice none 0 0) (.slice none 0 0) (.slice none 0 0) (.slice none 0 0) (.slice none 0 0)
    (try simp only [Exit.inBlock, Exit.then])
    refine bodyPost_ret (res_row2 rfl _ _ (w.heap.size + 1 + 1) 26 _ (0, 0) _ rfl g1 Try.underlying26 rfl (show _ = some 5 by kernel_rfl)) rfl ?_
    exact ⟨⟨.slice none 0 0, .slice none 0 0, .slice none 0 0, .slice none 0 0, .slice none 0 0⟩, rfl, OwQ.nil _, J7⟩
  | true =>
    simp only [c1] at cf
    have ca := fun W => w_p10among _ [1, 2, 12, 13] K _ (rd_lit W [1, 2, 12, 13] 3 (by decide) (by decide))
    simp only [put_has K N] at ca
    have CAH := hid ca
    clear ca
    cases c2 : putK (K, N) with
    | false =>
      rw [pput_no1 (Or.inr c2)]
      simp only [c2] at CAH
      go_enter Try.func15, Try.ntmps15
      go_upto_region 1 with fail
      generalize ((w.alloc (.cells #[x0, x1, x2, x3, x4] 26)).alloc (.cells #[.int .i64 K, .int .u32 N] 37)).alloc (.cells #[.slice none 0 0, .slice none 0 0, .slice none 0 0, .slice none 0 0, .slice none 0 0] 26) = W0 at s0 s1 s2 bw ⊢
      have f0 := s0.cell 0 _ rfl
      have f1 := s0.cell 1 _ rfl
      have f2 := s0.cell 2 _ rfl
      have f3 := s0.cell 3 _ rfl
      have f4 := s0.cell 4 _ rfl
      go_wp2_with (first | (go_at_call 12; refine (cf _ bw).mono ?_; rintro e q1 ⟨rfl, b1⟩; have k0 := (s1.below b1).cell 0 _ rfl) | (go_at_call 33; refine (CAH.out q1).mono ?_; rintro e q1b ⟨rfl, hw⟩; (replace hw := hw.trans (show _ = q1.alloc (.cells #[.int .i64 1, .int .i64 2, .int .i64 12, .int .i64 13] 3) from rfl)); have b1b := below_trans b1 (box_below q1 (.cells #[.int .i64 1, .int .i64 2, .int .i64 12, .int .i64 13] 3)); rw [← hw] at b1b; clear hw; have p0 := (s0.below b1b).cell 0 _ rfl; have p1 := (s0.below b1b).cell 1 _ rfl; have p2 := (s0.below b1b).cell 2 _ rfl; have p3 := (s0.below b1b).cell 3 _ rfl; have p4 := (s0.below b1b).cell 4 _ rfl; have zz0 := (s2.below b1b).cell 0 _ rfl; have zz1 := (s2.below b1b).cell 1 _ rfl; have zz2 := (s2.below b1b).cell 2 _ rfl; have zz3 := (s2.below b1b).cell 3 _ rfl; have zz4 := (s2.below b1b).cell 4 _ rfl; have zf := (s2.below b1b).free; have k1 := (s1.below b1b).cell 0 _ rfl; have k2 := (s1.below b1b).cell 1 _ rfl))
      obtain ⟨g1, g2⟩ := set5q (s2.below b1b) (.slice none 0 0) (.slice none 0 0) (.slice none 0 0) (.slice none 0 0) (.slice none 0 0)
      have J7 := set5b (below_trans bw b1b) (w.heap.size + 1 + 1) (by omega) (.slice none 0 0) (.slice none 0 0) (.slice none 0 0) (.slice none 0 0) (.slice none 0 0)
      (try simp only [Exit.inBlock, Exit.then])
      refine bodyPost_ret (res_row2 rfl _ _ (w.heap.size + 1 + 1) 26 _ (0, 0) _ rfl g1 Try.underlying26 rfl (show _ = some 5 by kernel_rfl)) rfl ?_
      exact ⟨⟨.slice none 0 0, .slice none 0 0, .slice none 0 0, .slice none 0 0, .slice none 0 0⟩, rfl, OwQ.nil _, J7⟩
    | true =>
      simp only [c2] at CAH
      have hcl := pfrm_code c1
      by_cases hr : d.code.length = 256
      · rw [pput_no3 c1 c2 hr]
        have HF := hid hr
        clear hr
        go_enter Try.func15, Try.ntmps15
        go_upto_region 1 with fail
        generalize ((w.alloc (.cells #[x0, x1, x2, x3, x4] 26)).alloc (.cells #[.int .i64 K, .int .u32 N] 37)).alloc (.cells #[.slice none 0 0, .slice none 0 0, .slice none 0 0, .slice none 0 0, .slice none 0 0] 26) = W0 at s0 s1 s2 bw ⊢
        have f0 := s0.cell 0 _ rfl
        have f1 := s0.cell 1 _ rfl
        have f2 := s0.cell 2 _ rfl
        have f3 := s0.cell 3 _ rfl
        have f4 := s0.cell 4 _ rfl
        go_upto_region 3 with (first | (go_at_call 12; refine (cf _ bw).mono ?_; rintro e q1 ⟨rfl, b1⟩; have k0 := (s1.below b1).cell 0 _ rfl) | (go_at_call 33; refine (CAH.out q1).mono ?_; rintro e q1b ⟨rfl, hw⟩; (replace hw := hw.trans (show _ = q1.alloc (.cells #[.int .i64 1, .int .i64 2, .int .i64 12, .int .i64 13] 3) from rfl)); have b1b := below_trans b1 (box_below q1 (.cells #[.int .i64 1, .int .i64 2, .int .i64 12, .int .i64 13] 3)); rw [← hw] at b1b; clear hw; have p0 := (s0.below b1b).cell 0 _ rfl; have p1 := (s0.below b1b).cell 1 _ rfl; have p2 := (s0.below b1b).cell 2 _ rfl; have p3 := (s0.below b1b).cell 3 _ rfl; have p4 := (s0.below b1b).cell 4 _ rfl; have zz0 := (s2.below b1b).cell 0 _ rfl; have zz1 := (s2.below b1b).cell 1 _ rfl; have zz2 := (s2.below b1b).cell 2 _ rfl; have zz3 := (s2.below b1b).cell 3 _ rfl; have zz4 := (s2.below b1b).cell 4 _ rfl; have zf := (s2.below b1b).free; have k1 := (s1.below b1b).cell 0 _ rfl; have k2 := (s1.below b1b).cell 1 _ rfl))
        clear b1
        obtain ⟨q1, hq1⟩ : ∃ x, x = q1b := ⟨_, rfl⟩
        subst hq1
        have b1 := b1b
        clear b1b
        go_upto_region 4 with (first | fail | (go_at_call 22; refine (CT.out _ (below_trans bw b1)).mono ?_; rintro e q2 ⟨v1, t1, t2, t3, rfl, oD, b2⟩; obtain ⟨y0, y1, y2, y3, y4⟩ := v1; obtain ⟨cs0, r0⟩ := oD.code.row; obtain ⟨ca, cq, e0⟩ := own_form r0; obtain ⟨oa, oq, e1⟩ := own_form oD.origs; obtain ⟨da, dq, e2⟩ := own_form oD.dests; obtain ⟨cs3, r3⟩ := oD.loops.own.row; obtain ⟨la, lq, e3⟩ := own_form r3; obtain ⟨cs4, r4⟩ := oD.cases.own.row; obtain ⟨ka, kq, e4⟩ := own_form r4; (try dsimp only at e0 e1 e2 e3 e4); subst e0 e1 e2 e3 e4; simp only [Dv.cs]))
        have bo := box_below q2 (.cells #[.slice ca d.code.length cq, .slice oa d.origs.length oq, .slice da d.dests.length dq, .slice la d.loops.length lq, .slice ka d.cases.length kq] 52)
        have so := stands_new q2 #[.slice ca d.code.length cq, .slice oa d.origs.length oq, .slice da d.dests.length dq, .slice la d.loops.length lq, .slice ka d.cases.length kq] 52
        have oD4 := oD.below bo
        have b4 := below_trans (below_trans b1 b2) bo
        have hqb := b2.size
        have hsb : w.heap.size ≤ q1.heap.size := Nat.le_trans bw.size b1.size
        obtain ⟨BX, hBX⟩ : ∃ B, q2.heap.size = B := ⟨_, rfl⟩
        obtain ⟨base, hba⟩ : ∃ B, q1.heap.size = B := ⟨_, rfl⟩
        have hrs : (w.heap.size + 1 + 1) < base := by rw [← hba]; exact Nat.lt_of_lt_of_le (Array.getElem?_eq_some_iff.1 s2).1 b1.size
        rw [hBX] at so hqb
        (try simp only [hBX])
        rw [hba] at oD4 hqb hsb
        generalize q2.alloc (.cells #[.slice ca d.code.length cq, .slice oa d.origs.length oq, .slice da d.dests.length dq, .slice la d.loops.length lq, .slice ka d.cases.length kq] 52) = q4 at so oD4 b4 bo ⊢
        clear bo oD b2 hba hBX r0 r3 r4
        have sO := s1.below b4
        have k3 := sO.cell 0 _ rfl
        have k4 := sO.cell 1 _ rfl
        have sR0 := s2.below b4
        have hbs := oD4.size
        go_upto_region 6 with (go_at_call 34; refine (w_layF BX base _ _ _ _ _ d.code K N _ so oD4.code HF.out).mono ?_; rintro e q5 ⟨rfl, d5⟩)
        have sR := sR0.below d5
        have zz0 := sR.cell 0 _ rfl
        have zz1 := sR.cell 1 _ rfl
        have zz2 := sR.cell 2 _ rfl
        have zz3 := sR.cell 3 _ rfl
        have zz4 := sR.cell 4 _ rfl
        have zf := sR.free
        obtain ⟨g1, g2⟩ := set5q sR (.slice none 0 0) (.slice none 0 0) (.slice none 0 0) (.slice none 0 0) (.slice none 0 0)
        have J5 : Below w.heap.size w q5 := below_trans (below_trans bw b4) d5
        have J7 := set5b J5 (w.heap.size + 1 + 1) (by omega) (.slice none 0 0) (.slice none 0 0) (.slice none 0 0) (.slice none 0 0) (.slice none 0 0)
        clear s0 s1 s2 b4 bw f0 f1 f2 f3 f4 so oD4 sR0 sO
        go_wp2_with fail
        (try simp only [Exit.inBlock, Exit.then])
        refine bodyPost_ret (res_row2 rfl _ _ (w.heap.size + 1 + 1) 26 _ (0, 0) _ rfl g1 Try.underlying26 rfl (show _ = some 5 by kernel_rfl)) rfl ?_
        exact ⟨⟨.slice none 0 0, .slice none 0 0, .slice none 0 0, .slice none 0 0, .slice none 0 0⟩, rfl, OwQ.nil _, J7⟩
      · have hroom : d.code.length < 256 := by omega
        rw [pput_yes c1 c2 hroom]
        go_enter Try.func15, Try.ntmps15
        go_upto_region 1 with fail
        generalize ((w.alloc (.cells #[x0, x1, x2, x3, x4] 26)).alloc (.cells #[.int .i64 K, .int .u32 N] 37)).alloc (.cells #[.slice none 0 0, .slice none 0 0, .slice none 0 0, .slice none 0 0, .slice none 0 0] 26) = W0 at s0 s1 s2 bw ⊢
        have f0 := s0.cell 0 _ rfl
        have f1 := s0.cell 1 _ rfl
        have f2 := s0.cell 2 _ rfl
        have f3 := s0.cell 3 _ rfl
        have f4 := s0.cell 4 _ rfl
        go_upto_region 3 with (first | (go_at_call 12; refine (cf _ bw).mono ?_; rintro e q1 ⟨rfl, b1⟩; have k0 := (s1.below b1).cell 0 _ rfl) | (go_at_call 33; refine (CAH.out q1).mono ?_; rintro e q1b ⟨rfl, hw⟩; (replace hw := hw.trans (show _ = q1.alloc (.cells #[.int .i64 1, .int .i64 2, .int .i64 12, .int .i64 13] 3) from rfl)); have b1b := below_trans b1 (box_below q1 (.cells #[.int .i64 1, .int .i64 2, .int .i64 12, .int .i64 13] 3)); rw [← hw] at b1b; clear hw; have p0 := (s0.below b1b).cell 0 _ rfl; have p1 := (s0.below b1b).cell 1 _ rfl; have p2 := (s0.below b1b).cell 2 _ rfl; have p3 := (s0.below b1b).cell 3 _ rfl; have p4 := (s0.below b1b).cell 4 _ rfl; have zz0 := (s2.below b1b).cell 0 _ rfl; have zz1 := (s2.below b1b).cell 1 _ rfl; have zz2 := (s2.below b1b).cell 2 _ rfl; have zz3 := (s2.below b1b).cell 3 _ rfl; have zz4 := (s2.below b1b).cell 4 _ rfl; have zf := (s2.below b1b).free; have k1 := (s1.below b1b).cell 0 _ rfl; have k2 := (s1.below b1b).cell 1 _ rfl))
        clear b1
        obtain ⟨q1, hq1⟩ : ∃ x, x = q1b := ⟨_, rfl⟩
        subst hq1
        have b1 := b1b
        clear b1b
        go_upto_region 4 with (first | fail | (go_at_call 22; refine (CT.out _ (below_trans bw b1)).mono ?_; rintro e q2 ⟨v1, t1, t2, t3, rfl, oD, b2⟩; obtain ⟨y0, y1, y2, y3, y4⟩ := v1; obtain ⟨cs0, r0⟩ := oD.code.row; obtain ⟨ca, cq, e0⟩ := own_form r0; obtain ⟨oa, oq, e1⟩ := own_form oD.origs; obtain ⟨da, dq, e2⟩ := own_form oD.dests; obtain ⟨cs3, r3⟩ := oD.loops.own.row; obtain ⟨la, lq, e3⟩ := own_form r3; obtain ⟨cs4, r4⟩ := oD.cases.own.row; obtain ⟨ka, kq, e4⟩ := own_form r4; (try dsimp only at e0 e1 e2 e3 e4); subst e0 e1 e2 e3 e4; simp only [Dv.cs]))
        have bo := box_below q2 (.cells #[.slice ca d.code.length cq, .slice oa d.origs.length oq, .slice da d.dests.length dq, .slice la d.loops.length lq, .slice ka d.cases.length kq] 52)
        have so := stands_new q2 #[.slice ca d.code.length cq, .slice oa d.origs.length oq, .slice da d.dests.length dq, .slice la d.loops.length lq, .slice ka d.cases.length kq] 52
        have oD4 := oD.below bo
        have b4 := below_trans (below_trans b1 b2) bo
        have hqb := b2.size
        have hsb : w.heap.size ≤ q1.heap.size := Nat.le_trans bw.size b1.size
        obtain ⟨BX, hBX⟩ : ∃ B, q2.heap.size = B := ⟨_, rfl⟩
        obtain ⟨base, hba⟩ : ∃ B, q1.heap.size = B := ⟨_, rfl⟩
        have hrs : (w.heap.size + 1 + 1) < base := by rw [← hba]; exact Nat.lt_of_lt_of_le (Array.getElem?_eq_some_iff.1 s2).1 b1.size
        rw [hBX] at so hqb
        (try simp only [hBX])
        rw [hba] at oD4 hqb hsb
        generalize q2.alloc (.cells #[.slice ca d.code.length cq, .slice oa d.origs.length oq, .slice da d.dests.length dq, .slice la d.loops.length lq, .slice ka d.cases.length kq] 52) = q4 at so oD4 b4 bo ⊢
        clear bo oD b2 hba hBX r0 r3 r4
        have sO := s1.below b4
        have k3 := sO.cell 0 _ rfl
        have k4 := sO.cell 1 _ rfl
        have sR0 := s2.below b4
        have hbs := oD4.size
        go_upto_region 7 with (go_at_call 34; refine (w_layR BX base _ _ _ _ _ d.code K N _ so oD4.code hroom hbs hqb).mono ?_; rintro e q5 ⟨a9, c9, rfl, so5, oc5, u5, d5⟩)
        have sR : Stands q5 (w.heap.size + 1 + 1) #[.slice none 0 0, .slice none 0 0, .slice none 0 0, .slice none 0 0, .slice none 0 0] 26 := by unfold Stands at sR0 ⊢; rw [d5.block _ hrs]; exact sR0
        have u0 := so5.cell 0 _ rfl
        have u1 := so5.cell 1 _ rfl
        have u2 := so5.cell 2 _ rfl
        have u3 := so5.cell 3 _ rfl
        have u4 := so5.cell 4 _ rfl
        have zz0 := sR.cell 0 _ rfl
        have zz1 := sR.cell 1 _ rfl
        have zz2 := sR.cell 2 _ rfl
        have zz3 := sR.cell 3 _ rfl
        have zz4 := sR.cell 4 _ rfl
        have zf := sR.free
        obtain ⟨g1, g2⟩ := set5q sR (.slice a9 (d.code.length + 1) c9) (.slice oa d.origs.length oq) (.slice da d.dests.length dq) (.slice la d.loops.length lq) (.slice ka d.cases.length kq)
        have J5 : Below w.heap.size w q5 := (below_trans bw b4).trans (d5.mono hsb)
        have oE : OwE base q5 ⟨.slice a9 (d.code.length + 1) c9, .slice oa d.origs.length oq, .slice da d.dests.length dq, .slice la d.loops.length lq, .slice ka d.cases.length kq⟩ { d with code := d.code ++ [(K, N)] } := ⟨oc5, own_out oD4.origs u5 (Or.inl rfl), own_le oD4.le1 (own_out oD4.dests u5 (Or.inl rfl)), own_outN (oD4.loops.owe (Nat.le_trans oD4.le1 oD4.le2)) u5, own_outN (oD4.cases.owe (Nat.le_trans oD4.le1 (Nat.le_trans oD4.le2 oD4.le3))) u5⟩
        have GM := g2 (fun u => OwE base u ⟨.slice a9 (d.code.length + 1) c9, .slice oa d.origs.length oq, .slice da d.dests.length dq, .slice la d.loops.length lq, .slice ka d.cases.length kq⟩ { d with code := d.code ++ [(K, N)] }) (fun u u' kk q => q.kept kk (by decide) (by decide) (by decide)) oE
        have J7 := set5b J5 (w.heap.size + 1 + 1) (by omega) (.slice a9 (d.code.length + 1) c9) (.slice oa d.origs.length oq) (.slice da d.dests.length dq) (.slice la d.loops.length lq) (.slice ka d.cases.length kq)
        clear s0 s1 s2 b4 bw f0 f1 f2 f3 f4 so oD4 sR0 sO
        go_wp2_with fail
        (try simp only [Exit.inBlock, Exit.then])
        refine bodyPost_ret (res_row2 rfl _ _ (w.heap.size + 1 + 1) 26 _ (0, 0) _ rfl g1 Try.underlying26 rfl (show _ = some 5 by kernel_rfl)) rfl ?_
        exact ⟨⟨.slice a9 (d.code.length + 1) c9, .slice oa d.origs.length oq, .slice da d.dests.length dq, .slice la d.loops.length lq, .slice ka d.cases.length kq⟩, rfl, ⟨_, GM⟩, J7⟩

theorem pfin_no1 {d : Dft} (h : frmD d = false) : finD d = ([], 1) := by unfold finD; rw [if_pos h]
theorem pfin_no13 {d : Dft} (h : frmD d = true) (h1 : ¬ (d.origs = [] ∧ d.dests = [] ∧ d.loops = [] ∧ d.cases = [])) : finD d = ([], 13) := by unfold finD; rw [if_neg (by rw [h]; simp), if_pos h1]
theorem pfin_yes {d : Dft} (h : frmD d = true) (h1 : d.origs = [] ∧ d.dests = [] ∧ d.loops = [] ∧ d.cases = []) : finD d = (d.code, 0) := by unfold finD; rw [if_neg (by rw [h]; simp), if_neg (by simpa using h1)]

set_option maxHeartbeats 8000000 in
set_option maxRecDepth 100000 in
theorem w_p10finishA (v : Dv) (d : Dft) (w : World) (h : RdD w v d) (z : szD d) :
    Calls Try.prog 17 #[.agg v.cs] w fun e w' => ∃ v1, e = .returned (.tuple #[v1, .int .i64 (finD d).2]) ∧ RdO w' v1 (finD d).1 ∧ Below w.heap.size w w' := by
  have cf := fun W (b : Below w.heap.size w W) => w_p10formed v d W (h.below b)
  have cc := fun W (b : Below w.heap.size w W) => w_p10cloneOps v.vc d.code W (h.code.below b) z.code
  have l1 := rd_len h.origs uJ (P := Try.prog)
  have l2 := rd_len h.dests uJ (P := Try.prog)
  have l3 := slr_len h.loops uK (P := Try.prog)
  have l4 := slr_len h.cases uK (P := Try.prog)
  have s0 := stands_new w v.cs 26
  have bw := box_below w (.cells v.cs 26)
  clear h z
  obtain ⟨x0, x1, x2, x3, x4⟩ := v
  simp only [Dv.cs] at cf cc s0 bw l1 l2 l3 l4 ⊢
  cases c1 : frmD d with
  | false =>
    rw [pfin_no1 c1]
    simp only [c1] at cf
    go_enter Try.func17, Try.ntmps17
    go_upto_region 1 with fail
    generalize w.alloc (.cells #[x0, x1, x2, x3, x4] 26) = W0 at s0 bw ⊢
    have f0 := s0.cell 0 _ rfl
    have f1 := s0.cell 1 _ rfl
    have f2 := s0.cell 2 _ rfl
    have f3 := s0.cell 3 _ rfl
    have f4 := s0.cell 4 _ rfl
    go_wp2_with (first | (go_at_call 12; refine (cf _ bw).mono ?_; rintro e q1 ⟨rfl, b1⟩; have p0 := (s0.below b1).cell 0 _ rfl; have p1 := (s0.below b1).cell 1 _ rfl; have p2 := (s0.below b1).cell 2 _ rfl; have p3 := (s0.below b1).cell 3 _ rfl; have p4 := (s0.below b1).cell 4 _ rfl))
    go_ret2
    exact ⟨_, rfl, SlR.nil, below_trans bw b1⟩
  | true =>
    simp only [c1] at cf
    obtain ⟨n0, hn0⟩ : ∃ x, d.origs.length = x := ⟨_, rfl⟩
    simp only [hn0] at l1
    have HN0 := hid hn0
    clear hn0
    obtain ⟨n1, hn1⟩ : ∃ x, d.dests.length = x := ⟨_, rfl⟩
    simp only [hn1] at l2
    have HN1 := hid hn1
    clear hn1
    obtain ⟨n2, hn2⟩ : ∃ x, d.loops.length = x := ⟨_, rfl⟩
    simp only [hn2] at l3
    have HN2 := hid hn2
    clear hn2
    obtain ⟨n3, hn3⟩ : ∃ x, d.cases.length = x := ⟨_, rfl⟩
    simp only [hn3] at l4
    have HN3 := hid hn3
    clear hn3
    by_cases k0 : 0 < n0
    · have j0 : decide (0 < n0) = true := decide_eq_true k0
      rw [pfin_no13 c1 (fun q => by have r := HN0.out; rw [q.1] at r; simp at r; omega)]
      skip
      go_enter Try.func17, Try.ntmps17
      go_upto_region 1 with fail
      generalize w.alloc (.cells #[x0, x1, x2, x3, x4] 26) = W0 at s0 bw ⊢
      have f0 := s0.cell 0 _ rfl
      have f1 := s0.cell 1 _ rfl
      have f2 := s0.cell 2 _ rfl
      have f3 := s0.cell 3 _ rfl
      have f4 := s0.cell 4 _ rfl
      go_wp2_with (first | (go_at_call 12; refine (cf _ bw).mono ?_; rintro e q1 ⟨rfl, b1⟩; have p0 := (s0.below b1).cell 0 _ rfl; have p1 := (s0.below b1).cell 1 _ rfl; have p2 := (s0.below b1).cell 2 _ rfl; have p3 := (s0.below b1).cell 3 _ rfl; have p4 := (s0.below b1).cell 4 _ rfl))
      go_ret2
      exact ⟨_, rfl, SlR.nil, below_trans bw b1⟩
    · obtain rfl : n0 = 0 := by omega
      by_cases k1 : 0 < n1
      · have j1 : decide (0 < n1) = true := decide_eq_true k1
        rw [pfin_no13 c1 (fun q => by have r := HN1.out; rw [q.2.1] at r; simp at r; omega)]
        skip
        go_enter Try.func17, Try.ntmps17
        go_upto_region 1 with fail
        generalize w.alloc (.cells #[x0, x1, x2, x3, x4] 26) = W0 at s0 bw ⊢
        have f0 := s0.cell 0 _ rfl
        have f1 := s0.cell 1 _ rfl
        have f2 := s0.cell 2 _ rfl
        have f3 := s0.cell 3 _ rfl
        have f4 := s0.cell 4 _ rfl
        go_wp2_with (first | (go_at_call 12; refine (cf _ bw).mono ?_; rintro e q1 ⟨rfl, b1⟩; have p0 := (s0.below b1).cell 0 _ rfl; have p1 := (s0.below b1).cell 1 _ rfl; have p2 := (s0.below b1).cell 2 _ rfl; have p3 := (s0.below b1).cell 3 _ rfl; have p4 := (s0.below b1).cell 4 _ rfl))
        go_ret2
        exact ⟨_, rfl, SlR.nil, below_trans bw b1⟩
      · obtain rfl : n1 = 0 := by omega
        by_cases k2 : 0 < n2
        · have j2 : decide (0 < n2) = true := decide_eq_true k2
          rw [pfin_no13 c1 (fun q => by have r := HN2.out; rw [q.2.2.1] at r; simp at r; omega)]
          skip
          go_enter Try.func17, Try.ntmps17
          go_upto_region 1 with fail
          generalize w.alloc (.cells #[x0, x1, x2, x3, x4] 26) = W0 at s0 bw ⊢
          have f0 := s0.cell 0 _ rfl
          have f1 := s0.cell 1 _ rfl
          have f2 := s0.cell 2 _ rfl
          have f3 := s0.cell 3 _ rfl
          have f4 := s0.cell 4 _ rfl
          go_wp2_with (first | (go_at_call 12; refine (cf _ bw).mono ?_; rintro e q1 ⟨rfl, b1⟩; have p0 := (s0.below b1).cell 0 _ rfl; have p1 := (s0.below b1).cell 1 _ rfl; have p2 := (s0.below b1).cell 2 _ rfl; have p3 := (s0.below b1).cell 3 _ rfl; have p4 := (s0.below b1).cell 4 _ rfl))
          go_ret2
          exact ⟨_, rfl, SlR.nil, below_trans bw b1⟩
        · obtain rfl : n2 = 0 := by omega
          by_cases k3 : 0 < n3
          · have j3 : decide (0 < n3) = true := decide_eq_true k3
            rw [pfin_no13 c1 (fun q => by have r := HN3.out; rw [q.2.2.2] at r; simp at r; omega)]
            skip
            go_enter Try.func17, Try.ntmps17
            go_upto_region 1 with fail
            generalize w.alloc (.cells #[x0, x1, x2, x3, x4] 26) = W0 at s0 bw ⊢
            have f0 := s0.cell 0 _ rfl
            have f1 := s0.cell 1 _ rfl
            have f2 := s0.cell 2 _ rfl
            have f3 := s0.cell 3 _ rfl
            have f4 := s0.cell 4 _ rfl
            go_wp2_with (first | (go_at_call 12; refine (cf _ bw).mono ?_; rintro e q1 ⟨rfl, b1⟩; have p0 := (s0.below b1).cell 0 _ rfl; have p1 := (s0.below b1).cell 1 _ rfl; have p2 := (s0.below b1).cell 2 _ rfl; have p3 := (s0.below b1).cell 3 _ rfl; have p4 := (s0.below b1).cell 4 _ rfl))
            go_ret2
            exact ⟨_, rfl, SlR.nil, below_trans bw b1⟩
          · obtain rfl : n3 = 0 := by omega
            have hE : d.origs = [] ∧ d.dests = [] ∧ d.loops = [] ∧ d.cases = [] := ⟨List.eq_nil_of_length_eq_zero HN0.out, List.eq_nil_of_length_eq_zero HN1.out, List.eq_nil_of_length_eq_zero HN2.out, List.eq_nil_of_length_eq_zero HN3.out⟩
            rw [pfin_yes c1 hE]
            clear k0 k1 k2 k3 hE
            go_enter Try.func17, Try.ntmps17
            go_upto_region 1 with fail
            generalize w.alloc (.cells #[x0, x1, x2, x3, x4] 26) = W0 at s0 bw ⊢
            have f0 := s0.cell 0 _ rfl
            have f1 := s0.cell 1 _ rfl
            have f2 := s0.cell 2 _ rfl
            have f3 := s0.cell 3 _ rfl
            have f4 := s0.cell 4 _ rfl
            go_wp2_with (first | (go_at_call 12; refine (cf _ bw).mono ?_; rintro e q1 ⟨rfl, b1⟩; have p0 := (s0.below b1).cell 0 _ rfl; have p1 := (s0.below b1).cell 1 _ rfl; have p2 := (s0.below b1).cell 2 _ rfl; have p3 := (s0.below b1).cell 3 _ rfl; have p4 := (s0.below b1).cell 4 _ rfl) | (go_at_call 35; refine (cc _ (below_trans bw b1)).mono ?_; rintro e q2 ⟨v1, rfl, o1, b2⟩))
            go_ret2
            exact ⟨_, rfl, OwnR.read (by decide) o1 (fun _ _ q => q), below_trans bw (below_trans b1 b2)⟩
end Go.Proofs.Ytfmpeminfcehaaa
