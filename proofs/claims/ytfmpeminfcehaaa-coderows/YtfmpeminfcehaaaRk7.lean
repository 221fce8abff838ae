/-
  Put and Finish of the document's answer for code.
-/
import Derived.Test.YtfmpeminfcehaaaRk3
import Derived.Test.YtfmpeminfcehaaaRk6
import Derived.Test.YtfmpeminfcehaaaOdm
namespace Go.Proofs.Ytfmpeminfcehaaa
open Go.ChangeShapes Go.WideShapes Go.ChangeAt Go.RowKit
set_option linter.unusedVariables false
set_option linter.unusedSimpArgs false

def nilDv : Dv := ⟨.slice none 0 0, .slice none 0 0, .slice none 0 0, .slice none 0 0, .slice none 0 0⟩
theorem rd_nilD (w : World) : RdD w nilDv nilD :=
  ⟨OwnR.read (e := 37) (O := opR) (base := 0) (by decide) (OwnR.nil _ _ _ _ _) (fun _ _ q => q), (Rd_own (World.ownsRow_nil w 0 3 1) : Rd .i64 w _ [] ∧ _).1, (Rd_own (World.ownsRow_nil w 0 3 1) : Rd .i64 w _ [] ∧ _).1, (OwN.nil 0 0 w).read, (OwN.nil 0 0 w).read⟩
theorem put_no1 {d : Dft} {o : Opd} (h : frmD d = false ∨ putK o = false) : putD d o = (nilD, 1) := by unfold putD; rw [if_pos h]
theorem put_no2 {d : Dft} {o : Opd} (h : ¬ (frmD d = false ∨ putK o = false)) (h2 : 256 ≤ d.code.length) : putD d o = (nilD, 3) := by unfold putD; rw [if_neg h, if_pos h2]

set_option maxHeartbeats 8000000 in
set_option maxRecDepth 100000 in
theorem w_r10put (v : Dv) (d : Dft) (K N : Int) (w : World) (h : RdD w v d) (z : szD d) :
    Calls Try.prog 16 #[.agg v.cs, .agg #[.int .i64 K, .int .u32 N]] w fun e w' => ∃ v1, e = .returned (.tuple #[.agg (Dv.cs v1), .int .i64 (putD d (K, N)).2]) ∧ OwQ w' v1 (putD d (K, N)).1 ∧ Below w.heap.size w w' := by
  have cf := fun W (b : Below w.heap.size w W) => w_r10formed v d W (h.below b)
  have cc := fun W (b : Below w.heap.size w W) => w_r10copy v d W (h.below b) z
  have l0 := slr_len h.code uO (P := Try.prog)
  have s0 := ((stands_new w v.cs 26).below (box_below _ (.cells #[.int .i64 K, .int .u32 N] 37))).below (box_below _ (.cells #[.slice none 0 0, .slice none 0 0, .slice none 0 0, .slice none 0 0, .slice none 0 0] 26))
  have s1 := (stands_new (w.alloc (.cells v.cs 26)) #[.int .i64 K, .int .u32 N] 37).below (box_below _ (.cells #[.slice none 0 0, .slice none 0 0, .slice none 0 0, .slice none 0 0, .slice none 0 0] 26))
  have s2 := stands_new ((w.alloc (.cells v.cs 26)).alloc (.cells #[.int .i64 K, .int .u32 N] 37)) #[.slice none 0 0, .slice none 0 0, .slice none 0 0, .slice none 0 0, .slice none 0 0] 26
  rw [size_al] at s1
  rw [size_al, size_al] at s2
  have bw := below_trans (below_trans (box_below w (.cells v.cs 26)) (box_below _ (.cells #[.int .i64 K, .int .u32 N] 37))) (box_below _ (.cells #[.slice none 0 0, .slice none 0 0, .slice none 0 0, .slice none 0 0, .slice none 0 0] 26))
  have CC := hid cc
  clear cc z h
  obtain ⟨x0, x1, x2, x3, x4⟩ := v
  simp only [Dv.cs] at cf s0 s1 s2 bw l0 CC ⊢
  by_cases c1 : frmD d = false
  · rw [put_no1 (Or.inl c1)]
    simp only [c1] at cf
    go_enter Try.func16, Try.ntmps16
    go_upto_region 1 with fail
    generalize ((w.alloc (.cells #[x0, x1, x2, x3, x4] 26)).alloc (.cells #[.int .i64 K, .int .u32 N] 37)).alloc (.cells #[.slice none 0 0, .slice none 0 0, .slice none 0 0, .slice none 0 0, .slice none 0 0] 26) = W0 at s0 s1 s2 bw ⊢
    have f0 := s0.cell 0 _ rfl
    have f1 := s0.cell 1 _ rfl
    have f2 := s0.cell 2 _ rfl
    have f3 := s0.cell 3 _ rfl
    have f4 := s0.cell 4 _ rfl
    go_wp2_with (first | (go_at_call 13; refine (cf _ bw).mono ?_; rintro e q1 ⟨rfl, b1⟩; have p0 := (s0.below b1).cell 0 _ rfl; have p1 := (s0.below b1).cell 1 _ rfl; have p2 := (s0.below b1).cell 2 _ rfl; have p3 := (s0.below b1).cell 3 _ rfl; have p4 := (s0.below b1).cell 4 _ rfl; have k0 := (s1.below b1).cell 0 _ rfl; have k1 := (s1.below b1).cell 1 _ rfl; have zz0 := (s2.below b1).cell 0 _ rfl; have zz1 := (s2.below b1).cell 1 _ rfl; have zz2 := (s2.below b1).cell 2 _ rfl; have zz3 := (s2.below b1).cell 3 _ rfl; have zz4 := (s2.below b1).cell 4 _ rfl; have zf := (s2.below b1).free))
    obtain ⟨g1, g2⟩ := set5q (s2.below b1) (.slice none 0 0) (.slice none 0 0) (.slice none 0 0) (.slice none 0 0) (.slice none 0 0)
    have J7 := below_set (below_set (below_set (below_set (below_set (below_trans bw b1) (w.heap.size + 1 + 1) 0 (.slice none 0 0) (by omega)) (w.heap.size + 1 + 1) 1 (.slice none 0 0) (by omega)) (w.heap.size + 1 + 1) 2 (.slice none 0 0) (by omega)) (w.heap.size + 1 + 1) 3 (.slice none 0 0) (by omega)) (w.heap.size + 1 + 1) 4 (.slice none 0 0) (by omega)
    (try simp only [Exit.inBlock, Exit.then])
    refine bodyPost_ret (res_row2 rfl _ _ (w.heap.size + 1 + 1) 26 _ (0, 0) _ rfl g1 Try.underlying26 rfl (show _ = some 5 by kernel_rfl)) rfl ?_
    exact ⟨nilDv, rfl, OwQ.nil _, J7⟩
  · have c1t : frmD d = true := by simpa using c1
    simp only [c1t] at cf
    by_cases cK : K = 1 ∨ K = 2 ∨ K = 12 ∨ K = 13
    · have cKt : putK (K, N) = true := decide_eq_true cK
      have cno : ¬ (frmD d = false ∨ putK (K, N) = false) := by rw [c1t, cKt]; simp
      by_cases c3 : (256 : Int) ≤ d.code.length
      · rw [put_no2 cno (by omega)]
        clear cno cKt
        rcases cK with rfl | rfl | rfl | rfl
        · skip
          go_enter Try.func16, Try.ntmps16
          go_upto_region 1 with fail
          generalize ((w.alloc (.cells #[x0, x1, x2, x3, x4] 26)).alloc (.cells #[.int .i64 1, .int .u32 N] 37)).alloc (.cells #[.slice none 0 0, .slice none 0 0, .slice none 0 0, .slice none 0 0, .slice none 0 0] 26) = W0 at s0 s1 s2 bw ⊢
          have f0 := s0.cell 0 _ rfl
          have f1 := s0.cell 1 _ rfl
          have f2 := s0.cell 2 _ rfl
          have f3 := s0.cell 3 _ rfl
          have f4 := s0.cell 4 _ rfl
          go_wp2_with (first | (go_at_call 13; refine (cf _ bw).mono ?_; rintro e q1 ⟨rfl, b1⟩; have p0 := (s0.below b1).cell 0 _ rfl; have p1 := (s0.below b1).cell 1 _ rfl; have p2 := (s0.below b1).cell 2 _ rfl; have p3 := (s0.below b1).cell 3 _ rfl; have p4 := (s0.below b1).cell 4 _ rfl; have k0 := (s1.below b1).cell 0 _ rfl; have k1 := (s1.below b1).cell 1 _ rfl; have zz0 := (s2.below b1).cell 0 _ rfl; have zz1 := (s2.below b1).cell 1 _ rfl; have zz2 := (s2.below b1).cell 2 _ rfl; have zz3 := (s2.below b1).cell 3 _ rfl; have zz4 := (s2.below b1).cell 4 _ rfl; have zf := (s2.below b1).free))
          obtain ⟨g1, g2⟩ := set5q (s2.below b1) (.slice none 0 0) (.slice none 0 0) (.slice none 0 0) (.slice none 0 0) (.slice none 0 0)
          have J7 := below_set (below_set (below_set (below_set (below_set (below_trans bw b1) (w.heap.size + 1 + 1) 0 (.slice none 0 0) (by omega)) (w.heap.size + 1 + 1) 1 (.slice none 0 0) (by omega)) (w.heap.size + 1 + 1) 2 (.slice none 0 0) (by omega)) (w.heap.size + 1 + 1) 3 (.slice none 0 0) (by omega)) (w.heap.size + 1 + 1) 4 (.slice none 0 0) (by omega)
          (try simp only [Exit.inBlock, Exit.then])
          refine bodyPost_ret (res_row2 rfl _ _ (w.heap.size + 1 + 1) 26 _ (0, 0) _ rfl g1 Try.underlying26 rfl (show _ = some 5 by kernel_rfl)) rfl ?_
          exact ⟨nilDv, rfl, OwQ.nil _, J7⟩
        · skip
          go_enter Try.func16, Try.ntmps16
          go_upto_region 1 with fail
          generalize ((w.alloc (.cells #[x0, x1, x2, x3, x4] 26)).alloc (.cells #[.int .i64 2, .int .u32 N] 37)).alloc (.cells #[.slice none 0 0, .slice none 0 0, .slice none 0 0, .slice none 0 0, .slice none 0 0] 26) = W0 at s0 s1 s2 bw ⊢
          have f0 := s0.cell 0 _ rfl
          have f1 := s0.cell 1 _ rfl
          have f2 := s0.cell 2 _ rfl
          have f3 := s0.cell 3 _ rfl
          have f4 := s0.cell 4 _ rfl
          go_wp2_with (first | (go_at_call 13; refine (cf _ bw).mono ?_; rintro e q1 ⟨rfl, b1⟩; have p0 := (s0.below b1).cell 0 _ rfl; have p1 := (s0.below b1).cell 1 _ rfl; have p2 := (s0.below b1).cell 2 _ rfl; have p3 := (s0.below b1).cell 3 _ rfl; have p4 := (s0.below b1).cell 4 _ rfl; have k0 := (s1.below b1).cell 0 _ rfl; have k1 := (s1.below b1).cell 1 _ rfl; have zz0 := (s2.below b1).cell 0 _ rfl; have zz1 := (s2.below b1).cell 1 _ rfl; have zz2 := (s2.below b1).cell 2 _ rfl; have zz3 := (s2.below b1).cell 3 _ rfl; have zz4 := (s2.below b1).cell 4 _ rfl; have zf := (s2.below b1).free))
          obtain ⟨g1, g2⟩ := set5q (s2.below b1) (.slice none 0 0) (.slice none 0 0) (.slice none 0 0) (.slice none 0 0) (.slice none 0 0)
          have J7 := below_set (below_set (below_set (below_set (below_set (below_trans bw b1) (w.heap.size + 1 + 1) 0 (.slice none 0 0) (by omega)) (w.heap.size + 1 + 1) 1 (.slice none 0 0) (by omega)) (w.heap.size + 1 + 1) 2 (.slice none 0 0) (by omega)) (w.heap.size + 1 + 1) 3 (.slice none 0 0) (by omega)) (w.heap.size + 1 + 1) 4 (.slice none 0 0) (by omega)
          (try simp only [Exit.inBlock, Exit.then])
          refine bodyPost_ret (res_row2 rfl _ _ (w.heap.size + 1 + 1) 26 _ (0, 0) _ rfl g1 Try.underlying26 rfl (show _ = some 5 by kernel_rfl)) rfl ?_
          exact ⟨nilDv, rfl, OwQ.nil _, J7⟩
        · skip
          go_enter Try.func16, Try.ntmps16
          go_upto_region 1 with fail
          generalize ((w.alloc (.cells #[x0, x1, x2, x3, x4] 26)).alloc (.cells #[.int .i64 12, .int .u32 N] 37)).alloc (.cells #[.slice none 0 0, .slice none 0 0, .slice none 0 0, .slice none 0 0, .slice none 0 0] 26) = W0 at s0 s1 s2 bw ⊢
          have f0 := s0.cell 0 _ rfl
          have f1 := s0.cell 1 _ rfl
          have f2 := s0.cell 2 _ rfl
          have f3 := s0.cell 3 _ rfl
          have f4 := s0.cell 4 _ rfl
          go_wp2_with (first | (go_at_call 13; refine (cf _ bw).mono ?_; rintro e q1 ⟨rfl, b1⟩; have p0 := (s0.below b1).cell 0 _ rfl; have p1 := (s0.below b1).cell 1 _ rfl; have p2 := (s0.below b1).cell 2 _ rfl; have p3 := (s0.below b1).cell 3 _ rfl; have p4 := (s0.below b1).cell 4 _ rfl; have k0 := (s1.below b1).cell 0 _ rfl; have k1 := (s1.below b1).cell 1 _ rfl; have zz0 := (s2.below b1).cell 0 _ rfl; have zz1 := (s2.below b1).cell 1 _ rfl; have zz2 := (s2.below b1).cell 2 _ rfl; have zz3 := (s2.below b1).cell 3 _ rfl; have zz4 := (s2.below b1).cell 4 _ rfl; have zf := (s2.below b1).free))
          obtain ⟨g1, g2⟩ := set5q (s2.below b1) (.slice none 0 0) (.slice none 0 0) (.slice none 0 0) (.slice none 0 0) (.slice none 0 0)
          have J7 := below_set (below_set (below_set (below_set (below_set (below_trans bw b1) (w.heap.size + 1 + 1) 0 (.slice none 0 0) (by omega)) (w.heap.size + 1 + 1) 1 (.slice none 0 0) (by omega)) (w.heap.size + 1 + 1) 2 (.slice none 0 0) (by omega)) (w.heap.size + 1 + 1) 3 (.slice none 0 0) (by omega)) (w.heap.size + 1 + 1) 4 (.slice none 0 0) (by omega)
          (try simp only [Exit.inBlock, Exit.then])
          refine bodyPost_ret (res_row2 rfl _ _ (w.heap.size + 1 + 1) 26 _ (0, 0) _ rfl g1 Try.underlying26 rfl (show _ = some 5 by kernel_rfl)) rfl ?_
          exact ⟨nilDv, rfl, OwQ.nil _, J7⟩
        · skip
          go_enter Try.func16, Try.ntmps16
          go_upto_region 1 with fail
          generalize ((w.alloc (.cells #[x0, x1, x2, x3, x4] 26)).alloc (.cells #[.int .i64 13, .int .u32 N] 37)).alloc (.cells #[.slice none 0 0, .slice none 0 0, .slice none 0 0, .slice none 0 0, .slice none 0 0] 26) = W0 at s0 s1 s2 bw ⊢
          have f0 := s0.cell 0 _ rfl
          have f1 := s0.cell 1 _ rfl
          have f2 := s0.cell 2 _ rfl
          have f3 := s0.cell 3 _ rfl
          have f4 := s0.cell 4 _ rfl
          go_wp2_with (first | (go_at_call 13; refine (cf _ bw).mono ?_; rintro e q1 ⟨rfl, b1⟩; have p0 := (s0.below b1).cell 0 _ rfl; have p1 := (s0.below b1).cell 1 _ rfl; have p2 := (s0.below b1).cell 2 _ rfl; have p3 := (s0.below b1).cell 3 _ rfl; have p4 := (s0.below b1).cell 4 _ rfl; have k0 := (s1.below b1).cell 0 _ rfl; have k1 := (s1.below b1).cell 1 _ rfl; have zz0 := (s2.below b1).cell 0 _ rfl; have zz1 := (s2.below b1).cell 1 _ rfl; have zz2 := (s2.below b1).cell 2 _ rfl; have zz3 := (s2.below b1).cell 3 _ rfl; have zz4 := (s2.below b1).cell 4 _ rfl; have zf := (s2.below b1).free))
          obtain ⟨g1, g2⟩ := set5q (s2.below b1) (.slice none 0 0) (.slice none 0 0) (.slice none 0 0) (.slice none 0 0) (.slice none 0 0)
          have J7 := below_set (below_set (below_set (below_set (below_set (below_trans bw b1) (w.heap.size + 1 + 1) 0 (.slice none 0 0) (by omega)) (w.heap.size + 1 + 1) 1 (.slice none 0 0) (by omega)) (w.heap.size + 1 + 1) 2 (.slice none 0 0) (by omega)) (w.heap.size + 1 + 1) 3 (.slice none 0 0) (by omega)) (w.heap.size + 1 + 1) 4 (.slice none 0 0) (by omega)
          (try simp only [Exit.inBlock, Exit.then])
          refine bodyPost_ret (res_row2 rfl _ _ (w.heap.size + 1 + 1) 26 _ (0, 0) _ rfl g1 Try.underlying26 rfl (show _ = some 5 by kernel_rfl)) rfl ?_
          exact ⟨nilDv, rfl, OwQ.nil _, J7⟩
      · have hD : putD d (K, N) = ({ d with code := d.code ++ [(K, N)] }, 0) := by unfold putD; rw [if_neg cno, if_neg (by omega)]
        rw [hD]
        clear cno cKt hD
        rcases cK with rfl | rfl | rfl | rfl
        · skip
          go_enter Try.func16, Try.ntmps16
          go_upto_region 1 with fail
          generalize ((w.alloc (.cells #[x0, x1, x2, x3, x4] 26)).alloc (.cells #[.int .i64 1, .int .u32 N] 37)).alloc (.cells #[.slice none 0 0, .slice none 0 0, .slice none 0 0, .slice none 0 0, .slice none 0 0] 26) = W0 at s0 s1 s2 bw ⊢
          have f0 := s0.cell 0 _ rfl
          have f1 := s0.cell 1 _ rfl
          have f2 := s0.cell 2 _ rfl
          have f3 := s0.cell 3 _ rfl
          have f4 := s0.cell 4 _ rfl
          go_upto_region 6 with (first | (go_at_call 13; refine (cf _ bw).mono ?_; rintro e q1 ⟨rfl, b1⟩; have p0 := (s0.below b1).cell 0 _ rfl; have p1 := (s0.below b1).cell 1 _ rfl; have p2 := (s0.below b1).cell 2 _ rfl; have p3 := (s0.below b1).cell 3 _ rfl; have p4 := (s0.below b1).cell 4 _ rfl; have k0 := (s1.below b1).cell 0 _ rfl; have k1 := (s1.below b1).cell 1 _ rfl; have zz0 := (s2.below b1).cell 0 _ rfl; have zz1 := (s2.below b1).cell 1 _ rfl; have zz2 := (s2.below b1).cell 2 _ rfl; have zz3 := (s2.below b1).cell 3 _ rfl; have zz4 := (s2.below b1).cell 4 _ rfl; have zf := (s2.below b1).free) | (go_at_call 9; refine (CC.out _ (below_trans bw b1)).mono ?_; rintro e q3 ⟨v1, t1, t2, t3, rfl, oD, b3⟩; obtain ⟨cs0, r0⟩ := oD.code.row; obtain ⟨ca, cq, e0⟩ := own_form r0; obtain ⟨oa, oq, e1⟩ := own_form oD.origs; obtain ⟨da, dq, e2⟩ := own_form oD.dests; obtain ⟨cs3, r3⟩ := oD.loops.own.row; obtain ⟨la, lq, e3⟩ := own_form r3; obtain ⟨cs4, r4⟩ := oD.cases.own.row; obtain ⟨ka, kq, e4⟩ := own_form r4; obtain ⟨y0, y1, y2, y3, y4⟩ := v1; (try dsimp only at e0 e1 e2 e3 e4); subst e0 e1 e2 e3 e4; simp only [Dv.cs]))
          have b13 := below_trans b1 b3
          have so := stands_new q3 #[.slice ca d.code.length cq, .slice oa d.origs.length oq, .slice da d.dests.length dq, .slice la d.loops.length lq, .slice ka d.cases.length kq] 26
          have bo := box_below q3 (.cells #[.slice ca d.code.length cq, .slice oa d.origs.length oq, .slice da d.dests.length dq, .slice la d.loops.length lq, .slice ka d.cases.length kq] 26)
          have oD4 := oD.below bo
          have b14 := below_trans b13 bo
          obtain ⟨BX, hBX⟩ : ∃ B, q3.heap.size = B := ⟨_, rfl⟩
          have hBq : q1.heap.size ≤ BX := by rw [← hBX]; exact b3.size
          rw [hBX] at so
          simp only [hBX]
          generalize q3.alloc (.cells #[.slice ca d.code.length cq, .slice oa d.origs.length oq, .slice da d.dests.length dq, .slice la d.loops.length lq, .slice ka d.cases.length kq] 26) = q4 at so bo oD4 b14 ⊢
          have hW0 : w.heap.size + 1 + 1 < W0.heap.size := (Array.getElem?_eq_some_iff.1 s2).1
          have hWq : W0.heap.size ≤ q1.heap.size := b1.size
          have u0 := so.cell 0 _ rfl
          have k0 := (s1.below b14).cell 0 _ rfl
          have k1 := (s1.below b14).cell 1 _ rfl
          have bX := box_below q4 (.cells #[.int .i64 1, .int .u32 N] 37)
          have oDX := oD4.below bX
          obtain ⟨rows, p1, p2, p3, p4⟩ := oDX.code
          obtain ⟨i9, hi9, hz9, hz8, hz7⟩ := info_parts infoOp10
          have one : ∀ r ∈ [[Value.int .i64 1, .int .u32 N]], ∀ u ∈ r, u.oneCell' = true := fun r hr u hu => by rw [List.mem_singleton] at hr; subst hr; simp at hu; rcases hu with rfl | rfl <;> rfl
          have hq14 : q1.heap.size ≤ q4.heap.size := Nat.le_trans b3.size bo.size
          have P1 := hid p1
          have P2 := hid p2
          have P4 := hid p4
          have OX := hid oDX
          clear p1 p2 p4 oDX oD4 oD
          go_upto_region 7 with (at_builtin; refine wpList_append_rows rfl _ _ 22 rfl q1.heap.size 37 i9 _ 2 16 Try.underlying22 hi9 hz9 hz8 hz7 rfl (by decide) _ d.code.length _ rfl p3 _ [[Value.int .i64 1, .int .u32 N]] rfl (slc_one q4 [Value.int .i64 1, .int .u32 N] 37 2 rfl) one (by unfold maxLen; simp only [List.length_singleton]; omega) (by simp only [List.length_singleton]; omega) (Nat.le_trans hq14 bX.size) ?_; intro v9 w9 ho9 hg9; obtain ⟨a9, c9, rfl⟩ := own_form ho9; have so9 := Stands.grown (so.below bX) hg9 (stands_apart (so.below bX) p3 (by decide)); have y2 := so9.cell 0 _ rfl; have yg := so9.free 0)
          have kW := Kept.own p3 hg9
          have sz9 := (Stands.grown (s2.below (below_trans b14 bX)) hg9 (stands_apart (s2.below (below_trans b14 bX)) p3 (by decide))).other (b' := BX) 0 (.slice a9 (d.code.length + [[Value.int .i64 1, .int .u32 N]].length) c9) (by omega)
          have oC9 : OwC q1.heap.size w9 (.slice a9 (d.code.length + 1) c9) (d.code ++ [(1, N)]) := OwnR.snoc (e := 37) (O := opR) opR_apt10 P1.out P2.out p3 P4.out rfl (x := (1, N)) rfl (by simpa using ho9) hg9
          have oD9 := OX.out.code' kW oC9
          have oDF := oD9.kept (set_kept so9 0 (.slice a9 (d.code.length + [[Value.int .i64 1, .int .u32 N]].length) c9)) (by decide) (by decide) (by decide)
          have soF := so9.set 0 (.slice a9 (d.code.length + [[Value.int .i64 1, .int .u32 N]].length) c9)
          have hwq : w.heap.size ≤ q1.heap.size := Nat.le_trans bw.size hWq
          have BF := below_set (below_grown (below_trans (below_trans bw b14) bX) hg9 (fun q hq => Nat.le_trans hwq (p3.lt q hq).1)) BX 0 (.slice a9 (d.code.length + [[Value.int .i64 1, .int .u32 N]].length) c9) (by omega)
          generalize w9.setCell ⟨BX, 0, none⟩ (.slice a9 (d.code.length + [[Value.int .i64 1, .int .u32 N]].length) c9) = q9 at sz9 oDF soF BF ⊢
          have soF : Stands q9 BX #[.slice a9 (d.code.length + 1) c9, .slice oa d.origs.length oq, .slice da d.dests.length dq, .slice la d.loops.length lq, .slice ka d.cases.length kq] 26 := soF
          have u0 := soF.cell 0 _ rfl
          have u1 := soF.cell 1 _ rfl
          have u2 := soF.cell 2 _ rfl
          have u3 := soF.cell 3 _ rfl
          have u4 := soF.cell 4 _ rfl
          have zz0 := sz9.cell 0 _ rfl
          have zz1 := sz9.cell 1 _ rfl
          have zz2 := sz9.cell 2 _ rfl
          have zz3 := sz9.cell 3 _ rfl
          have zz4 := sz9.cell 4 _ rfl
          have zf := sz9.free
          obtain ⟨g1, g2⟩ := set5q sz9 (.slice a9 (d.code.length + 1) c9) (.slice oa d.origs.length oq) (.slice da d.dests.length dq) (.slice la d.loops.length lq) (.slice ka d.cases.length kq)
          have G1 := hid g1
          have GM := hid (g2 (fun u => OwD q1.heap.size u ⟨.slice a9 (d.code.length + 1) c9, .slice oa d.origs.length oq, .slice da d.dests.length dq, .slice la d.loops.length lq, .slice ka d.cases.length kq⟩ { d with code := d.code ++ [(1, N)] } t1 t2 t3) (fun u u' kk q => q.kept kk (by decide) (by decide) (by decide)) oDF)
          have J7 : Hid (Below w.heap.size w _) := below_set (below_set (below_set (below_set (below_set (BF) (w.heap.size + 1 + 1) 0 (.slice a9 (d.code.length + 1) c9) (by omega)) (w.heap.size + 1 + 1) 1 (.slice oa d.origs.length oq) (by omega)) (w.heap.size + 1 + 1) 2 (.slice da d.dests.length dq) (by omega)) (w.heap.size + 1 + 1) 3 (.slice la d.loops.length lq) (by omega)) (w.heap.size + 1 + 1) 4 (.slice ka d.cases.length kq) (by omega)
          clear g1 g2 oDF BF sz9 soF p3 ho9 hg9 kW oD9 oC9 so9 y2 yg
          go_wp2_with fail
          (try simp only [Exit.inBlock, Exit.then])
          refine bodyPost_ret (res_row2 rfl _ _ (w.heap.size + 1 + 1) 26 _ (0, 0) _ rfl G1.out Try.underlying26 rfl (show _ = some 5 by kernel_rfl)) rfl ?_
          exact ⟨⟨.slice a9 (d.code.length + 1) c9, .slice oa d.origs.length oq, .slice da d.dests.length dq, .slice la d.loops.length lq, .slice ka d.cases.length kq⟩, rfl, ⟨_, GM.out.owe⟩, J7.out⟩
        · skip
          go_enter Try.func16, Try.ntmps16
          go_upto_region 1 with fail
          generalize ((w.alloc (.cells #[x0, x1, x2, x3, x4] 26)).alloc (.cells #[.int .i64 2, .int .u32 N] 37)).alloc (.cells #[.slice none 0 0, .slice none 0 0, .slice none 0 0, .slice none 0 0, .slice none 0 0] 26) = W0 at s0 s1 s2 bw ⊢
          have f0 := s0.cell 0 _ rfl
          have f1 := s0.cell 1 _ rfl
          have f2 := s0.cell 2 _ rfl
          have f3 := s0.cell 3 _ rfl
          have f4 := s0.cell 4 _ rfl
          go_upto_region 6 with (first | (go_at_call 13; refine (cf _ bw).mono ?_; rintro e q1 ⟨rfl, b1⟩; have p0 := (s0.below b1).cell 0 _ rfl; have p1 := (s0.below b1).cell 1 _ rfl; have p2 := (s0.below b1).cell 2 _ rfl; have p3 := (s0.below b1).cell 3 _ rfl; have p4 := (s0.below b1).cell 4 _ rfl; have k0 := (s1.below b1).cell 0 _ rfl; have k1 := (s1.below b1).cell 1 _ rfl; have zz0 := (s2.below b1).cell 0 _ rfl; have zz1 := (s2.below b1).cell 1 _ rfl; have zz2 := (s2.below b1).cell 2 _ rfl; have zz3 := (s2.below b1).cell 3 _ rfl; have zz4 := (s2.below b1).cell 4 _ rfl; have zf := (s2.below b1).free) | (go_at_call 9; refine (CC.out _ (below_trans bw b1)).mono ?_; rintro e q3 ⟨v1, t1, t2, t3, rfl, oD, b3⟩; obtain ⟨cs0, r0⟩ := oD.code.row; obtain ⟨ca, cq, e0⟩ := own_form r0; obtain ⟨oa, oq, e1⟩ := own_form oD.origs; obtain ⟨da, dq, e2⟩ := own_form oD.dests; obtain ⟨cs3, r3⟩ := oD.loops.own.row; obtain ⟨la, lq, e3⟩ := own_form r3; obtain ⟨cs4, r4⟩ := oD.cases.own.row; obtain ⟨ka, kq, e4⟩ := own_form r4; obtain ⟨y0, y1, y2, y3, y4⟩ := v1; (try dsimp only at e0 e1 e2 e3 e4); subst e0 e1 e2 e3 e4; simp only [Dv.cs]))
          have b13 := below_trans b1 b3
          have so := stands_new q3 #[.slice ca d.code.length cq, .slice oa d.origs.length oq, .slice da d.dests.length dq, .slice la d.loops.length lq, .slice ka d.cases.length kq] 26
          have bo := box_below q3 (.cells #[.slice ca d.code.length cq, .slice oa d.origs.length oq, .slice da d.dests.length dq, .slice la d.loops.length lq, .slice ka d.cases.length kq] 26)
          have oD4 := oD.below bo
          have b14 := below_trans b13 bo
          obtain ⟨BX, hBX⟩ : ∃ B, q3.heap.size = B := ⟨_, rfl⟩
          have hBq : q1.heap.size ≤ BX := by rw [← hBX]; exact b3.size
          rw [hBX] at so
          simp only [hBX]
          generalize q3.alloc (.cells #[.slice ca d.code.length cq, .slice oa d.origs.length oq, .slice da d.dests.length dq, .slice la d.loops.length lq, .slice ka d.cases.length kq] 26) = q4 at so bo oD4 b14 ⊢
          have hW0 : w.heap.size + 1 + 1 < W0.heap.size := (Array.getElem?_eq_some_iff.1 s2).1
          have hWq : W0.heap.size ≤ q1.heap.size := b1.size
          have u0 := so.cell 0 _ rfl
          have k0 := (s1.below b14).cell 0 _ rfl
          have k1 := (s1.below b14).cell 1 _ rfl
          have bX := box_below q4 (.cells #[.int .i64 2, .int .u32 N] 37)
          have oDX := oD4.below bX
          obtain ⟨rows, p1, p2, p3, p4⟩ := oDX.code
          obtain ⟨i9, hi9, hz9, hz8, hz7⟩ := info_parts infoOp10
          have one : ∀ r ∈ [[Value.int .i64 2, .int .u32 N]], ∀ u ∈ r, u.oneCell' = true := fun r hr u hu => by rw [List.mem_singleton] at hr; subst hr; simp at hu; rcases hu with rfl | rfl <;> rfl
          have hq14 : q1.heap.size ≤ q4.heap.size := Nat.le_trans b3.size bo.size
          have P1 := hid p1
          have P2 := hid p2
          have P4 := hid p4
          have OX := hid oDX
          clear p1 p2 p4 oDX oD4 oD
          go_upto_region 7 with (at_builtin; refine wpList_append_rows rfl _ _ 22 rfl q1.heap.size 37 i9 _ 2 16 Try.underlying22 hi9 hz9 hz8 hz7 rfl (by decide) _ d.code.length _ rfl p3 _ [[Value.int .i64 2, .int .u32 N]] rfl (slc_one q4 [Value.int .i64 2, .int .u32 N] 37 2 rfl) one (by unfold maxLen; simp only [List.length_singleton]; omega) (by simp only [List.length_singleton]; omega) (Nat.le_trans hq14 bX.size) ?_; intro v9 w9 ho9 hg9; obtain ⟨a9, c9, rfl⟩ := own_form ho9; have so9 := Stands.grown (so.below bX) hg9 (stands_apart (so.below bX) p3 (by decide)); have y2 := so9.cell 0 _ rfl; have yg := so9.free 0)
          have kW := Kept.own p3 hg9
          have sz9 := (Stands.grown (s2.below (below_trans b14 bX)) hg9 (stands_apart (s2.below (below_trans b14 bX)) p3 (by decide))).other (b' := BX) 0 (.slice a9 (d.code.length + [[Value.int .i64 2, .int .u32 N]].length) c9) (by omega)
          have oC9 : OwC q1.heap.size w9 (.slice a9 (d.code.length + 1) c9) (d.code ++ [(2, N)]) := OwnR.snoc (e := 37) (O := opR) opR_apt10 P1.out P2.out p3 P4.out rfl (x := (2, N)) rfl (by simpa using ho9) hg9
          have oD9 := OX.out.code' kW oC9
          have oDF := oD9.kept (set_kept so9 0 (.slice a9 (d.code.length + [[Value.int .i64 2, .int .u32 N]].length) c9)) (by decide) (by decide) (by decide)
          have soF := so9.set 0 (.slice a9 (d.code.length + [[Value.int .i64 2, .int .u32 N]].length) c9)
          have hwq : w.heap.size ≤ q1.heap.size := Nat.le_trans bw.size hWq
          have BF := below_set (below_grown (below_trans (below_trans bw b14) bX) hg9 (fun q hq => Nat.le_trans hwq (p3.lt q hq).1)) BX 0 (.slice a9 (d.code.length + [[Value.int .i64 2, .int .u32 N]].length) c9) (by omega)
          generalize w9.setCell ⟨BX, 0, none⟩ (.slice a9 (d.code.length + [[Value.int .i64 2, .int .u32 N]].length) c9) = q9 at sz9 oDF soF BF ⊢
          have soF : Stands q9 BX #[.slice a9 (d.code.length + 1) c9, .slice oa d.origs.length oq, .slice da d.dests.length dq, .slice la d.loops.length lq, .slice ka d.cases.length kq] 26 := soF
          have u0 := soF.cell 0 _ rfl
          have u1 := soF.cell 1 _ rfl
          have u2 := soF.cell 2 _ rfl
          have u3 := soF.cell 3 _ rfl
          have u4 := soF.cell 4 _ rfl
          have zz0 := sz9.cell 0 _ rfl
          have zz1 := sz9.cell 1 _ rfl
          have zz2 := sz9.cell 2 _ rfl
          have zz3 := sz9.cell 3 _ rfl
          have zz4 := sz9.cell 4 _ rfl
          have zf := sz9.free
          obtain ⟨g1, g2⟩ := set5q sz9 (.slice a9 (d.code.length + 1) c9) (.slice oa d.origs.length oq) (.slice da d.dests.length dq) (.slice la d.loops.length lq) (.slice ka d.cases.length kq)
          have G1 := hid g1
          have GM := hid (g2 (fun u => OwD q1.heap.size u ⟨.slice a9 (d.code.length + 1) c9, .slice oa d.origs.length oq, .slice da d.dests.length dq, .slice la d.loops.length lq, .slice ka d.cases.length kq⟩ { d with code := d.code ++ [(2, N)] } t1 t2 t3) (fun u u' kk q => q.kept kk (by decide) (by decide) (by decide)) oDF)
          have J7 : Hid (Below w.heap.size w _) := below_set (below_set (below_set (below_set (below_set (BF) (w.heap.size + 1 + 1) 0 (.slice a9 (d.code.length + 1) c9) (by omega)) (w.heap.size + 1 + 1) 1 (.slice oa d.origs.length oq) (by omega)) (w.heap.size + 1 + 1) 2 (.slice da d.dests.length dq) (by omega)) (w.heap.size + 1 + 1) 3 (.slice la d.loops.length lq) (by omega)) (w.heap.size + 1 + 1) 4 (.slice ka d.cases.length kq) (by omega)
          clear g1 g2 oDF BF sz9 soF p3 ho9 hg9 kW oD9 oC9 so9 y2 yg
          go_wp2_with fail
          (try simp only [Exit.inBlock, Exit.then])
          refine bodyPost_ret (res_row2 rfl _ _ (w.heap.size + 1 + 1) 26 _ (0, 0) _ rfl G1.out Try.underlying26 rfl (show _ = some 5 by kernel_rfl)) rfl ?_
          exact ⟨⟨.slice a9 (d.code.length + 1) c9, .slice oa d.origs.length oq, .slice da d.dests.length dq, .slice la d.loops.length lq, .slice ka d.cases.length kq⟩, rfl, ⟨_, GM.out.owe⟩, J7.out⟩
        · skip
          go_enter Try.func16, Try.ntmps16
          go_upto_region 1 with fail
          generalize ((w.alloc (.cells #[x0, x1, x2, x3, x4] 26)).alloc (.cells #[.int .i64 12, .int .u32 N] 37)).alloc (.cells #[.slice none 0 0, .slice none 0 0, .slice none 0 0, .slice none 0 0, .slice none 0 0] 26) = W0 at s0 s1 s2 bw ⊢
          have f0 := s0.cell 0 _ rfl
          have f1 := s0.cell 1 _ rfl
          have f2 := s0.cell 2 _ rfl
          have f3 := s0.cell 3 _ rfl
          have f4 := s0.cell 4 _ rfl
          go_upto_region 6 with (first | (go_at_call 13; refine (cf _ bw).mono ?_; rintro e q1 ⟨rfl, b1⟩; have p0 := (s0.below b1).cell 0 _ rfl; have p1 := (s0.below b1).cell 1 _ rfl; have p2 := (s0.below b1).cell 2 _ rfl; have p3 := (s0.below b1).cell 3 _ rfl; have p4 := (s0.below b1).cell 4 _ rfl; have k0 := (s1.below b1).cell 0 _ rfl; have k1 := (s1.below b1).cell 1 _ rfl; have zz0 := (s2.below b1).cell 0 _ rfl; have zz1 := (s2.below b1).cell 1 _ rfl; have zz2 := (s2.below b1).cell 2 _ rfl; have zz3 := (s2.below b1).cell 3 _ rfl; have zz4 := (s2.below b1).cell 4 _ rfl; have zf := (s2.below b1).free) | (go_at_call 9; refine (CC.out _ (below_trans bw b1)).mono ?_; rintro e q3 ⟨v1, t1, t2, t3, rfl, oD, b3⟩; obtain ⟨cs0, r0⟩ := oD.code.row; obtain ⟨ca, cq, e0⟩ := own_form r0; obtain ⟨oa, oq, e1⟩ := own_form oD.origs; obtain ⟨da, dq, e2⟩ := own_form oD.dests; obtain ⟨cs3, r3⟩ := oD.loops.own.row; obtain ⟨la, lq, e3⟩ := own_form r3; obtain ⟨cs4, r4⟩ := oD.cases.own.row; obtain ⟨ka, kq, e4⟩ := own_form r4; obtain ⟨y0, y1, y2, y3, y4⟩ := v1; (try dsimp only at e0 e1 e2 e3 e4); subst e0 e1 e2 e3 e4; simp only [Dv.cs]))
          have b13 := below_trans b1 b3
          have so := stands_new q3 #[.slice ca d.code.length cq, .slice oa d.origs.length oq, .slice da d.dests.length dq, .slice la d.loops.length lq, .slice ka d.cases.length kq] 26
          have bo := box_below q3 (.cells #[.slice ca d.code.length cq, .slice oa d.origs.length oq, .slice da d.dests.length dq, .slice la d.loops.length lq, .slice ka d.cases.length kq] 26)
          have oD4 := oD.below bo
          have b14 := below_trans b13 bo
          obtain ⟨BX, hBX⟩ : ∃ B, q3.heap.size = B := ⟨_, rfl⟩
          have hBq : q1.heap.size ≤ BX := by rw [← hBX]; exact b3.size
          rw [hBX] at so
          simp only [hBX]
          generalize q3.alloc (.cells #[.slice ca d.code.length cq, .slice oa d.origs.length oq, .slice da d.dests.length dq, .slice la d.loops.length lq, .slice ka d.cases.length kq] 26) = q4 at so bo oD4 b14 ⊢
          have hW0 : w.heap.size + 1 + 1 < W0.heap.size := (Array.getElem?_eq_some_iff.1 s2).1
          have hWq : W0.heap.size ≤ q1.heap.size := b1.size
          have u0 := so.cell 0 _ rfl
          have k0 := (s1.below b14).cell 0 _ rfl
          have k1 := (s1.below b14).cell 1 _ rfl
          have bX := box_below q4 (.cells #[.int .i64 12, .int .u32 N] 37)
          have oDX := oD4.below bX
          obtain ⟨rows, p1, p2, p3, p4⟩ := oDX.code
          obtain ⟨i9, hi9, hz9, hz8, hz7⟩ := info_parts infoOp10
          have one : ∀ r ∈ [[Value.int .i64 12, .int .u32 N]], ∀ u ∈ r, u.oneCell' = true := fun r hr u hu => by rw [List.mem_singleton] at hr; subst hr; simp at hu; rcases hu with rfl | rfl <;> rfl
          have hq14 : q1.heap.size ≤ q4.heap.size := Nat.le_trans b3.size bo.size
          have P1 := hid p1
          have P2 := hid p2
          have P4 := hid p4
          have OX := hid oDX
          clear p1 p2 p4 oDX oD4 oD
          go_upto_region 7 with (at_builtin; refine wpList_append_rows rfl _ _ 22 rfl q1.heap.size 37 i9 _ 2 16 Try.underlying22 hi9 hz9 hz8 hz7 rfl (by decide) _ d.code.length _ rfl p3 _ [[Value.int .i64 12, .int .u32 N]] rfl (slc_one q4 [Value.int .i64 12, .int .u32 N] 37 2 rfl) one (by unfold maxLen; simp only [List.length_singleton]; omega) (by simp only [List.length_singleton]; omega) (Nat.le_trans hq14 bX.size) ?_; intro v9 w9 ho9 hg9; obtain ⟨a9, c9, rfl⟩ := own_form ho9; have so9 := Stands.grown (so.below bX) hg9 (stands_apart (so.below bX) p3 (by decide)); have y2 := so9.cell 0 _ rfl; have yg := so9.free 0)
          have kW := Kept.own p3 hg9
          have sz9 := (Stands.grown (s2.below (below_trans b14 bX)) hg9 (stands_apart (s2.below (below_trans b14 bX)) p3 (by decide))).other (b' := BX) 0 (.slice a9 (d.code.length + [[Value.int .i64 12, .int .u32 N]].length) c9) (by omega)
          have oC9 : OwC q1.heap.size w9 (.slice a9 (d.code.length + 1) c9) (d.code ++ [(12, N)]) := OwnR.snoc (e := 37) (O := opR) opR_apt10 P1.out P2.out p3 P4.out rfl (x := (12, N)) rfl (by simpa using ho9) hg9
          have oD9 := OX.out.code' kW oC9
          have oDF := oD9.kept (set_kept so9 0 (.slice a9 (d.code.length + [[Value.int .i64 12, .int .u32 N]].length) c9)) (by decide) (by decide) (by decide)
          have soF := so9.set 0 (.slice a9 (d.code.length + [[Value.int .i64 12, .int .u32 N]].length) c9)
          have hwq : w.heap.size ≤ q1.heap.size := Nat.le_trans bw.size hWq
          have BF := below_set (below_grown (below_trans (below_trans bw b14) bX) hg9 (fun q hq => Nat.le_trans hwq (p3.lt q hq).1)) BX 0 (.slice a9 (d.code.length + [[Value.int .i64 12, .int .u32 N]].length) c9) (by omega)
          generalize w9.setCell ⟨BX, 0, none⟩ (.slice a9 (d.code.length + [[Value.int .i64 12, .int .u32 N]].length) c9) = q9 at sz9 oDF soF BF ⊢
          have soF : Stands q9 BX #[.slice a9 (d.code.length + 1) c9, .slice oa d.origs.length oq, .slice da d.dests.length dq, .slice la d.loops.length lq, .slice ka d.cases.length kq] 26 := soF
          have u0 := soF.cell 0 _ rfl
          have u1 := soF.cell 1 _ rfl
          have u2 := soF.cell 2 _ rfl
          have u3 := soF.cell 3 _ rfl
          have u4 := soF.cell 4 _ rfl
          have zz0 := sz9.cell 0 _ rfl
          have zz1 := sz9.cell 1 _ rfl
          have zz2 := sz9.cell 2 _ rfl
          have zz3 := sz9.cell 3 _ rfl
          have zz4 := sz9.cell 4 _ rfl
          have zf := sz9.free
          obtain ⟨g1, g2⟩ := set5q sz9 (.slice a9 (d.code.length + 1) c9) (.slice oa d.origs.length oq) (.slice da d.dests.length dq) (.slice la d.loops.length lq) (.slice ka d.cases.length kq)
          have G1 := hid g1
          have GM := hid (g2 (fun u => OwD q1.heap.size u ⟨.slice a9 (d.code.length + 1) c9, .slice oa d.origs.length oq, .slice da d.dests.length dq, .slice la d.loops.length lq, .slice ka d.cases.length kq⟩ { d with code := d.code ++ [(12, N)] } t1 t2 t3) (fun u u' kk q => q.kept kk (by decide) (by decide) (by decide)) oDF)
          have J7 : Hid (Below w.heap.size w _) := below_set (below_set (below_set (below_set (below_set (BF) (w.heap.size + 1 + 1) 0 (.slice a9 (d.code.length + 1) c9) (by omega)) (w.heap.size + 1 + 1) 1 (.slice oa d.origs.length oq) (by omega)) (w.heap.size + 1 + 1) 2 (.slice da d.dests.length dq) (by omega)) (w.heap.size + 1 + 1) 3 (.slice la d.loops.length lq) (by omega)) (w.heap.size + 1 + 1) 4 (.slice ka d.cases.length kq) (by omega)
          clear g1 g2 oDF BF sz9 soF p3 ho9 hg9 kW oD9 oC9 so9 y2 yg
          go_wp2_with fail
          (try simp only [Exit.inBlock, Exit.then])
          refine bodyPost_ret (res_row2 rfl _ _ (w.heap.size + 1 + 1) 26 _ (0, 0) _ rfl G1.out Try.underlying26 rfl (show _ = some 5 by kernel_rfl)) rfl ?_
          exact ⟨⟨.slice a9 (d.code.length + 1) c9, .slice oa d.origs.length oq, .slice da d.dests.length dq, .slice la d.loops.length lq, .slice ka d.cases.length kq⟩, rfl, ⟨_, GM.out.owe⟩, J7.out⟩
        · skip
          go_enter Try.func16, Try.ntmps16
          go_upto_region 1 with fail
          generalize ((w.alloc (.cells #[x0, x1, x2, x3, x4] 26)).alloc (.cells #[.int .i64 13, .int .u32 N] 37)).alloc (.cells #[.slice none 0 0, .slice none 0 0, .slice none 0 0, .slice none 0 0, .slice none 0 0] 26) = W0 at s0 s1 s2 bw ⊢
          have f0 := s0.cell 0 _ rfl
          have f1 := s0.cell 1 _ rfl
          have f2 := s0.cell 2 _ rfl
          have f3 := s0.cell 3 _ rfl
          have f4 := s0.cell 4 _ rfl
          go_upto_region 6 with (first | (go_at_call 13; refine (cf _ bw).mono ?_; rintro e q1 ⟨rfl, b1⟩; have p0 := (s0.below b1).cell 0 _ rfl; have p1 := (s0.below b1).cell 1 _ rfl; have p2 := (s0.below b1).cell 2 _ rfl; have p3 := (s0.below b1).cell 3 _ rfl; have p4 := (s0.below b1).cell 4 _ rfl; have k0 := (s1.below b1).cell 0 _ rfl; have k1 := (s1.below b1).cell 1 _ rfl; have zz0 := (s2.below b1).cell 0 _ rfl; have zz1 := (s2.below b1).cell 1 _ rfl; have zz2 := (s2.below b1).cell 2 _ rfl; have zz3 := (s2.below b1).cell 3 _ rfl; have zz4 := (s2.below b1).cell 4 _ rfl; have zf := (s2.below b1).free) | (go_at_call 9; refine (CC.out _ (below_trans bw b1)).mono ?_; rintro e q3 ⟨v1, t1, t2, t3, rfl, oD, b3⟩; obtain ⟨cs0, r0⟩ := oD.code.row; obtain ⟨ca, cq, e0⟩ := own_form r0; obtain ⟨oa, oq, e1⟩ := own_form oD.origs; obtain ⟨da, dq, e2⟩ := own_form oD.dests; obtain ⟨cs3, r3⟩ := oD.loops.own.row; obtain ⟨la, lq, e3⟩ := own_form r3; obtain ⟨cs4, r4⟩ := oD.cases.own.row; obtain ⟨ka, kq, e4⟩ := own_form r4; obtain ⟨y0, y1, y2, y3, y4⟩ := v1; (try dsimp only at e0 e1 e2 e3 e4); subst e0 e1 e2 e3 e4; simp only [Dv.cs]))
          have b13 := below_trans b1 b3
          have so := stands_new q3 #[.slice ca d.code.length cq, .slice oa d.origs.length oq, .slice da d.dests.length dq, .slice la d.loops.length lq, .slice ka d.cases.length kq] 26
          have bo := box_below q3 (.cells #[.slice ca d.code.length cq, .slice oa d.origs.length oq, .slice da d.dests.length dq, .slice la d.loops.length lq, .slice ka d.cases.length kq] 26)
          have oD4 := oD.below bo
          have b14 := below_trans b13 bo
          obtain ⟨BX, hBX⟩ : ∃ B, q3.heap.size = B := ⟨_, rfl⟩
          have hBq : q1.heap.size ≤ BX := by rw [← hBX]; exact b3.size
          rw [hBX] at so
          simp only [hBX]
          generalize q3.alloc (.cells #[.slice ca d.code.length cq, .slice oa d.origs.length oq, .slice da d.dests.length dq, .slice la d.loops.length lq, .slice ka d.cases.length kq] 26) = q4 at so bo oD4 b14 ⊢
          have hW0 : w.heap.size + 1 + 1 < W0.heap.size := (Array.getElem?_eq_some_iff.1 s2).1
          have hWq : W0.heap.size ≤ q1.heap.size := b1.size
          have u0 := so.cell 0 _ rfl
          have k0 := (s1.below b14).cell 0 _ rfl
          have k1 := (s1.below b14).cell 1 _ rfl
          have bX := box_below q4 (.cells #[.int .i64 13, .int .u32 N] 37)
          have oDX := oD4.below bX
          obtain ⟨rows, p1, p2, p3, p4⟩ := oDX.code
          obtain ⟨i9, hi9, hz9, hz8, hz7⟩ := info_parts infoOp10
          have one : ∀ r ∈ [[Value.int .i64 13, .int .u32 N]], ∀ u ∈ r, u.oneCell' = true := fun r hr u hu => by rw [List.mem_singleton] at hr; subst hr; simp at hu; rcases hu with rfl | rfl <;> rfl
          have hq14 : q1.heap.size ≤ q4.heap.size := Nat.le_trans b3.size bo.size
          have P1 := hid p1
          have P2 := hid p2
          have P4 := hid p4
          have OX := hid oDX
          clear p1 p2 p4 oDX oD4 oD
          go_upto_region 7 with (at_builtin; refine wpList_append_rows rfl _ _ 22 rfl q1.heap.size 37 i9 _ 2 16 Try.underlying22 hi9 hz9 hz8 hz7 rfl (by decide) _ d.code.length _ rfl p3 _ [[Value.int .i64 13, .int .u32 N]] rfl (slc_one q4 [Value.int .i64 13, .int .u32 N] 37 2 rfl) one (by unfold maxLen; simp only [List.length_singleton]; omega) (by simp only [List.length_singleton]; omega) (Nat.le_trans hq14 bX.size) ?_; intro v9 w9 ho9 hg9; obtain ⟨a9, c9, rfl⟩ := own_form ho9; have so9 := Stands.grown (so.below bX) hg9 (stands_apart (so.below bX) p3 (by decide)); have y2 := so9.cell 0 _ rfl; have yg := so9.free 0)
          have kW := Kept.own p3 hg9
          have sz9 := (Stands.grown (s2.below (below_trans b14 bX)) hg9 (stands_apart (s2.below (below_trans b14 bX)) p3 (by decide))).other (b' := BX) 0 (.slice a9 (d.code.length + [[Value.int .i64 13, .int .u32 N]].length) c9) (by omega)
          have oC9 : OwC q1.heap.size w9 (.slice a9 (d.code.length + 1) c9) (d.code ++ [(13, N)]) := OwnR.snoc (e := 37) (O := opR) opR_apt10 P1.out P2.out p3 P4.out rfl (x := (13, N)) rfl (by simpa using ho9) hg9
          have oD9 := OX.out.code' kW oC9
          have oDF := oD9.kept (set_kept so9 0 (.slice a9 (d.code.length + [[Value.int .i64 13, .int .u32 N]].length) c9)) (by decide) (by decide) (by decide)
          have soF := so9.set 0 (.slice a9 (d.code.length + [[Value.int .i64 13, .int .u32 N]].length) c9)
          have hwq : w.heap.size ≤ q1.heap.size := Nat.le_trans bw.size hWq
          have BF := below_set (below_grown (below_trans (below_trans bw b14) bX) hg9 (fun q hq => Nat.le_trans hwq (p3.lt q hq).1)) BX 0 (.slice a9 (d.code.length + [[Value.int .i64 13, .int .u32 N]].length) c9) (by omega)
          generalize w9.setCell ⟨BX, 0, none⟩ (.slice a9 (d.code.length + [[Value.int .i64 13, .int .u32 N]].length) c9) = q9 at sz9 oDF soF BF ⊢
          have soF : Stands q9 BX #[.slice a9 (d.code.length + 1) c9, .slice oa d.origs.length oq, .slice da d.dests.length dq, .slice la d.loops.length lq, .slice ka d.cases.length kq] 26 := soF
          have u0 := soF.cell 0 _ rfl
          have u1 := soF.cell 1 _ rfl
          have u2 := soF.cell 2 _ rfl
          have u3 := soF.cell 3 _ rfl
          have u4 := soF.cell 4 _ rfl
          have zz0 := sz9.cell 0 _ rfl
          have zz1 := sz9.cell 1 _ rfl
          have zz2 := sz9.cell 2 _ rfl
          have zz3 := sz9.cell 3 _ rfl
          have zz4 := sz9.cell 4 _ rfl
          have zf := sz9.free
          obtain ⟨g1, g2⟩ := set5q sz9 (.slice a9 (d.code.length + 1) c9) (.slice oa d.origs.length oq) (.slice da d.dests.length dq) (.slice la d.loops.length lq) (.slice ka d.cases.length kq)
          have G1 := hid g1
          have GM := hid (g2 (fun u => OwD q1.heap.size u ⟨.slice a9 (d.code.length + 1) c9, .slice oa d.origs.length oq, .slice da d.dests.length dq, .slice la d.loops.length lq, .slice ka d.cases.length kq⟩ { d with code := d.code ++ [(13, N)] } t1 t2 t3) (fun u u' kk q => q.kept kk (by decide) (by decide) (by decide)) oDF)
          have J7 : Hid (Below w.heap.size w _) := below_set (below_set (below_set (below_set (below_set (BF) (w.heap.size + 1 + 1) 0 (.slice a9 (d.code.length + 1) c9) (by omega)) (w.heap.size + 1 + 1) 1 (.slice oa d.origs.length oq) (by omega)) (w.heap.size + 1 + 1) 2 (.slice da d.dests.length dq) (by omega)) (w.heap.size + 1 + 1) 3 (.slice la d.loops.length lq) (by omega)) (w.heap.size + 1 + 1) 4 (.slice ka d.cases.length kq) (by omega)
          clear g1 g2 oDF BF sz9 soF p3 ho9 hg9 kW oD9 oC9 so9 y2 yg
          go_wp2_with fail
          (try simp only [Exit.inBlock, Exit.then])
          refine bodyPost_ret (res_row2 rfl _ _ (w.heap.size + 1 + 1) 26 _ (0, 0) _ rfl G1.out Try.underlying26 rfl (show _ = some 5 by kernel_rfl)) rfl ?_
          exact ⟨⟨.slice a9 (d.code.length + 1) c9, .slice oa d.origs.length oq, .slice da d.dests.length dq, .slice la d.loops.length lq, .slice ka d.cases.length kq⟩, rfl, ⟨_, GM.out.owe⟩, J7.out⟩
    · have cKf : putK (K, N) = false := decide_eq_false cK
      rw [put_no1 (Or.inr cKf)]
      have r1 : (K != 1) = true := by rw [bne_iff_ne]; omega
      have r2 : (K != 2) = true := by rw [bne_iff_ne]; omega
      have r12 : (K != 12) = true := by rw [bne_iff_ne]; omega
      have r13 : (K != 13) = true := by rw [bne_iff_ne]; omega
      clear cK cKf
      go_enter Try.func16, Try.ntmps16
      go_upto_region 1 with fail
      generalize ((w.alloc (.cells #[x0, x1, x2, x3, x4] 26)).alloc (.cells #[.int .i64 K, .int .u32 N] 37)).alloc (.cells #[.slice none 0 0, .slice none 0 0, .slice none 0 0, .slice none 0 0, .slice none 0 0] 26) = W0 at s0 s1 s2 bw ⊢
      have f0 := s0.cell 0 _ rfl
      have f1 := s0.cell 1 _ rfl
      have f2 := s0.cell 2 _ rfl
      have f3 := s0.cell 3 _ rfl
      have f4 := s0.cell 4 _ rfl
      go_wp2_with (first | (go_at_call 13; refine (cf _ bw).mono ?_; rintro e q1 ⟨rfl, b1⟩; have p0 := (s0.below b1).cell 0 _ rfl; have p1 := (s0.below b1).cell 1 _ rfl; have p2 := (s0.below b1).cell 2 _ rfl; have p3 := (s0.below b1).cell 3 _ rfl; have p4 := (s0.below b1).cell 4 _ rfl; have k0 := (s1.below b1).cell 0 _ rfl; have k1 := (s1.below b1).cell 1 _ rfl; have zz0 := (s2.below b1).cell 0 _ rfl; have zz1 := (s2.below b1).cell 1 _ rfl; have zz2 := (s2.below b1).cell 2 _ rfl; have zz3 := (s2.below b1).cell 3 _ rfl; have zz4 := (s2.below b1).cell 4 _ rfl; have zf := (s2.below b1).free))
      obtain ⟨g1, g2⟩ := set5q (s2.below b1) (.slice none 0 0) (.slice none 0 0) (.slice none 0 0) (.slice none 0 0) (.slice none 0 0)
      have J7 := below_set (below_set (below_set (below_set (below_set (below_trans bw b1) (w.heap.size + 1 + 1) 0 (.slice none 0 0) (by omega)) (w.heap.size + 1 + 1) 1 (.slice none 0 0) (by omega)) (w.heap.size + 1 + 1) 2 (.slice none 0 0) (by omega)) (w.heap.size + 1 + 1) 3 (.slice none 0 0) (by omega)) (w.heap.size + 1 + 1) 4 (.slice none 0 0) (by omega)
      (try simp only [Exit.inBlock, Exit.then])
      refine bodyPost_ret (res_row2 rfl _ _ (w.heap.size + 1 + 1) 26 _ (0, 0) _ rfl g1 Try.underlying26 rfl (show _ = some 5 by kernel_rfl)) rfl ?_
      exact ⟨nilDv, rfl, OwQ.nil _, J7⟩
end Go.Proofs.Ytfmpeminfcehaaa
