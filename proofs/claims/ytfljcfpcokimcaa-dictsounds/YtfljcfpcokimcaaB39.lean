/-
  Texts of one proof, laid one behind the other: Rdh Rde Dwk.
-/
import Derived.Test.YtfljcfpcokimcaaB38
namespace Go.Proofs.Ytfljcfpcokimcaa
open Go.ChangeShapes Go.WideShapes Go.ChangeAt Go.RowKit
set_option linter.unusedVariables false
set_option linter.unusedSimpArgs false

/-
  Define of the document's answer.
-/
set_option maxHeartbeats 4000000 in
set_option maxRecDepth 100000 in
theorem w_r9define (m : Mc) (v : Mv) (o : ByteArray) (x : Wd) (nm : ByteArray) (vc : Value) (w : World) (h : RdM w v m o) (g : gdM m) (z : szM m) (en : strOfNums x.1 = nm) (hc : RdO w vc x.2.2.2.2) (bx : bytesL x.1) (lx : x.1.length ≤ maxLen) (hu : ∀ y ∈ x.2.2.2.2, 0 ≤ y.2 ∧ y.2 < 4294967296) (hN : 0 ≤ x.2.2.2.1 ∧ x.2.2.2.1 < 4294967296) (hz : x.2.2.2.2.length * 16 ≤ 140737488355328) :
    Calls Try.prog 30 #[.agg (v.cs m o), .agg #[.string nm, .int .i64 x.2.1, .int .i64 x.2.2.1, .int .u32 x.2.2.2.1, vc]] w fun e w' => ∃ v1 o1, e = .returned (.tuple #[.agg (Mv.cs v1 (dfnF m x).1 o1), .int .i64 (dfnF m x).2.1, .int .i64 (dfnF m x).2.2]) ∧ OwM w.heap.size w' v1 (dfnF m x).1 o1 ∧ Below w.heap.size w w' := by
  obtain ⟨ca, cq, rfl⟩ := slr_slice hc
  have cf := fun W (b : Below w.heap.size w W) => w_r9formed m v o W (h.below b) g
  have cw := fun W (b : Below w.heap.size w W) => w_r9wof x nm (.slice ca x.2.2.2.2.length cq) v.vt (m.words.length + 1) m.tree W en (RdO.below hc b) (h.tree.below b) bx lx hu hN
  have cc := fun W (b : Below w.heap.size w W) => w_r9copy m v o W (h.below b) z
  have co := fun W (b : Below w.heap.size w W) => w_r9ops _ _ W (RdO.below hc b) hz
  have lw := slr_len h.words uW (P := Try.prog)
  have mw := slr_max h.words
  unfold maxLen at mw
  have mw2 : (m.words.length : Int) ≤ 3000000000000 := by have := z.words; omega
  have s0 := ((stands_new w (v.cs m o) 32).below (box_below _ (.cells #[.string nm, .int .i64 x.2.1, .int .i64 x.2.2.1, .int .u32 x.2.2.2.1, .slice ca x.2.2.2.2.length cq] 51))).below (box_below _ (.cells #[.slice none 0 0, .slice none 0 0, .slice none 0 0, .slice none 0 0, .int .u32 0, .slice none 0 0, .int .i64 0, .slice none 0 0, .int .i64 0, .string ⟨#[]⟩] 32))
  have s1 := (stands_new (w.alloc (.cells (v.cs m o) 32)) #[.string nm, .int .i64 x.2.1, .int .i64 x.2.2.1, .int .u32 x.2.2.2.1, .slice ca x.2.2.2.2.length cq] 51).below (box_below _ (.cells #[.slice none 0 0, .slice none 0 0, .slice none 0 0, .slice none 0 0, .int .u32 0, .slice none 0 0, .int .i64 0, .slice none 0 0, .int .i64 0, .string ⟨#[]⟩] 32))
  have s2 := stands_new ((w.alloc (.cells (v.cs m o) 32)).alloc (.cells #[.string nm, .int .i64 x.2.1, .int .i64 x.2.2.1, .int .u32 x.2.2.2.1, .slice ca x.2.2.2.2.length cq] 51)) #[.slice none 0 0, .slice none 0 0, .slice none 0 0, .slice none 0 0, .int .u32 0, .slice none 0 0, .int .i64 0, .slice none 0 0, .int .i64 0, .string ⟨#[]⟩] 32
  rw [size_al] at s1
  rw [size_al, size_al] at s2
  have bw := below_trans (below_trans (box_below w (.cells (v.cs m o) 32)) (box_below _ (.cells #[.string nm, .int .i64 x.2.1, .int .i64 x.2.2.1, .int .u32 x.2.2.2.1, .slice ca x.2.2.2.2.length cq] 51))) (box_below _ (.cells #[.slice none 0 0, .slice none 0 0, .slice none 0 0, .slice none 0 0, .int .u32 0, .slice none 0 0, .int .i64 0, .slice none 0 0, .int .i64 0, .string ⟨#[]⟩] 32))
  by_cases c1 : frmM m = false
  · rw [dfn_no1 (Or.inl c1)]
    simp only [c1] at cf
    go_enter Try.func30, Try.ntmps30
    go_upto_region 1 with fail
    generalize (((w.alloc (.cells (v.cs m o) 32)).alloc (.cells #[.string nm, .int .i64 x.2.1, .int .i64 x.2.2.1, .int .u32 x.2.2.2.1, .slice ca x.2.2.2.2.length cq] 51)).alloc (.cells #[.slice none 0 0, .slice none 0 0, .slice none 0 0, .slice none 0 0, .int .u32 0, .slice none 0 0, .int .i64 0, .slice none 0 0, .int .i64 0, .string ⟨#[]⟩] 32)) = W0 at s0 s1 s2 bw ⊢
    have KM := fun q (b : Below W0.heap.size W0 q) => mch_cells (s0.below b)
    have KW := fun q (b : Below W0.heap.size W0 q) => s1.below b
    have KZ := fun q (b : Below W0.heap.size W0 q) => s2.below b
    obtain ⟨f0, f1, f2, f3, f4, f5, f6, f7, f8, f9⟩ := KM _ (Below.refl _ _)
    go_wp2_with (go_at_call 19; refine (cf _ bw).mono ?_; rintro e q1 ⟨rfl, b1⟩; obtain ⟨m0_1, m1_1, m2_1, m3_1, m4_1, m5_1, m6_1, m7_1, m8_1, m9_1⟩ := KM _ b1; have sw1 := KW _ b1; have w0_1 := sw1.cell 0 _ rfl; have w1_1 := sw1.cell 1 _ rfl; have w2_1 := sw1.cell 2 _ rfl; have w3_1 := sw1.cell 3 _ rfl; have w4_1 := sw1.cell 4 _ rfl; have sz1 := KZ _ b1; have z0_1 := sz1.cell 0 _ rfl; have z1_1 := sz1.cell 1 _ rfl; have z2_1 := sz1.cell 2 _ rfl; have z3_1 := sz1.cell 3 _ rfl; have z4_1 := sz1.cell 4 _ rfl; have z5_1 := sz1.cell 5 _ rfl; have z6_1 := sz1.cell 6 _ rfl; have z7_1 := sz1.cell 7 _ rfl; have z8_1 := sz1.cell 8 _ rfl; have z9_1 := sz1.cell 9 _ rfl; have zf1 := sz1.free)
    obtain ⟨k1, k2⟩ := set10 sz1 (.slice none 0 0) (.slice none 0 0) (.slice none 0 0) (.slice none 0 0) (.int .u32 0) (.slice none 0 0) (.int .i64 0) (.slice none 0 0) (.int .i64 0) (.string ⟨#[]⟩)
    have J7 := below_set (below_set (below_set (below_set (below_set (below_set (below_set (below_set (below_set (below_set (below_trans bw b1) (w.heap.size + 1 + 1) 0 (.slice none 0 0) (by omega)) (w.heap.size + 1 + 1) 1 (.slice none 0 0) (by omega)) (w.heap.size + 1 + 1) 2 (.slice none 0 0) (by omega)) (w.heap.size + 1 + 1) 3 (.slice none 0 0) (by omega)) (w.heap.size + 1 + 1) 4 (.int .u32 0) (by omega)) (w.heap.size + 1 + 1) 5 (.slice none 0 0) (by omega)) (w.heap.size + 1 + 1) 6 (.int .i64 0) (by omega)) (w.heap.size + 1 + 1) 7 (.slice none 0 0) (by omega)) (w.heap.size + 1 + 1) 8 (.int .i64 0) (by omega)) (w.heap.size + 1 + 1) 9 (.string ⟨#[]⟩) (by omega)
    (try simp only [Exit.inBlock, Exit.then])
    refine bodyPost_ret (results_row3 rfl _ _ (w.heap.size + 1 + 1) 32 _ (0, 0) _ rfl k1 Try.underlying32 rfl (show _ = some 10 by kernel_rfl)) rfl ?_
    exact ⟨nilV, ⟨#[]⟩, rfl, own_nilM _ _, J7⟩
  · have c1t : frmM m = true := by simpa using c1
    simp only [c1t] at cf
    by_cases c2 : wofF x (m.words.length + 1) m.tree = false
    · rw [dfn_no1 (Or.inr c2)]
      simp only [c2] at cw
      go_enter Try.func30, Try.ntmps30
      go_upto_region 1 with fail
      generalize (((w.alloc (.cells (v.cs m o) 32)).alloc (.cells #[.string nm, .int .i64 x.2.1, .int .i64 x.2.2.1, .int .u32 x.2.2.2.1, .slice ca x.2.2.2.2.length cq] 51)).alloc (.cells #[.slice none 0 0, .slice none 0 0, .slice none 0 0, .slice none 0 0, .int .u32 0, .slice none 0 0, .int .i64 0, .slice none 0 0, .int .i64 0, .string ⟨#[]⟩] 32)) = W0 at s0 s1 s2 bw ⊢
      have KM := fun q (b : Below W0.heap.size W0 q) => mch_cells (s0.below b)
      have KW := fun q (b : Below W0.heap.size W0 q) => s1.below b
      have KZ := fun q (b : Below W0.heap.size W0 q) => s2.below b
      obtain ⟨f0, f1, f2, f3, f4, f5, f6, f7, f8, f9⟩ := KM _ (Below.refl _ _)
      go_wp2_with (go_at_call 19; refine (cf _ bw).mono ?_; rintro e q1 ⟨rfl, b1⟩; obtain ⟨m0_1, m1_1, m2_1, m3_1, m4_1, m5_1, m6_1, m7_1, m8_1, m9_1⟩ := KM _ b1; have sw1 := KW _ b1; have w0_1 := sw1.cell 0 _ rfl; have w1_1 := sw1.cell 1 _ rfl; have w2_1 := sw1.cell 2 _ rfl; have w3_1 := sw1.cell 3 _ rfl; have w4_1 := sw1.cell 4 _ rfl; have sz1 := KZ _ b1; have z0_1 := sz1.cell 0 _ rfl; have z1_1 := sz1.cell 1 _ rfl; have z2_1 := sz1.cell 2 _ rfl; have z3_1 := sz1.cell 3 _ rfl; have z4_1 := sz1.cell 4 _ rfl; have z5_1 := sz1.cell 5 _ rfl; have z6_1 := sz1.cell 6 _ rfl; have z7_1 := sz1.cell 7 _ rfl; have z8_1 := sz1.cell 8 _ rfl; have z9_1 := sz1.cell 9 _ rfl; have zf1 := sz1.free)
      go_wp2_with (go_at_call 50; refine (cw _ (below_trans bw b1)).mono ?_; rintro e q2 ⟨rfl, b2⟩; have b12 := below_trans b1 b2; obtain ⟨m0_2, m1_2, m2_2, m3_2, m4_2, m5_2, m6_2, m7_2, m8_2, m9_2⟩ := KM _ b12; have sw2 := KW _ b12; have w0_2 := sw2.cell 0 _ rfl; have w1_2 := sw2.cell 1 _ rfl; have w2_2 := sw2.cell 2 _ rfl; have w3_2 := sw2.cell 3 _ rfl; have w4_2 := sw2.cell 4 _ rfl; have sz2 := KZ _ b12; have z0_2 := sz2.cell 0 _ rfl; have z1_2 := sz2.cell 1 _ rfl; have z2_2 := sz2.cell 2 _ rfl; have z3_2 := sz2.cell 3 _ rfl; have z4_2 := sz2.cell 4 _ rfl; have z5_2 := sz2.cell 5 _ rfl; have z6_2 := sz2.cell 6 _ rfl; have z7_2 := sz2.cell 7 _ rfl; have z8_2 := sz2.cell 8 _ rfl; have z9_2 := sz2.cell 9 _ rfl; have zf2 := sz2.free)
      obtain ⟨k1, k2⟩ := set10 sz2 (.slice none 0 0) (.slice none 0 0) (.slice none 0 0) (.slice none 0 0) (.int .u32 0) (.slice none 0 0) (.int .i64 0) (.slice none 0 0) (.int .i64 0) (.string ⟨#[]⟩)
      have J7 := below_set (below_set (below_set (below_set (below_set (below_set (below_set (below_set (below_set (below_set (below_trans bw b12) (w.heap.size + 1 + 1) 0 (.slice none 0 0) (by omega)) (w.heap.size + 1 + 1) 1 (.slice none 0 0) (by omega)) (w.heap.size + 1 + 1) 2 (.slice none 0 0) (by omega)) (w.heap.size + 1 + 1) 3 (.slice none 0 0) (by omega)) (w.heap.size + 1 + 1) 4 (.int .u32 0) (by omega)) (w.heap.size + 1 + 1) 5 (.slice none 0 0) (by omega)) (w.heap.size + 1 + 1) 6 (.int .i64 0) (by omega)) (w.heap.size + 1 + 1) 7 (.slice none 0 0) (by omega)) (w.heap.size + 1 + 1) 8 (.int .i64 0) (by omega)) (w.heap.size + 1 + 1) 9 (.string ⟨#[]⟩) (by omega)
      (try simp only [Exit.inBlock, Exit.then])
      refine bodyPost_ret (results_row3 rfl _ _ (w.heap.size + 1 + 1) 32 _ (0, 0) _ rfl k1 Try.underlying32 rfl (show _ = some 10 by kernel_rfl)) rfl ?_
      exact ⟨nilV, ⟨#[]⟩, rfl, own_nilM _ _, J7⟩
    · have c2t : wofF x (m.words.length + 1) m.tree = true := by simpa using c2
      simp only [c2t] at cw
      have cno : ¬ (frmM m = false ∨ wofF x (m.words.length + 1) m.tree = false) := by rw [c1t, c2t]; simp
      by_cases c3 : (640 : Int) ≤ m.words.length
      · rw [dfn_no2 cno (by omega)]
        go_enter Try.func30, Try.ntmps30
        go_upto_region 1 with fail
        generalize (((w.alloc (.cells (v.cs m o) 32)).alloc (.cells #[.string nm, .int .i64 x.2.1, .int .i64 x.2.2.1, .int .u32 x.2.2.2.1, .slice ca x.2.2.2.2.length cq] 51)).alloc (.cells #[.slice none 0 0, .slice none 0 0, .slice none 0 0, .slice none 0 0, .int .u32 0, .slice none 0 0, .int .i64 0, .slice none 0 0, .int .i64 0, .string ⟨#[]⟩] 32)) = W0 at s0 s1 s2 bw ⊢
        have KM := fun q (b : Below W0.heap.size W0 q) => mch_cells (s0.below b)
        have KW := fun q (b : Below W0.heap.size W0 q) => s1.below b
        have KZ := fun q (b : Below W0.heap.size W0 q) => s2.below b
        obtain ⟨f0, f1, f2, f3, f4, f5, f6, f7, f8, f9⟩ := KM _ (Below.refl _ _)
        go_wp2_with (go_at_call 19; refine (cf _ bw).mono ?_; rintro e q1 ⟨rfl, b1⟩; obtain ⟨m0_1, m1_1, m2_1, m3_1, m4_1, m5_1, m6_1, m7_1, m8_1, m9_1⟩ := KM _ b1; have sw1 := KW _ b1; have w0_1 := sw1.cell 0 _ rfl; have w1_1 := sw1.cell 1 _ rfl; have w2_1 := sw1.cell 2 _ rfl; have w3_1 := sw1.cell 3 _ rfl; have w4_1 := sw1.cell 4 _ rfl; have sz1 := KZ _ b1; have z0_1 := sz1.cell 0 _ rfl; have z1_1 := sz1.cell 1 _ rfl; have z2_1 := sz1.cell 2 _ rfl; have z3_1 := sz1.cell 3 _ rfl; have z4_1 := sz1.cell 4 _ rfl; have z5_1 := sz1.cell 5 _ rfl; have z6_1 := sz1.cell 6 _ rfl; have z7_1 := sz1.cell 7 _ rfl; have z8_1 := sz1.cell 8 _ rfl; have z9_1 := sz1.cell 9 _ rfl; have zf1 := sz1.free)
        go_wp2_with (go_at_call 50; refine (cw _ (below_trans bw b1)).mono ?_; rintro e q2 ⟨rfl, b2⟩; have b12 := below_trans b1 b2; obtain ⟨m0_2, m1_2, m2_2, m3_2, m4_2, m5_2, m6_2, m7_2, m8_2, m9_2⟩ := KM _ b12; have sw2 := KW _ b12; have w0_2 := sw2.cell 0 _ rfl; have w1_2 := sw2.cell 1 _ rfl; have w2_2 := sw2.cell 2 _ rfl; have w3_2 := sw2.cell 3 _ rfl; have w4_2 := sw2.cell 4 _ rfl; have sz2 := KZ _ b12; have z0_2 := sz2.cell 0 _ rfl; have z1_2 := sz2.cell 1 _ rfl; have z2_2 := sz2.cell 2 _ rfl; have z3_2 := sz2.cell 3 _ rfl; have z4_2 := sz2.cell 4 _ rfl; have z5_2 := sz2.cell 5 _ rfl; have z6_2 := sz2.cell 6 _ rfl; have z7_2 := sz2.cell 7 _ rfl; have z8_2 := sz2.cell 8 _ rfl; have z9_2 := sz2.cell 9 _ rfl; have zf2 := sz2.free)
        obtain ⟨k1, k2⟩ := set10 sz2 (.slice none 0 0) (.slice none 0 0) (.slice none 0 0) (.slice none 0 0) (.int .u32 0) (.slice none 0 0) (.int .i64 0) (.slice none 0 0) (.int .i64 0) (.string ⟨#[]⟩)
        have J7 := below_set (below_set (below_set (below_set (below_set (below_set (below_set (below_set (below_set (below_set (below_trans bw b12) (w.heap.size + 1 + 1) 0 (.slice none 0 0) (by omega)) (w.heap.size + 1 + 1) 1 (.slice none 0 0) (by omega)) (w.heap.size + 1 + 1) 2 (.slice none 0 0) (by omega)) (w.heap.size + 1 + 1) 3 (.slice none 0 0) (by omega)) (w.heap.size + 1 + 1) 4 (.int .u32 0) (by omega)) (w.heap.size + 1 + 1) 5 (.slice none 0 0) (by omega)) (w.heap.size + 1 + 1) 6 (.int .i64 0) (by omega)) (w.heap.size + 1 + 1) 7 (.slice none 0 0) (by omega)) (w.heap.size + 1 + 1) 8 (.int .i64 0) (by omega)) (w.heap.size + 1 + 1) 9 (.string ⟨#[]⟩) (by omega)
        (try simp only [Exit.inBlock, Exit.then])
        refine bodyPost_ret (results_row3 rfl _ _ (w.heap.size + 1 + 1) 32 _ (0, 0) _ rfl k1 Try.underlying32 rfl (show _ = some 10 by kernel_rfl)) rfl ?_
        exact ⟨nilV, ⟨#[]⟩, rfl, own_nilM _ _, J7⟩
      · have hD : dfnF m x = ({ m with words := m.words ++ [x] }, (m.words.length : Int), 0) := by unfold dfnF; rw [if_neg cno, if_neg (by omega)]
        rw [hD]
        go_enter Try.func30, Try.ntmps30
        go_upto_region 1 with fail
        generalize (((w.alloc (.cells (v.cs m o) 32)).alloc (.cells #[.string nm, .int .i64 x.2.1, .int .i64 x.2.2.1, .int .u32 x.2.2.2.1, .slice ca x.2.2.2.2.length cq] 51)).alloc (.cells #[.slice none 0 0, .slice none 0 0, .slice none 0 0, .slice none 0 0, .int .u32 0, .slice none 0 0, .int .i64 0, .slice none 0 0, .int .i64 0, .string ⟨#[]⟩] 32)) = W0 at s0 s1 s2 bw ⊢
        have KM := fun q (b : Below W0.heap.size W0 q) => mch_cells (s0.below b)
        have KW := fun q (b : Below W0.heap.size W0 q) => s1.below b
        have KZ := fun q (b : Below W0.heap.size W0 q) => s2.below b
        obtain ⟨f0, f1, f2, f3, f4, f5, f6, f7, f8, f9⟩ := KM _ (Below.refl _ _)
        go_wp2_with (go_at_call 19; refine (cf _ bw).mono ?_; rintro e q1 ⟨rfl, b1⟩; obtain ⟨m0_1, m1_1, m2_1, m3_1, m4_1, m5_1, m6_1, m7_1, m8_1, m9_1⟩ := KM _ b1; have sw1 := KW _ b1; have w0_1 := sw1.cell 0 _ rfl; have w1_1 := sw1.cell 1 _ rfl; have w2_1 := sw1.cell 2 _ rfl; have w3_1 := sw1.cell 3 _ rfl; have w4_1 := sw1.cell 4 _ rfl; have sz1 := KZ _ b1; have z0_1 := sz1.cell 0 _ rfl; have z1_1 := sz1.cell 1 _ rfl; have z2_1 := sz1.cell 2 _ rfl; have z3_1 := sz1.cell 3 _ rfl; have z4_1 := sz1.cell 4 _ rfl; have z5_1 := sz1.cell 5 _ rfl; have z6_1 := sz1.cell 6 _ rfl; have z7_1 := sz1.cell 7 _ rfl; have z8_1 := sz1.cell 8 _ rfl; have z9_1 := sz1.cell 9 _ rfl; have zf1 := sz1.free)
        go_upto_region 6 with (first | (go_at_call 50; refine (cw _ (below_trans bw b1)).mono ?_; rintro e q2 ⟨rfl, b2⟩; have b12 := below_trans b1 b2; obtain ⟨m0_2, m1_2, m2_2, m3_2, m4_2, m5_2, m6_2, m7_2, m8_2, m9_2⟩ := KM _ b12; have sw2 := KW _ b12; have w0_2 := sw2.cell 0 _ rfl; have w1_2 := sw2.cell 1 _ rfl; have w2_2 := sw2.cell 2 _ rfl; have w3_2 := sw2.cell 3 _ rfl; have w4_2 := sw2.cell 4 _ rfl; have sz2 := KZ _ b12; have z0_2 := sz2.cell 0 _ rfl; have z1_2 := sz2.cell 1 _ rfl; have z2_2 := sz2.cell 2 _ rfl; have z3_2 := sz2.cell 3 _ rfl; have z4_2 := sz2.cell 4 _ rfl; have z5_2 := sz2.cell 5 _ rfl; have z6_2 := sz2.cell 6 _ rfl; have z7_2 := sz2.cell 7 _ rfl; have z8_2 := sz2.cell 8 _ rfl; have z9_2 := sz2.cell 9 _ rfl; have zf2 := sz2.free) | (go_at_call 28; refine (cc _ (below_trans bw b12)).mono ?_; rintro e q3 ⟨v1, rfl, oM, b3⟩; obtain ⟨a0, k0, h0⟩ := own_form oM.stack; obtain ⟨a1, k1, h1⟩ := own_form oM.mem; obtain ⟨cs2, r2⟩ := oM.words.row; obtain ⟨a2, k2, h2⟩ := own_form r2; obtain ⟨a3, k3, h3⟩ := own_form oM.codes; obtain ⟨cs5, r5⟩ := oM.tree.row; obtain ⟨a5, k5, h5⟩ := own_form r5; obtain ⟨cs7, r7⟩ := oM.insts.row; obtain ⟨a7, k7, h7⟩ := own_form r7; obtain ⟨x0, x1, x2, x3, x5, x7⟩ := v1; (try dsimp only at h0 h1 h2 h3 h5 h7); subst h0 h1 h2 h3 h5 h7; simp only [Mv.cs]))
        have b13 := below_trans b12 b3
        have so := stands_new q3 #[.slice a0 m.stack.length k0, .slice a1 m.mem.length k1, (.slice a2 m.words.length k2), .slice a3 m.codes.length k3, .int .u32 m.base, .slice a5 m.tree.length k5, .int .i64 m.node, .slice a7 m.insts.length k7, .int .i64 m.self, .string o] 32
        have bo := box_below q3 (.cells #[.slice a0 m.stack.length k0, .slice a1 m.mem.length k1, (.slice a2 m.words.length k2), .slice a3 m.codes.length k3, .int .u32 m.base, .slice a5 m.tree.length k5, .int .i64 m.node, .slice a7 m.insts.length k7, .int .i64 m.self, .string o] 32)
        have b14 := below_trans b13 bo
        have oM4 := (OwM.le (Nat.le_trans bw.size b12.size) oM).below bo
        have hq2 : W0.heap.size ≤ q2.heap.size := b12.size
        have oMq := oM.below bo
        obtain ⟨BO, hBO⟩ : ∃ BO, q3.heap.size = BO := ⟨_, rfl⟩
        have hBq : q2.heap.size ≤ BO := by rw [← hBO]; exact b3.size
        rw [hBO] at so
        simp only [hBO]
        generalize q3.alloc (.cells #[.slice a0 m.stack.length k0, .slice a1 m.mem.length k1, (.slice a2 m.words.length k2), .slice a3 m.codes.length k3, .int .u32 m.base, .slice a5 m.tree.length k5, .int .i64 m.node, .slice a7 m.insts.length k7, .int .i64 m.self, .string o] 32) = q4 at so bo b14 oM4 oMq ⊢
        have sm4 := s0.below b14
        have sw4 := KW _ b14
        have sz4 := KZ _ b14
        have w4_4 := sw4.cell 4 _ rfl
        have hW0 : w.heap.size + 1 + 1 < W0.heap.size := (Array.getElem?_eq_some_iff.1 s2).1
        go_upto_region 7 with (go_at_call 63; refine (co _ (below_trans bw b14)).mono ?_; rintro e q5 ⟨vO, rfl, oO, b5⟩; obtain ⟨csO, rO⟩ := oO.row; obtain ⟨ao, ko, rfl⟩ := own_form rO; have sw5 := sw4.below b5; have y4 := sw5.cell 4 _ rfl; have yf := sw5.free 4)
        have ab6 : Ab q2.heap.size q5 (q5.setCell ⟨w.heap.size + 1, 4, none⟩ (.slice ao x.2.2.2.2.length ko)) := ab_set _ _ _ _ (by omega)
        have sw6 := sw5.set 4 (.slice ao x.2.2.2.2.length ko)
        have so6 := (so.below b5).other (b' := w.heap.size + 1) 4 (.slice ao x.2.2.2.2.length ko) (by omega)
        have sm6 := (sm4.below b5).other (b' := w.heap.size + 1) 4 (.slice ao x.2.2.2.2.length ko) (by omega)
        have sz6 := (sz4.below b5).other (b' := w.heap.size + 1) 4 (.slice ao x.2.2.2.2.length ko) (by omega)
        have oM6 := (oMq.below b5).ab ab6
        have hq4 : q2.heap.size ≤ q4.heap.size := Nat.le_trans b3.size bo.size
        have oO6 := OwO.ab (OwO.le hq4 oO) ab6
        have B6 := below_set (below_trans (below_trans bw b14) b5) (w.heap.size + 1) 4 (.slice ao x.2.2.2.2.length ko) (by omega)
        have hq5 : q2.heap.size ≤ (q5.setCell ⟨w.heap.size + 1, 4, none⟩ (.slice ao x.2.2.2.2.length ko)).heap.size := by have := b5.size; simp only [World.setCell, Array.size_modify]; omega
        generalize q5.setCell ⟨w.heap.size + 1, 4, none⟩ (.slice ao x.2.2.2.2.length ko) = q6 at ab6 sw6 so6 sm6 sz6 oM6 oO6 B6 hq5 ⊢
        have u2 := so6.cell 2 _ rfl
        have t0 := sw6.cell 0 _ rfl
        have t1 := sw6.cell 1 _ rfl
        have t2 := sw6.cell 2 _ rfl
        have t3 := sw6.cell 3 _ rfl
        have t4 := sw6.cell 4 _ rfl
        have bX := box_below q6 (.cells #[.string nm, .int .i64 x.2.1, .int .i64 x.2.2.1, .int .u32 x.2.2.2.1, .slice ao x.2.2.2.2.length ko] 51)
        obtain ⟨rows, p1, p2, p3, p4⟩ := OwnR.below oM6.words bX (wrdO_below bX)
        have hx : wrdO q2.heap.size (q6.alloc (.cells #[.string nm, .int .i64 x.2.1, .int .i64 x.2.2.1, .int .u32 x.2.2.2.1, .slice ao x.2.2.2.2.length ko] 51)) [Value.string nm, .int .i64 x.2.1, .int .i64 x.2.2.1, .int .u32 x.2.2.2.1, .slice ao x.2.2.2.2.length ko] x := ⟨_, by rw [en], oO6.below bX⟩
        have P1 := hid p1
        have P2 := hid p2
        have P4 := hid p4
        have HX := hid hx
        have OM6 := hid oM6
        obtain ⟨i9, hi9, hz9, hz8, hz7⟩ := info_parts infoWd
        have one : ∀ r ∈ [[Value.string nm, .int .i64 x.2.1, .int .i64 x.2.2.1, .int .u32 x.2.2.2.1, .slice ao x.2.2.2.2.length ko]], ∀ u ∈ r, u.oneCell' = true := fun r hr u hu => by rw [List.mem_singleton] at hr; subst hr; simp at hu; rcases hu with rfl | rfl | rfl | rfl | rfl <;> rfl
        clear p1 p2 p4 hx oM6 y4 yf oO6 oM4 oMq oM oO
        go_upto_region 8 with (at_builtin; refine wpList_append_rows rfl _ _ 26 rfl q2.heap.size 51 i9 _ 5 64 Try.underlying26 hi9 hz9 hz8 hz7 rfl (by decide) _ m.words.length _ rfl p3 _ [[Value.string nm, .int .i64 x.2.1, .int .i64 x.2.2.1, .int .u32 x.2.2.2.1, .slice ao x.2.2.2.2.length ko]] rfl (slc_one q6 [Value.string nm, .int .i64 x.2.1, .int .i64 x.2.2.1, .int .u32 x.2.2.2.1, .slice ao x.2.2.2.2.length ko] 51 5 rfl) one (by unfold maxLen; simp only [List.length_singleton]; omega) (by simp only [List.length_singleton]; omega) (Nat.le_trans hq5 bX.size) ?_; intro v9 w9 ho9 hg9; obtain ⟨a9, c9, rfl⟩ := own_form ho9; have so9 := Stands.grown (so6.below bX) hg9 (stands_apart (so6.below bX) p3 (by decide)); have y2 := so9.cell 2 _ rfl; have yg := so9.free 2)
        have kW := Kept.own p3 hg9
        have sm9 := (Stands.grown (sm6.below bX) hg9 (stands_apart (sm6.below bX) p3 (by decide))).other (b' := BO) 2 (.slice a9 (m.words.length + [[Value.string nm, .int .i64 x.2.1, .int .i64 x.2.2.1, .int .u32 x.2.2.2.1, .slice ao x.2.2.2.2.length ko]].length) c9) (by omega)
        have sz9 := (Stands.grown (sz6.below bX) hg9 (stands_apart (sz6.below bX) p3 (by decide))).other (b' := BO) 2 (.slice a9 (m.words.length + [[Value.string nm, .int .i64 x.2.1, .int .i64 x.2.2.1, .int .u32 x.2.2.2.1, .slice ao x.2.2.2.2.length ko]].length) c9) (by omega)
        have oM9 := OwM.grewW (OM6.out.below bX) kW (OwnR.snoc (e := 51) (wrdO_apt (by decide)) P1.out P2.out p3 P4.out rfl HX.out (by simpa using ho9) hg9)
        have oMF := OwM.le (Nat.le_trans bw.size b12.size) (oM9.kept (set_kept so9 2 (.slice a9 (m.words.length + [[Value.string nm, .int .i64 x.2.1, .int .i64 x.2.2.1, .int .u32 x.2.2.2.1, .slice ao x.2.2.2.2.length ko]].length) c9)) (by decide) (by decide) (by decide) (by decide) (by decide) (by decide) (by decide) (by decide))
        have soF := so9.set 2 (.slice a9 (m.words.length + [[Value.string nm, .int .i64 x.2.1, .int .i64 x.2.2.1, .int .u32 x.2.2.2.1, .slice ao x.2.2.2.2.length ko]].length) c9)
        have BF := below_set (below_grown (below_trans B6 bX) hg9 (fun q hq => Nat.le_trans (Nat.le_trans bw.size b12.size) (p3.lt q hq).1)) BO 2 (.slice a9 (m.words.length + [[Value.string nm, .int .i64 x.2.1, .int .i64 x.2.2.1, .int .u32 x.2.2.2.1, .slice ao x.2.2.2.2.length ko]].length) c9) (by omega)
        generalize w9.setCell ⟨BO, 2, none⟩ (.slice a9 (m.words.length + [[Value.string nm, .int .i64 x.2.1, .int .i64 x.2.2.1, .int .u32 x.2.2.2.1, .slice ao x.2.2.2.2.length ko]].length) c9) = q9 at sm9 sz9 oMF soF BF ⊢
        have soF : Stands q9 BO #[.slice a0 m.stack.length k0, .slice a1 m.mem.length k1, (.slice a9 (m.words.length + 1) c9), .slice a3 m.codes.length k3, .int .u32 m.base, .slice a5 m.tree.length k5, .int .i64 m.node, .slice a7 m.insts.length k7, .int .i64 m.self, .string o] 32 := soF
        have u0 := soF.cell 0 _ rfl
        have u1 := soF.cell 1 _ rfl
        have u2 := soF.cell 2 _ rfl
        have u3 := soF.cell 3 _ rfl
        have u4 := soF.cell 4 _ rfl
        have u5 := soF.cell 5 _ rfl
        have u6 := soF.cell 6 _ rfl
        have u7 := soF.cell 7 _ rfl
        have u8 := soF.cell 8 _ rfl
        have u9 := soF.cell 9 _ rfl
        obtain ⟨f0', f1', f2', f3', f4', f5', f6', f7', f8', f9'⟩ := mch_cells sm9
        have z0 := sz9.cell 0 _ rfl
        have z1 := sz9.cell 1 _ rfl
        have z2 := sz9.cell 2 _ rfl
        have z3 := sz9.cell 3 _ rfl
        have z4 := sz9.cell 4 _ rfl
        have z5 := sz9.cell 5 _ rfl
        have z6 := sz9.cell 6 _ rfl
        have z7 := sz9.cell 7 _ rfl
        have z8 := sz9.cell 8 _ rfl
        have z9 := sz9.cell 9 _ rfl
        have zf := sz9.free
        obtain ⟨g1, g2⟩ := set10 sz9 (.slice a0 m.stack.length k0) (.slice a1 m.mem.length k1) (.slice a9 (m.words.length + 1) c9) (.slice a3 m.codes.length k3) (.int .u32 m.base) (.slice a5 m.tree.length k5) (.int .i64 m.node) (.slice a7 m.insts.length k7) (.int .i64 m.self) (.string o)
        have G1 := hid g1
        have GM := hid (g2 (fun u => OwM w.heap.size u ⟨.slice a0 m.stack.length k0, .slice a1 m.mem.length k1, (.slice a9 (m.words.length + 1) c9), .slice a3 m.codes.length k3, .slice a5 m.tree.length k5, .slice a7 m.insts.length k7⟩ { m with words := m.words ++ [x] } o) (fun u u' kk q => q.kept kk (by decide) (by decide) (by decide) (by decide) (by decide) (by decide) (by decide) (by decide)) oMF)
        have J7 : Hid (Below w.heap.size w _) := below_set (below_set (below_set (below_set (below_set (below_set (below_set (below_set (below_set (below_set (BF) (w.heap.size + 1 + 1) 0 (.slice a0 m.stack.length k0) (by omega)) (w.heap.size + 1 + 1) 1 (.slice a1 m.mem.length k1) (by omega)) (w.heap.size + 1 + 1) 2 (.slice a9 (m.words.length + 1) c9) (by omega)) (w.heap.size + 1 + 1) 3 (.slice a3 m.codes.length k3) (by omega)) (w.heap.size + 1 + 1) 4 (.int .u32 m.base) (by omega)) (w.heap.size + 1 + 1) 5 (.slice a5 m.tree.length k5) (by omega)) (w.heap.size + 1 + 1) 6 (.int .i64 m.node) (by omega)) (w.heap.size + 1 + 1) 7 (.slice a7 m.insts.length k7) (by omega)) (w.heap.size + 1 + 1) 8 (.int .i64 m.self) (by omega)) (w.heap.size + 1 + 1) 9 (.string o) (by omega)
        clear g1 g2 oMF BF KM KW KZ cf cw cc co sm9 sz9 soF p3 ho9 hg9 kW oM9 so9 y2 yg
        go_region
        all_goals (
          go_wp2_with fail
          (try simp only [Exit.inBlock, Exit.then])
          refine bodyPost_ret (results_row3 rfl _ _ (w.heap.size + 1 + 1) 32 _ (0, 0) _ rfl (G1.out.below (below_drewN (Below.refl _ _) 1)) Try.underlying32 rfl (show _ = some 10 by kernel_rfl)) rfl ?_
          exact ⟨⟨.slice a0 m.stack.length k0, .slice a1 m.mem.length k1, (.slice a9 (m.words.length + 1) c9), .slice a3 m.codes.length k3, .slice a5 m.tree.length k5, .slice a7 m.insts.length k7⟩, o, rfl, GM.out.below (below_drewN (Below.refl _ _) 1), below_drewN J7.out 1⟩)

/-
  Same of the document's answer for machines.
-/
theorem rd_max {k : IntKind} {w : World} {v : Value} {xs : List Int} (h : Rd k w v xs) : xs.length ≤ maxLen := by
  obtain ⟨ao, cap, _, h1, _, h2⟩ := rd_form h
  by_cases g : 0 < xs.length
  · exact Nat.le_trans h1 (h2 g).1
  · omega

set_option maxHeartbeats 4000000 in
set_option maxRecDepth 100000 in
theorem w_r9same (a b : Mc) (va vb : Mv) (oa ob : ByteArray) (w : World) (ha : RdM w va a oa) (hb : RdM w vb b ob) (ya : byM a) (yb : byM b) :
    Calls Try.prog 10 #[.agg (va.cs a oa), .agg (vb.cs b ob)] w fun e w' => e = .returned (.bool (eqM a b)) ∧ Below w.heap.size w w' := by
  obtain ⟨s1, s2, bw⟩ := two_boxes w (va.cs a oa) (vb.cs b ob) 32
  have cB := fun W (g : Below w.heap.size w W) => w_r9but a b va vb oa ob W (ha.below g) (hb.below g) ya yb
  have lc1 := rd_len ha.codes uJ (P := Try.prog)
  have lc2 := rd_len hb.codes uJ (P := Try.prog)
  have mc1 := (rd_max ha.codes)
  unfold maxLen at mc1
  obtain ⟨R, hR⟩ : ∃ R, eqM a b = R := ⟨_, rfl⟩
  rw [hR]
  unfold eqM at hR
  obtain ⟨f0, f1, f2, f3, f4, f5, f6, f7, f8, f9⟩ := mch_cells s1
  obtain ⟨g0, g1, g2, g3, g4, g5, g6, g7, g8, g9⟩ := mch_cells s2
  have K1 := fun q (g : Below ((w.alloc (.cells (va.cs a oa) 32)).alloc (.cells (vb.cs b ob) 32)).heap.size ((w.alloc (.cells (va.cs a oa) 32)).alloc (.cells (vb.cs b ob) 32)) q) => mch_cells (s1.below g)
  have K2 := fun q (g : Below ((w.alloc (.cells (va.cs a oa) 32)).alloc (.cells (vb.cs b ob) 32)).heap.size ((w.alloc (.cells (va.cs a oa) 32)).alloc (.cells (vb.cs b ob) 32)) q) => mch_cells (s2.below g)
  by_cases hl : a.codes.length = b.codes.length
  · have q1 : ((a.codes.length : Int) != (b.codes.length : Int)) = false := by simp [hl]
    have HL := hid hl
    have HR := hid hR
    clear hl hR
    go_enter Try.func10, Try.ntmps10
    go_upto_region 1 with fail
    generalize ((w.alloc (.cells (va.cs a oa) 32)).alloc (.cells (vb.cs b ob) 32)) = W0 at s1 s2 bw f0 f1 f2 f3 f4 f5 f6 f7 f8 f9 g0 g1 g2 g3 g4 g5 g6 g7 g8 g9 K1 K2 ⊢
    go_wp2_with fail
    go_loopw [5] (fun I wx => ∃ k : Nat, (k : Int) ≤ a.codes.length ∧ I = .int .i64 k ∧ Hid (a.codes.take k = b.codes.take k) ∧ Dr W0 wx) (fun I _ => (a.codes.length - intOf I).toNat)
    case atStart => exact ⟨0, by omega, rfl, hid (by simp), dr_refl _⟩
    case round =>
      obtain ⟨k, hk, rfl, ht, hd⟩ := hrel
      obtain ⟨x0, x1, x2, x3, x4, x5, x6, x7, x8, x9⟩ := K1 _ (dr_below hd)
      obtain ⟨y0, y1, y2, y3, y4, y5, y6, y7, y8, y9⟩ := K2 _ (dr_below hd)
      have e4 := below_trans bw (dr_below hd)
      by_cases hlt : (k : Int) < a.codes.length
      · have hka : k < a.codes.length := by omega
        have hkb : k < b.codes.length := by have := HL.out; omega
        have hkbI : (k : Int) < b.codes.length := by omega
        obtain ⟨ad, r1, c1⟩ := rd_idx (ha.codes.below e4) uJ zJ (k : Int) (by omega) hlt
        obtain ⟨ad2, r2, c2⟩ := rd_idx (hb.codes.below e4) uJ zJ (k : Int) (by omega) hkbI
        rw [Int.toNat_natCast, List.getD_eq_getElem?_getD, List.getElem?_eq_getElem hka, Option.getD_some] at c1
        rw [Int.toNat_natCast, List.getD_eq_getElem?_getD, List.getElem?_eq_getElem hkb, Option.getD_some] at c2
        obtain ⟨X, hX⟩ : ∃ X, a.codes[k] = X := ⟨_, rfl⟩
        obtain ⟨Y, hY⟩ : ∃ X, b.codes[k] = X := ⟨_, rfl⟩
        rw [hX] at c1
        rw [hY] at c2
        by_cases hxy : X = Y
        · have ht2 : Hid (a.codes.take (k + 1) = b.codes.take (k + 1)) := by
            show _ = _
            rw [List.take_succ_eq_append_getElem hka, List.take_succ_eq_append_getElem hkb, ht.out, hX, hY, hxy]
          have q : (X != Y) = false := by simp [hxy]
          clear hxy hX hY ht
          go_wp2_with fail
          go_quiet (fail)
          go_wp2_with fail
          go_roundw
          case rel => exact ⟨k + 1, by omega, by go_num, ht2, dr_more hd _⟩
          case measure => simp [intOf]; omega
        · have hf : Hid (R = false) := by
            show _ = _
            rw [← HR.out, decide_eq_false (fun g => hxy (by rw [← hX, ← hY]; simp only [g])), Bool.false_and]
          have q : (X != Y) = true := by simpa using hxy
          clear hxy hX hY ht HR
          go_wp2_with fail
          go_quiet (fail)
          go_wp2_with fail
          go_ret
          exact ⟨ret_b hf.out.symm, below_trans bw (dr_below (dr_more hd _))⟩
      · have hf : Hid (eqB a b = R) := by
          show _ = _
          have := ht.out
          rw [List.take_of_length_le (by omega), List.take_of_length_le (by have := HL.out; omega)] at this
          rw [← HR.out, decide_eq_true this, Bool.true_and]
        clear ht HR
        go_wp2_with (go_at_call 33; refine (cB _ e4).mono ?_; rintro e r9 ⟨rfl, b9⟩)
        go_ret
        exact ⟨ret_b hf.out, below_trans e4 b9⟩
  · have q1 : ((a.codes.length : Int) != (b.codes.length : Int)) = true := by simp; omega
    have hf : Hid (R = false) := by
      show _ = _
      rw [← hR, decide_eq_false (fun g => hl (by rw [g])), Bool.false_and]
    clear hl hR K1 K2 cB
    go_enter Try.func10, Try.ntmps10
    go_wp2_with fail
    go_ret
    exact ⟨ret_b hf.out.symm, bw⟩

/-
  What the walks of layer 9's statements want besides.
-/
theorem w_r9eq (a : Mc) (va vb : Mv) (oa ob : ByteArray) (w : World) (ha : RdM w va a oa) (hb : RdM w vb a ob) (g : gM a) :
    Calls Try.prog 10 #[.agg (va.cs a oa), .agg (vb.cs a ob)] w fun e w' => e = .returned (.bool true) ∧ Below w.heap.size w w' := by
  have := w_r9same a a va vb oa ob w ha hb g.by' g.by'
  rw [eqM_refl] at this
  exact this
theorem str_nil {s : ByteArray} {l : List Int} (e : strOfNums l = s) (h : bytesL l) (hn : ¬ l = []) : ¬ s.toList = [] := by
  intro c
  have := str_eq8 s ⟨#[]⟩ l [] h (fun _ hx => by cases hx) e rfl
  rw [decide_eq_false hn, c, nil_toList] at this
  exact absurd this (by decide)
theorem neq_prm (w : World) (S : ByteArray) (B : Int) : (binOp .neq 37 (.agg #[.string S, .int .i64 B]) (.agg #[.string S, .int .i64 B])).run Try.prog w = .ok (.bool false) w := by
  rw [run_neq_struct, equalIn_st2 (a := 9) (b := 3) (s0 := "Name") (s1 := "Code") w (by kernel_rfl) (by kernel_rfl) (by kernel_rfl) (by decide) (by decide) (by kernel_rfl) (by kernel_rfl) (fun w => run_equalIn_string w 9998 9 S S Try.underlying9) (fun w => run_equalIn_int w 9998 3 .i64 .i64 B B Try.underlying3)]
  simp [Result.andThen_ok]
theorem grd_prm : Try.prog.eqGuardType Try.prog.depth 37 = false := by kernel_rfl
theorem slr_prm {w : World} {v : Value} (h : SlR 2 prmR w v prmL) : ∃ a k, v = .slice a 111 k := by
  obtain ⟨a, k, e⟩ := slr_slice h
  rw [prm_len] at e
  exact ⟨a, k, e⟩

end Go.Proofs.Ytfljcfpcokimcaa
