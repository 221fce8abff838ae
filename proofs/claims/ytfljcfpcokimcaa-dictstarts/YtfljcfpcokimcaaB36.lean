/-
  Texts of one proof, laid one behind the other: Dpa.
-/
import Derived.Test.YtfljcfpcokimcaaB35
namespace Go.Proofs.Ytfljcfpcokimcaa
open Go.ChangeShapes Go.WideShapes Go.ChangeAt Go.RowKit
set_option linter.unusedVariables false
set_option linter.unusedSimpArgs false

/-
  Package dict's Bind.
-/
set_option maxHeartbeats 4000000 in
set_option maxRecDepth 100000 in
theorem w_p9bindO (m : Mc) (v : Mv) (o : ByteArray) (code xt : Int) (w : World) (h : RdM w v m o) (z : gM m) (hcw : (Lit.int .i64 code).wf = true) :
    Calls Try.prog 31 #[.agg (v.cs m o), .int .i64 code, .int .i64 xt] w fun e w' => ∃ v1 o1, e = .returned (.tuple #[.agg (Mv.cs v1 (bndF m code xt).1 o1), .int .i64 (bndF m code xt).2]) ∧ OwM w.heap.size w' v1 (bndF m code xt).1 o1 ∧ Below w.heap.size w w' := by
  have cf := fun W (b : Below w.heap.size w W) => w_p9formed' m v o W (h.below b) z
  have cc := fun W (b : Below w.heap.size w W) => w_p9copyO m v o W (h.below b) z
  have lw := slr_len h.words uW (P := Try.prog)
  have mw2 : (m.words.length : Int) ≤ 3000000000000 := by have := z.wordsZ; omega
  have s0 := (stands_new w (v.cs m o) 32).below (box_below _ (.cells #[.slice none 0 0, .slice none 0 0, .slice none 0 0, .slice none 0 0, .int .u32 0, .slice none 0 0, .int .i64 0, .slice none 0 0, .int .i64 0, .string ⟨#[]⟩] 32))
  have s2 := stands_new (w.alloc (.cells (v.cs m o) 32)) #[.slice none 0 0, .slice none 0 0, .slice none 0 0, .slice none 0 0, .int .u32 0, .slice none 0 0, .int .i64 0, .slice none 0 0, .int .i64 0, .string ⟨#[]⟩] 32
  rw [size_al] at s2
  have bw := below_trans (box_below w (.cells (v.cs m o) 32)) (box_below _ (.cells #[.slice none 0 0, .slice none 0 0, .slice none 0 0, .slice none 0 0, .int .u32 0, .slice none 0 0, .int .i64 0, .slice none 0 0, .int .i64 0, .string ⟨#[]⟩] 32))
  by_cases c1 : frmM m = false
  · have hB : bndF m code xt = (nilM, 1) := by unfold bndF; rw [if_pos c1]
    rw [hB]
    simp only [c1] at cf
    go_enter Try.func31, Try.ntmps31
    go_upto_region 1 with fail
    generalize (w.alloc (.cells (v.cs m o) 32)).alloc (.cells #[.slice none 0 0, .slice none 0 0, .slice none 0 0, .slice none 0 0, .int .u32 0, .slice none 0 0, .int .i64 0, .slice none 0 0, .int .i64 0, .string ⟨#[]⟩] 32) = W0 at s0 s2 bw ⊢
    have KM := fun q (b : Below W0.heap.size W0 q) => mch_cells9 (s0.below b)
    have KZ := fun q (b : Below W0.heap.size W0 q) => s2.below b
    obtain ⟨f0, f1, f2, f3, f4, f5, f6, f7, f8, f9⟩ := KM _ (Below.refl _ _)
    go_wp2_with (go_at_call 18; refine (cf _ bw).mono ?_; rintro e q1 ⟨rfl, b1⟩; obtain ⟨m0_1, m1_1, m2_1, m3_1, m4_1, m5_1, m6_1, m7_1, m8_1, m9_1⟩ := KM _ b1; have sz1 := KZ _ b1; have z0_1 := sz1.cell 0 _ rfl; have z1_1 := sz1.cell 1 _ rfl; have z2_1 := sz1.cell 2 _ rfl; have z3_1 := sz1.cell 3 _ rfl; have z4_1 := sz1.cell 4 _ rfl; have z5_1 := sz1.cell 5 _ rfl; have z6_1 := sz1.cell 6 _ rfl; have z7_1 := sz1.cell 7 _ rfl; have z8_1 := sz1.cell 8 _ rfl; have z9_1 := sz1.cell 9 _ rfl; have zf1 := sz1.free)
    obtain ⟨k1, k2⟩ := set10 sz1 (.slice none 0 0) (.slice none 0 0) (.slice none 0 0) (.slice none 0 0) (.int .u32 0) (.slice none 0 0) (.int .i64 0) (.slice none 0 0) (.int .i64 0) (.string ⟨#[]⟩)
    have J7 := below_set (below_set (below_set (below_set (below_set (below_set (below_set (below_set (below_set (below_set (below_trans bw b1) (w.heap.size + 1) 0 (.slice none 0 0) (by omega)) (w.heap.size + 1) 1 (.slice none 0 0) (by omega)) (w.heap.size + 1) 2 (.slice none 0 0) (by omega)) (w.heap.size + 1) 3 (.slice none 0 0) (by omega)) (w.heap.size + 1) 4 (.int .u32 0) (by omega)) (w.heap.size + 1) 5 (.slice none 0 0) (by omega)) (w.heap.size + 1) 6 (.int .i64 0) (by omega)) (w.heap.size + 1) 7 (.slice none 0 0) (by omega)) (w.heap.size + 1) 8 (.int .i64 0) (by omega)) (w.heap.size + 1) 9 (.string ⟨#[]⟩) (by omega)
    (try simp only [Exit.inBlock, Exit.then])
    refine bodyPost_ret (results_row2 rfl _ _ (w.heap.size + 1) 32 _ (0, 0) _ rfl k1 Try.underlying32 rfl (show _ = some 10 by kernel_rfl)) rfl ?_
    exact ⟨nilV, ⟨#[]⟩, rfl, own_nilM _ _, J7⟩
  · have c1t : frmM m = true := by simpa using c1
    simp only [c1t] at cf
    by_cases c2 : code < 2048
    · have hB : bndF m code xt = (nilM, 16) := by unfold bndF; rw [if_neg c1, if_pos (Or.inl c2)]
      rw [hB]
      go_enter Try.func31, Try.ntmps31
      go_upto_region 1 with fail
      generalize (w.alloc (.cells (v.cs m o) 32)).alloc (.cells #[.slice none 0 0, .slice none 0 0, .slice none 0 0, .slice none 0 0, .int .u32 0, .slice none 0 0, .int .i64 0, .slice none 0 0, .int .i64 0, .string ⟨#[]⟩] 32) = W0 at s0 s2 bw ⊢
      have KM := fun q (b : Below W0.heap.size W0 q) => mch_cells9 (s0.below b)
      have KZ := fun q (b : Below W0.heap.size W0 q) => s2.below b
      obtain ⟨f0, f1, f2, f3, f4, f5, f6, f7, f8, f9⟩ := KM _ (Below.refl _ _)
      go_wp2_with (go_at_call 18; refine (cf _ bw).mono ?_; rintro e q1 ⟨rfl, b1⟩; obtain ⟨m0_1, m1_1, m2_1, m3_1, m4_1, m5_1, m6_1, m7_1, m8_1, m9_1⟩ := KM _ b1; have sz1 := KZ _ b1; have z0_1 := sz1.cell 0 _ rfl; have z1_1 := sz1.cell 1 _ rfl; have z2_1 := sz1.cell 2 _ rfl; have z3_1 := sz1.cell 3 _ rfl; have z4_1 := sz1.cell 4 _ rfl; have z5_1 := sz1.cell 5 _ rfl; have z6_1 := sz1.cell 6 _ rfl; have z7_1 := sz1.cell 7 _ rfl; have z8_1 := sz1.cell 8 _ rfl; have z9_1 := sz1.cell 9 _ rfl; have zf1 := sz1.free)
      obtain ⟨k1, k2⟩ := set10 sz1 (.slice none 0 0) (.slice none 0 0) (.slice none 0 0) (.slice none 0 0) (.int .u32 0) (.slice none 0 0) (.int .i64 0) (.slice none 0 0) (.int .i64 0) (.string ⟨#[]⟩)
      have J7 := below_set (below_set (below_set (below_set (below_set (below_set (below_set (below_set (below_set (below_set (below_trans bw b1) (w.heap.size + 1) 0 (.slice none 0 0) (by omega)) (w.heap.size + 1) 1 (.slice none 0 0) (by omega)) (w.heap.size + 1) 2 (.slice none 0 0) (by omega)) (w.heap.size + 1) 3 (.slice none 0 0) (by omega)) (w.heap.size + 1) 4 (.int .u32 0) (by omega)) (w.heap.size + 1) 5 (.slice none 0 0) (by omega)) (w.heap.size + 1) 6 (.int .i64 0) (by omega)) (w.heap.size + 1) 7 (.slice none 0 0) (by omega)) (w.heap.size + 1) 8 (.int .i64 0) (by omega)) (w.heap.size + 1) 9 (.string ⟨#[]⟩) (by omega)
      (try simp only [Exit.inBlock, Exit.then])
      refine bodyPost_ret (results_row2 rfl _ _ (w.heap.size + 1) 32 _ (0, 0) _ rfl k1 Try.underlying32 rfl (show _ = some 10 by kernel_rfl)) rfl ?_
      exact ⟨nilV, ⟨#[]⟩, rfl, own_nilM _ _, J7⟩
    · by_cases c3 : 4095 < code
      · have hB : bndF m code xt = (nilM, 16) := by unfold bndF; rw [if_neg c1, if_pos (Or.inr c3)]
        rw [hB]
        go_enter Try.func31, Try.ntmps31
        go_upto_region 1 with fail
        generalize (w.alloc (.cells (v.cs m o) 32)).alloc (.cells #[.slice none 0 0, .slice none 0 0, .slice none 0 0, .slice none 0 0, .int .u32 0, .slice none 0 0, .int .i64 0, .slice none 0 0, .int .i64 0, .string ⟨#[]⟩] 32) = W0 at s0 s2 bw ⊢
        have KM := fun q (b : Below W0.heap.size W0 q) => mch_cells9 (s0.below b)
        have KZ := fun q (b : Below W0.heap.size W0 q) => s2.below b
        obtain ⟨f0, f1, f2, f3, f4, f5, f6, f7, f8, f9⟩ := KM _ (Below.refl _ _)
        go_wp2_with (go_at_call 18; refine (cf _ bw).mono ?_; rintro e q1 ⟨rfl, b1⟩; obtain ⟨m0_1, m1_1, m2_1, m3_1, m4_1, m5_1, m6_1, m7_1, m8_1, m9_1⟩ := KM _ b1; have sz1 := KZ _ b1; have z0_1 := sz1.cell 0 _ rfl; have z1_1 := sz1.cell 1 _ rfl; have z2_1 := sz1.cell 2 _ rfl; have z3_1 := sz1.cell 3 _ rfl; have z4_1 := sz1.cell 4 _ rfl; have z5_1 := sz1.cell 5 _ rfl; have z6_1 := sz1.cell 6 _ rfl; have z7_1 := sz1.cell 7 _ rfl; have z8_1 := sz1.cell 8 _ rfl; have z9_1 := sz1.cell 9 _ rfl; have zf1 := sz1.free)
        obtain ⟨k1, k2⟩ := set10 sz1 (.slice none 0 0) (.slice none 0 0) (.slice none 0 0) (.slice none 0 0) (.int .u32 0) (.slice none 0 0) (.int .i64 0) (.slice none 0 0) (.int .i64 0) (.string ⟨#[]⟩)
        have J7 := below_set (below_set (below_set (below_set (below_set (below_set (below_set (below_set (below_set (below_set (below_trans bw b1) (w.heap.size + 1) 0 (.slice none 0 0) (by omega)) (w.heap.size + 1) 1 (.slice none 0 0) (by omega)) (w.heap.size + 1) 2 (.slice none 0 0) (by omega)) (w.heap.size + 1) 3 (.slice none 0 0) (by omega)) (w.heap.size + 1) 4 (.int .u32 0) (by omega)) (w.heap.size + 1) 5 (.slice none 0 0) (by omega)) (w.heap.size + 1) 6 (.int .i64 0) (by omega)) (w.heap.size + 1) 7 (.slice none 0 0) (by omega)) (w.heap.size + 1) 8 (.int .i64 0) (by omega)) (w.heap.size + 1) 9 (.string ⟨#[]⟩) (by omega)
        (try simp only [Exit.inBlock, Exit.then])
        refine bodyPost_ret (results_row2 rfl _ _ (w.heap.size + 1) 32 _ (0, 0) _ rfl k1 Try.underlying32 rfl (show _ = some 10 by kernel_rfl)) rfl ?_
        exact ⟨nilV, ⟨#[]⟩, rfl, own_nilM _ _, J7⟩
      · by_cases c4 : xt < 0
        · have hB : bndF m code xt = (nilM, 2) := by unfold bndF; rw [if_neg c1, if_neg (by omega), if_pos (Or.inl c4)]
          rw [hB]
          go_enter Try.func31, Try.ntmps31
          go_upto_region 1 with fail
          generalize (w.alloc (.cells (v.cs m o) 32)).alloc (.cells #[.slice none 0 0, .slice none 0 0, .slice none 0 0, .slice none 0 0, .int .u32 0, .slice none 0 0, .int .i64 0, .slice none 0 0, .int .i64 0, .string ⟨#[]⟩] 32) = W0 at s0 s2 bw ⊢
          have KM := fun q (b : Below W0.heap.size W0 q) => mch_cells9 (s0.below b)
          have KZ := fun q (b : Below W0.heap.size W0 q) => s2.below b
          obtain ⟨f0, f1, f2, f3, f4, f5, f6, f7, f8, f9⟩ := KM _ (Below.refl _ _)
          go_wp2_with (go_at_call 18; refine (cf _ bw).mono ?_; rintro e q1 ⟨rfl, b1⟩; obtain ⟨m0_1, m1_1, m2_1, m3_1, m4_1, m5_1, m6_1, m7_1, m8_1, m9_1⟩ := KM _ b1; have sz1 := KZ _ b1; have z0_1 := sz1.cell 0 _ rfl; have z1_1 := sz1.cell 1 _ rfl; have z2_1 := sz1.cell 2 _ rfl; have z3_1 := sz1.cell 3 _ rfl; have z4_1 := sz1.cell 4 _ rfl; have z5_1 := sz1.cell 5 _ rfl; have z6_1 := sz1.cell 6 _ rfl; have z7_1 := sz1.cell 7 _ rfl; have z8_1 := sz1.cell 8 _ rfl; have z9_1 := sz1.cell 9 _ rfl; have zf1 := sz1.free)
          obtain ⟨k1, k2⟩ := set10 sz1 (.slice none 0 0) (.slice none 0 0) (.slice none 0 0) (.slice none 0 0) (.int .u32 0) (.slice none 0 0) (.int .i64 0) (.slice none 0 0) (.int .i64 0) (.string ⟨#[]⟩)
          have J7 := below_set (below_set (below_set (below_set (below_set (below_set (below_set (below_set (below_set (below_set (below_trans bw b1) (w.heap.size + 1) 0 (.slice none 0 0) (by omega)) (w.heap.size + 1) 1 (.slice none 0 0) (by omega)) (w.heap.size + 1) 2 (.slice none 0 0) (by omega)) (w.heap.size + 1) 3 (.slice none 0 0) (by omega)) (w.heap.size + 1) 4 (.int .u32 0) (by omega)) (w.heap.size + 1) 5 (.slice none 0 0) (by omega)) (w.heap.size + 1) 6 (.int .i64 0) (by omega)) (w.heap.size + 1) 7 (.slice none 0 0) (by omega)) (w.heap.size + 1) 8 (.int .i64 0) (by omega)) (w.heap.size + 1) 9 (.string ⟨#[]⟩) (by omega)
          (try simp only [Exit.inBlock, Exit.then])
          refine bodyPost_ret (results_row2 rfl _ _ (w.heap.size + 1) 32 _ (0, 0) _ rfl k1 Try.underlying32 rfl (show _ = some 10 by kernel_rfl)) rfl ?_
          exact ⟨nilV, ⟨#[]⟩, rfl, own_nilM _ _, J7⟩
        · by_cases c5 : (m.words.length : Int) ≤ xt
          · have hB : bndF m code xt = (nilM, 2) := by unfold bndF; rw [if_neg c1, if_neg (by omega), if_pos (Or.inr c5)]
            rw [hB]
            go_enter Try.func31, Try.ntmps31
            go_upto_region 1 with fail
            generalize (w.alloc (.cells (v.cs m o) 32)).alloc (.cells #[.slice none 0 0, .slice none 0 0, .slice none 0 0, .slice none 0 0, .int .u32 0, .slice none 0 0, .int .i64 0, .slice none 0 0, .int .i64 0, .string ⟨#[]⟩] 32) = W0 at s0 s2 bw ⊢
            have KM := fun q (b : Below W0.heap.size W0 q) => mch_cells9 (s0.below b)
            have KZ := fun q (b : Below W0.heap.size W0 q) => s2.below b
            obtain ⟨f0, f1, f2, f3, f4, f5, f6, f7, f8, f9⟩ := KM _ (Below.refl _ _)
            go_wp2_with (go_at_call 18; refine (cf _ bw).mono ?_; rintro e q1 ⟨rfl, b1⟩; obtain ⟨m0_1, m1_1, m2_1, m3_1, m4_1, m5_1, m6_1, m7_1, m8_1, m9_1⟩ := KM _ b1; have sz1 := KZ _ b1; have z0_1 := sz1.cell 0 _ rfl; have z1_1 := sz1.cell 1 _ rfl; have z2_1 := sz1.cell 2 _ rfl; have z3_1 := sz1.cell 3 _ rfl; have z4_1 := sz1.cell 4 _ rfl; have z5_1 := sz1.cell 5 _ rfl; have z6_1 := sz1.cell 6 _ rfl; have z7_1 := sz1.cell 7 _ rfl; have z8_1 := sz1.cell 8 _ rfl; have z9_1 := sz1.cell 9 _ rfl; have zf1 := sz1.free)
            obtain ⟨k1, k2⟩ := set10 sz1 (.slice none 0 0) (.slice none 0 0) (.slice none 0 0) (.slice none 0 0) (.int .u32 0) (.slice none 0 0) (.int .i64 0) (.slice none 0 0) (.int .i64 0) (.string ⟨#[]⟩)
            have J7 := below_set (below_set (below_set (below_set (below_set (below_set (below_set (below_set (below_set (below_set (below_trans bw b1) (w.heap.size + 1) 0 (.slice none 0 0) (by omega)) (w.heap.size + 1) 1 (.slice none 0 0) (by omega)) (w.heap.size + 1) 2 (.slice none 0 0) (by omega)) (w.heap.size + 1) 3 (.slice none 0 0) (by omega)) (w.heap.size + 1) 4 (.int .u32 0) (by omega)) (w.heap.size + 1) 5 (.slice none 0 0) (by omega)) (w.heap.size + 1) 6 (.int .i64 0) (by omega)) (w.heap.size + 1) 7 (.slice none 0 0) (by omega)) (w.heap.size + 1) 8 (.int .i64 0) (by omega)) (w.heap.size + 1) 9 (.string ⟨#[]⟩) (by omega)
            (try simp only [Exit.inBlock, Exit.then])
            refine bodyPost_ret (results_row2 rfl _ _ (w.heap.size + 1) 32 _ (0, 0) _ rfl k1 Try.underlying32 rfl (show _ = some 10 by kernel_rfl)) rfl ?_
            exact ⟨nilV, ⟨#[]⟩, rfl, own_nilM _ _, J7⟩
          · have hD : bndF m code xt = ({ m with codes := bdcF m.codes (code - 2048).toNat xt }, 0) := by unfold bndF; rw [if_neg c1, if_neg (by omega), if_neg (by omega)]
            rw [hD]
            have hcl : (m.codes.length : Int) ≤ 2048 := by
              have hh := c1t
              unfold frmM cdsF at hh
              simp only [Bool.and_eq_true, decide_eq_true_eq] at hh
              omega
            obtain ⟨K, hK⟩ : ∃ K : Nat, code - 2048 = K := ⟨(code - 2048).toNat, by omega⟩
            have hK3 : (K : Int) ≤ 2047 := by omega
            rw [hK, Int.toNat_natCast]
            have HK := hid hK
            go_enter Try.func31, Try.ntmps31
            go_upto_region 1 with fail
            generalize (w.alloc (.cells (v.cs m o) 32)).alloc (.cells #[.slice none 0 0, .slice none 0 0, .slice none 0 0, .slice none 0 0, .int .u32 0, .slice none 0 0, .int .i64 0, .slice none 0 0, .int .i64 0, .string ⟨#[]⟩] 32) = W0 at s0 s2 bw ⊢
            have KM := fun q (b : Below W0.heap.size W0 q) => mch_cells9 (s0.below b)
            have KZ := fun q (b : Below W0.heap.size W0 q) => s2.below b
            obtain ⟨f0, f1, f2, f3, f4, f5, f6, f7, f8, f9⟩ := KM _ (Below.refl _ _)
            go_wp2_with (first | (go_at_call 18; refine (cf _ bw).mono ?_; rintro e q1 ⟨rfl, b1⟩; obtain ⟨m0_1, m1_1, m2_1, m3_1, m4_1, m5_1, m6_1, m7_1, m8_1, m9_1⟩ := KM _ b1; have sz1 := KZ _ b1; have z0_1 := sz1.cell 0 _ rfl; have z1_1 := sz1.cell 1 _ rfl; have z2_1 := sz1.cell 2 _ rfl; have z3_1 := sz1.cell 3 _ rfl; have z4_1 := sz1.cell 4 _ rfl; have z5_1 := sz1.cell 5 _ rfl; have z6_1 := sz1.cell 6 _ rfl; have z7_1 := sz1.cell 7 _ rfl; have z8_1 := sz1.cell 8 _ rfl; have z9_1 := sz1.cell 9 _ rfl; have zf1 := sz1.free) | (go_at_call 20; refine (cc _ (below_trans bw b1)).mono ?_; rintro e q3 ⟨v1, rfl, oM, b3⟩; obtain ⟨a0, k0, h0⟩ := own_form oM.stack; obtain ⟨a1, k1, h1⟩ := own_form oM.mem; obtain ⟨cs2, r2⟩ := oM.words.row; obtain ⟨a2, k2, h2⟩ := own_form r2; obtain ⟨a3, k3, h3⟩ := own_form oM.codes; obtain ⟨cs5, r5⟩ := oM.tree.row; obtain ⟨a5, k5, h5⟩ := own_form r5; obtain ⟨cs7, r7⟩ := oM.insts.row; obtain ⟨a7, k7, h7⟩ := own_form r7; obtain ⟨x0, x1, x2, x3, x5, x7⟩ := v1; (try dsimp only at h0 h1 h2 h3 h5 h7); subst h0 h1 h2 h3 h5 h7; simp only [Mv.cs]; have b13 := below_trans b1 b3; have sm3 : Stands q3 w.heap.size #[v.vs, v.vm, v.vw, v.vc, .int .u32 m.base, v.vt, .int .i64 m.node, v.vi, .int .i64 m.self, .string o] 32 := s0.below b13; have j0 := sm3.cell 0 _ rfl; have j1 := sm3.cell 1 _ rfl; have j2 := sm3.cell 2 _ rfl; have j3 := sm3.cell 3 _ rfl; have j4 := sm3.cell 4 _ rfl; have j5 := sm3.cell 5 _ rfl; have j6 := sm3.cell 6 _ rfl; have j7 := sm3.cell 7 _ rfl; have j8 := sm3.cell 8 _ rfl; have j9 := sm3.cell 9 _ rfl; have jf := sm3.free))
            obtain ⟨p1, p2⟩ := set10 sm3 (.slice a0 m.stack.length k0) (.slice a1 m.mem.length k1) (.slice a2 m.words.length k2) (.slice a3 m.codes.length k3) (.int .u32 m.base) (.slice a5 m.tree.length k5) (.int .i64 m.node) (.slice a7 m.insts.length k7) (.int .i64 m.self) (.string o)
            have oMq := p2 (fun u => OwM q1.heap.size u ⟨.slice a0 m.stack.length k0, .slice a1 m.mem.length k1, .slice a2 m.words.length k2, .slice a3 m.codes.length k3, .slice a5 m.tree.length k5, .slice a7 m.insts.length k7⟩ m o) (fun u u' kk q => q.kept kk (by decide) (by decide) (by decide) (by decide) (by decide) (by decide) (by decide) (by decide)) oM
            have sz4 := (((((((((((KZ _ b13).other (b' := w.heap.size) 0 (.slice a0 m.stack.length k0) (by omega)).other (b' := w.heap.size) 1 (.slice a1 m.mem.length k1) (by omega)).other (b' := w.heap.size) 2 (.slice a2 m.words.length k2) (by omega)).other (b' := w.heap.size) 3 (.slice a3 m.codes.length k3) (by omega)).other (b' := w.heap.size) 4 (.int .u32 m.base) (by omega)).other (b' := w.heap.size) 5 (.slice a5 m.tree.length k5) (by omega)).other (b' := w.heap.size) 6 (.int .i64 m.node) (by omega)).other (b' := w.heap.size) 7 (.slice a7 m.insts.length k7) (by omega)).other (b' := w.heap.size) 8 (.int .i64 m.self) (by omega)).other (b' := w.heap.size) 9 (.string o) (by omega))
            have B4 := (below_set (below_set (below_set (below_set (below_set (below_set (below_set (below_set (below_set (below_set (below_trans bw b13) w.heap.size 0 (.slice a0 m.stack.length k0) (Nat.le_refl _)) w.heap.size 1 (.slice a1 m.mem.length k1) (Nat.le_refl _)) w.heap.size 2 (.slice a2 m.words.length k2) (Nat.le_refl _)) w.heap.size 3 (.slice a3 m.codes.length k3) (Nat.le_refl _)) w.heap.size 4 (.int .u32 m.base) (Nat.le_refl _)) w.heap.size 5 (.slice a5 m.tree.length k5) (Nat.le_refl _)) w.heap.size 6 (.int .i64 m.node) (Nat.le_refl _)) w.heap.size 7 (.slice a7 m.insts.length k7) (Nat.le_refl _)) w.heap.size 8 (.int .i64 m.self) (Nat.le_refl _)) w.heap.size 9 (.string o) (Nat.le_refl _))
            have hq4 : q1.heap.size ≤ ((((((((((q3.setCell ⟨w.heap.size, 0, none⟩ (.slice a0 m.stack.length k0)).setCell ⟨w.heap.size, 1, none⟩ (.slice a1 m.mem.length k1)).setCell ⟨w.heap.size, 2, none⟩ (.slice a2 m.words.length k2)).setCell ⟨w.heap.size, 3, none⟩ (.slice a3 m.codes.length k3)).setCell ⟨w.heap.size, 4, none⟩ (.int .u32 m.base)).setCell ⟨w.heap.size, 5, none⟩ (.slice a5 m.tree.length k5)).setCell ⟨w.heap.size, 6, none⟩ (.int .i64 m.node)).setCell ⟨w.heap.size, 7, none⟩ (.slice a7 m.insts.length k7)).setCell ⟨w.heap.size, 8, none⟩ (.int .i64 m.self)).setCell ⟨w.heap.size, 9, none⟩ (.string o)).heap.size := by have := b3.size; simp only [World.setCell, Array.size_modify]; omega
            have hW0 : w.heap.size + 1 < W0.heap.size := (Array.getElem?_eq_some_iff.1 s2).1
            have hWq : W0.heap.size ≤ q1.heap.size := b1.size
            have so := p1
            clear p1 p2 j0 j1 j2 j3 j4 j5 j6 j7 j8 j9 jf sm3
            generalize ((((((((((q3.setCell ⟨w.heap.size, 0, none⟩ (.slice a0 m.stack.length k0)).setCell ⟨w.heap.size, 1, none⟩ (.slice a1 m.mem.length k1)).setCell ⟨w.heap.size, 2, none⟩ (.slice a2 m.words.length k2)).setCell ⟨w.heap.size, 3, none⟩ (.slice a3 m.codes.length k3)).setCell ⟨w.heap.size, 4, none⟩ (.int .u32 m.base)).setCell ⟨w.heap.size, 5, none⟩ (.slice a5 m.tree.length k5)).setCell ⟨w.heap.size, 6, none⟩ (.int .i64 m.node)).setCell ⟨w.heap.size, 7, none⟩ (.slice a7 m.insts.length k7)).setCell ⟨w.heap.size, 8, none⟩ (.int .i64 m.self)).setCell ⟨w.heap.size, 9, none⟩ (.string o)) = q4 at so oMq sz4 B4 hq4 ⊢
            obtain ⟨i9, hi9, hz9, hz8, hz7⟩ := info_parts infoJ
            clear KM KZ cf cc oM b1 b3 b13 s0 s2
            go_loopw [36] (fun C wx => ∃ (r : Nat) (vc : Value), Hid (r = 0 ∨ m.codes.length + r ≤ K + 1) ∧ Stands wx w.heap.size #[.slice a0 m.stack.length k0, .slice a1 m.mem.length k1, .slice a2 m.words.length k2, vc, .int .u32 m.base, .slice a5 m.tree.length k5, .int .i64 m.node, .slice a7 m.insts.length k7, .int .i64 m.self, .string o] 32 ∧ OwM q1.heap.size wx ⟨.slice a0 m.stack.length k0, .slice a1 m.mem.length k1, .slice a2 m.words.length k2, vc, .slice a5 m.tree.length k5, .slice a7 m.insts.length k7⟩ { m with codes := m.codes ++ List.replicate r (-1) } o ∧ Stands wx (w.heap.size + 1) #[.slice none 0 0, .slice none 0 0, .slice none 0 0, .slice none 0 0, .int .u32 0, .slice none 0 0, .int .i64 0, .slice none 0 0, .int .i64 0, .string ⟨#[]⟩] 32 ∧ q1.heap.size ≤ wx.heap.size ∧ Below w.heap.size w wx) (fun _ wx => 10000 - lenOf ((wx.cell? ⟨w.heap.size, 3, none⟩).getD (.slice none 0 0)))
            case atStart => exact ⟨0, _, hid (Or.inl rfl), so, by simpa using oMq, sz4, hq4, B4⟩
            case round =>
              clear so oMq sz4 B4
              obtain ⟨r, vc, hr, so, oM, sz, hq, hB⟩ := hrel
              have oC := oM.codes
              obtain ⟨C, hC⟩ : ∃ C, m.codes ++ List.replicate r (-1) = C := ⟨_, rfl⟩
              have oC : wr.ownsRow q1.heap.size 3 1 vc C.length (C.map (Value.int .i64)) := by rw [← hC]; exact oC
              have hCl : C.length = m.codes.length + r := by rw [← hC]; simp
              obtain ⟨ac, kc, rfl⟩ := own_form oC
              have u3 : wr.cell? ⟨w.heap.size, 3, none⟩ = some (.slice ac C.length kc) := so.cell 3 _ rfl
              have uf := so.free 3
              by_cases hle : (C.length : Int) ≤ K
              · have hCb : (C.length : Int) ≤ 4095 := by omega
                have so1 := so.below (box_below wr (.cells #[.int .i64 (-1)] 3))
                have oC1 := World.ownsRow.alloc oC (.cells #[.int .i64 (-1)] 3)
                have bx := box_below wr (.cells #[.int .i64 (-1)] 3)
                have OM := hid oM
                have HC := hid hC
                have HL := hid hCl
                clear oM hC hCl oC
                go_wp2_with (at_builtin; refine wpList_append_rd (k := .i64) rfl _ _ 27 rfl q1.heap.size 3 i9 8 Try.underlying27 hi9 hz9 hz8 hz7 _ C rfl oC1 _ [-1] rfl (rd_one _ (-1) 3) (by unfold maxLen; simp only [List.length_cons, List.length_nil]; omega) (by simp only [List.length_cons, List.length_nil]; omega) (Nat.le_trans hq bx.size) ?_; intro v9 w9 ho9 hg9; obtain ⟨a9, c9, rfl⟩ := own_form ho9; have so9 := Stands.grown so1 hg9 (stands_apart so1 oC1 (by decide)); have y3 := so9.cell 3 _ rfl; have yf := so9.free 3)
                have kC := Kept.own oC1 hg9
                have oM9 := OwM.grewC (vc := .slice a9 (C.length + 1) c9) (l := C ++ [-1]) (OM.out.below bx) kC (by simpa using ho9)
                have oMF := oM9.kept (set_kept so9 3 (.slice a9 (C.length + 1) c9)) (by decide) (by decide) (by decide) (by decide) (by decide) (by decide) (by decide) (by decide)
                have soF := so9.set 3 (.slice a9 (C.length + 1) c9)
                have szF := (Stands.grown (sz.below bx) hg9 (stands_apart (sz.below bx) oC1 (by decide))).other (b' := w.heap.size) 3 (.slice a9 (C.length + 1) c9) (by omega)
                have BF := below_set (below_grown (below_trans hB bx) hg9 (fun q hq2 => Nat.le_trans (Nat.le_trans bw.size hWq) (oC1.lt q hq2).1)) w.heap.size 3 (.slice a9 (C.length + 1) c9) (Nat.le_refl _)
                have hnew : C ++ [-1] = m.codes ++ List.replicate (r + 1) (-1) := by rw [← HC.out, List.append_assoc, List.replicate_succ']
                have hsz : q1.heap.size ≤ (w9.setCell ⟨w.heap.size, 3, none⟩ (.slice a9 (C.length + 1) c9)).heap.size := by have h1 := hg9.size; have h2 := bx.size; simp only [World.setCell, Array.size_modify]; omega
                have hcell : (w9.setCell ⟨w.heap.size, 3, none⟩ (.slice a9 (C.length + 1) c9)).cell? ⟨w.heap.size, 3, none⟩ = some (.slice a9 (C.length + 1) c9) := Stands.cell soF 3 _ rfl
                go_roundw
                case rel =>
                  refine ⟨r + 1, _, hid (Or.inr ?_), soF, ?_, szF, hsz, BF⟩
                  · have := HL.out; omega
                  · rw [← hnew]; exact oMF
                case measure =>
                  rw [hcell, u3]
                  simp only [Option.getD_some, lenOf]
                  omega
              · have hKl : K < C.length := by omega
                obtain ⟨ad, hi, hcell, hfz, hbk, hset⟩ := own_set oC uJ zJ (K : Int) (by omega) (by omega)
                simp only [Int.toNat_natCast] at hset hcell
                have hfin : bdcF m.codes K xt = C.set K xt := by
                  have hrr : K + 1 - m.codes.length = r := by rcases hr.out with h | h <;> omega
                  unfold bdcF
                  rw [hrr, hC]
                obtain ⟨gc, oc, hao⟩ : ∃ g o, ad = ⟨g, o, none⟩ := by
                  have := World.cell?_spot hcell
                  exact ⟨ad.block, ad.off, by cases ad; simp_all⟩
                subst hao
                have oCN := hset xt
                rw [List.length_set] at oCN
                have hne : gc ≠ w.heap.size := by have h1 : q1.heap.size ≤ gc := hbk; omega
                have kI : Kept 3 wr (wr.setCell ⟨gc, oc, none⟩ (.int .i64 xt)) := by
                  rcases oC.2 with ⟨hh, h0⟩ | ⟨g2, c2, cur, hh, _, x1, _⟩
                  · omega
                  · simp only [Value.slice.injEq] at hh
                    obtain ⟨rfl, -, rfl⟩ := hh
                    have e1 := (hi wr).symm.trans (idx_int g2 C.length kc K hKl wr)
                    simp at e1
                    obtain ⟨rfl, rfl⟩ := e1
                    refine ⟨some gc, gb1 _ _ _ _, fun q hq2 => ?_⟩
                    cases hq2
                    exact ⟨_, _, x1⟩
                have hgw : w.heap.size ≤ gc := Nat.le_trans (Nat.le_trans bw.size hWq) hbk
                have oMF := OwM.le (Nat.le_trans bw.size hWq) (OwM.grewC (vc := .slice ac C.length kc) (l := C.set K xt) oM kI (by simpa using oCN))
                have soF := so.other (b' := gc) oc (.int .i64 xt) (fun e => hne e.symm)
                have szF := sz.other (b' := gc) oc (.int .i64 xt) (by have : q1.heap.size ≤ gc := hbk; omega)
                have BF := below_set hB gc oc (.int .i64 xt) hgw
                rw [← hfin] at oMF
                clear hset oCN kI oM oC hfin hC hCl
                go_upto_region 11 with fail
                generalize wr.setCell ⟨gc, oc, none⟩ (.int .i64 xt) = q9 at soF szF oMF BF ⊢
                have u0 := soF.cell 0 _ rfl
                have u1 := soF.cell 1 _ rfl
                have u2 := soF.cell 2 _ rfl
                have u3 := soF.cell 3 _ rfl
                have u4 := soF.cell 4 _ rfl
                have u5 := soF.cell 5 _ rfl
                have u6 := soF.cell 6 _ rfl
                have u7 := soF.cell 7 _ rfl
                have u8 := soF.cell 8 _ rfl
                have u9 := soF.cell 9 _ rfl
                have z0 := szF.cell 0 _ rfl
                have z1 := szF.cell 1 _ rfl
                have z2 := szF.cell 2 _ rfl
                have z3 := szF.cell 3 _ rfl
                have z4 := szF.cell 4 _ rfl
                have z5 := szF.cell 5 _ rfl
                have z6 := szF.cell 6 _ rfl
                have z7 := szF.cell 7 _ rfl
                have z8 := szF.cell 8 _ rfl
                have z9 := szF.cell 9 _ rfl
                have zf := szF.free
                obtain ⟨g1, g2⟩ := set10 szF (.slice a0 m.stack.length k0) (.slice a1 m.mem.length k1) (.slice a2 m.words.length k2) (.slice ac C.length kc) (.int .u32 m.base) (.slice a5 m.tree.length k5) (.int .i64 m.node) (.slice a7 m.insts.length k7) (.int .i64 m.self) (.string o)
                have G1 := hid g1
                have GM := hid (g2 (fun u => OwM w.heap.size u ⟨.slice a0 m.stack.length k0, .slice a1 m.mem.length k1, .slice a2 m.words.length k2, (.slice ac C.length kc), .slice a5 m.tree.length k5, .slice a7 m.insts.length k7⟩ { m with codes := bdcF m.codes K xt } o) (fun u u' kk q => q.kept kk (by decide) (by decide) (by decide) (by decide) (by decide) (by decide) (by decide) (by decide)) oMF)
                have J7 : Hid (Below w.heap.size w _) := below_set (below_set (below_set (below_set (below_set (below_set (below_set (below_set (below_set (below_set (BF) (w.heap.size + 1) 0 (.slice a0 m.stack.length k0) (by omega)) (w.heap.size + 1) 1 (.slice a1 m.mem.length k1) (by omega)) (w.heap.size + 1) 2 (.slice a2 m.words.length k2) (by omega)) (w.heap.size + 1) 3 (.slice ac C.length kc) (by omega)) (w.heap.size + 1) 4 (.int .u32 m.base) (by omega)) (w.heap.size + 1) 5 (.slice a5 m.tree.length k5) (by omega)) (w.heap.size + 1) 6 (.int .i64 m.node) (by omega)) (w.heap.size + 1) 7 (.slice a7 m.insts.length k7) (by omega)) (w.heap.size + 1) 8 (.int .i64 m.self) (by omega)) (w.heap.size + 1) 9 (.string o) (by omega)
                clear g1 g2 oMF BF soF szF
                go_wp2_with fail
                (try simp only [Exit.inBlock, Exit.then])
                refine bodyPost_ret (results_row2 rfl _ _ (w.heap.size + 1) 32 _ (0, 0) _ rfl G1.out Try.underlying32 rfl (show _ = some 10 by kernel_rfl)) rfl ?_
                exact ⟨⟨.slice a0 m.stack.length k0, .slice a1 m.mem.length k1, .slice a2 m.words.length k2, (.slice ac C.length kc), .slice a5 m.tree.length k5, .slice a7 m.insts.length k7⟩, o, rfl, GM.out, J7.out⟩

end Go.Proofs.Ytfljcfpcokimcaa
