/-
  SameOps, sameInts, sameOpen and Same of the document's answer for code.
-/
import Derived.Test.YtfmpeminfcehaaaDfm
import Derived.Test.YtfmpeminfcehaaaOpq
import Derived.Test.YtfmpeminfcehaaaR3q
import Derived.BigQuiet
namespace Go.Proofs.Ytfmpeminfcehaaa
open Go.ChangeShapes Go.WideShapes Go.ChangeAt Go.RowKit
set_option linter.unusedVariables false
set_option linter.unusedSimpArgs false

set_option maxHeartbeats 1000000 in
theorem w_r10ints (va vb : Value) (xs ys : List Int) (w : World) (ha : Rd .i64 w va xs) (hb : Rd .i64 w vb ys) :
    Calls Try.prog 31 #[va, vb] w fun e w' => e = .returned (.bool (decide (xs = ys))) ∧ Dr w w' := by
  have hla := rd_len ha uJ (P := Try.prog)
  have hlb := rd_len hb uJ (P := Try.prog)
  by_cases hl : xs.length = ys.length
  · have hn : ((xs.length : Int) != (ys.length : Int)) = false := by simp [hl]
    have hm : xs.length ≤ maxLen := by
      rcases ha with ⟨_, _, _, _, rfl⟩ | ⟨_, _, _, _, _, g1, g2, _⟩
      · simp
      · omega
    unfold maxLen at hm
    have Hl := hid hl
    have HA := hid ha
    have HB := hid hb
    clear hl ha hb
    go_enter Try.func31, Try.ntmps31
    go_wp2_with fail
    go_loopw [5] (fun i wx => ∃ k : Nat, (k : Int) ≤ xs.length ∧ i = .int .i64 k ∧ Hid (xs.take k = ys.take k) ∧ Dr w wx) (fun i _ => (xs.length - intOf i).toNat)
    case atStart => exact ⟨0, by omega, rfl, hid (by simp), dr_refl _⟩
    case round =>
      obtain ⟨k, hk, rfl, ht, hg⟩ := hrel
      by_cases hlt : (k : Int) < xs.length
      · have hlt2 : (k : Int) < (ys.length : Int) := by have := Hl.out; omega
        obtain ⟨a1, i1, c1⟩ := rd_idx (HA.out.below (dr_below hg)) uJ zJ k (by omega) hlt
        obtain ⟨a2, i2, c2⟩ := rd_idx (HB.out.below (dr_below hg)) uJ zJ k (by omega) hlt2
        simp only [Int.toNat_natCast] at c1 c2
        obtain ⟨x, hx⟩ : ∃ x, xs.getD k 0 = x := ⟨_, rfl⟩
        obtain ⟨y, hy⟩ : ∃ y, ys.getD k 0 = y := ⟨_, rfl⟩
        rw [hx] at c1
        rw [hy] at c2
        by_cases hxy : x = y
        · have ht2 : Hid (xs.take (k + 1) = ys.take (k + 1)) := same_take xs ys k (by omega) (by omega) ht.out (by rw [hx, hy, hxy])
          have hb : (x != y) = false := by simp [hxy]
          clear hx hy hxy
          go_wp2_with fail
          go_quiet (fail)
          go_wp2_with fail
          go_roundw
          case rel => exact ⟨k + 1, by omega, by go_num, ht2, dr_more hg _⟩
          case measure => simp [intOf]; omega
        · have hf : Hid (decide (xs = ys) = false) := by show _ = _; simp; exact ne_at xs ys k (by rw [hx, hy]; exact hxy)
          have hb : (x != y) = true := by simp [hxy]
          clear hx hy hxy
          go_wp2_with fail
          go_quiet (fail)
          go_wp2_with fail
          go_ret
          exact ⟨ret_b hf.out.symm, dr_more hg _⟩
      · have hf : Hid (decide (xs = ys) = true) := by
          show _ = _
          have h1 : xs.take k = xs := List.take_of_length_le (by omega)
          have h2 : ys.take k = ys := List.take_of_length_le (by have := Hl.out; omega)
          have := ht.out
          rw [h1, h2] at this
          simp [this]
        go_wp2_with fail
        go_ret
        exact ⟨ret_b hf.out.symm, hg⟩
  · have hf : Hid (decide (xs = ys) = false) := by show _ = _; simp; intro h; exact hl (by rw [h])
    have hn : ((xs.length : Int) != (ys.length : Int)) = true := by simp; omega
    clear hl
    go_enter Try.func31, Try.ntmps31
    go_wp2_with fail
    go_ret
    exact ⟨ret_b hf.out.symm, dr_refl _⟩
theorem take_same {α : Type} {x y : List α} {k : Nat} (h1 : k < x.length) (h2 : k < y.length) (ht : x.take k = y.take k) (he : x[k] = y[k]) : x.take (k + 1) = y.take (k + 1) := by
  rw [List.take_succ_eq_append_getElem h1, List.take_succ_eq_append_getElem h2, ht, he]

set_option maxHeartbeats 1000000 in
theorem w_r10ops (va vb : Value) (xs ys : List Opd) (w : World) (ha : RdO w va xs) (hb : RdO w vb ys) :
    Calls Try.prog 19 #[va, vb] w fun e w' => e = .returned (.bool (decide (xs = ys))) ∧ Dr w w' := by
  have hla := slr_len ha uO (P := Try.prog)
  have hlb := slr_len hb uO (P := Try.prog)
  by_cases hl : xs.length = ys.length
  · have hn : ((xs.length : Int) != (ys.length : Int)) = false := by simp [hl]
    have hm := slr_max ha
    unfold maxLen at hm
    have Hl := hid hl
    have HA := hid ha
    have HB := hid hb
    clear hl ha hb
    go_enter Try.func19, Try.ntmps19
    go_wp2_with fail
    go_loopw [5] (fun i wx => ∃ k : Nat, (k : Int) ≤ xs.length ∧ i = .int .i64 k ∧ Hid (xs.take k = ys.take k) ∧ Dr w wx) (fun i _ => (xs.length - intOf i).toNat)
    case atStart => exact ⟨0, by omega, rfl, hid (by simp), dr_refl _⟩
    case round =>
      obtain ⟨k, hk, rfl, ht, hg⟩ := hrel
      by_cases hlt : (k : Int) < xs.length
      · have hka : k < xs.length := by omega
        have hkb : k < ys.length := by have := Hl.out; omega
        obtain ⟨b1, o1, i1, j0, j1⟩ := op_at (RdO.below HA.out (dr_below hg)) k hka
        obtain ⟨b2, o2, i2, l0, l1⟩ := op_at (RdO.below HB.out (dr_below hg)) k hkb
        obtain ⟨A, hA⟩ : ∃ A, xs[k].1 = A := ⟨_, rfl⟩
        obtain ⟨B, hB⟩ : ∃ A, xs[k].2 = A := ⟨_, rfl⟩
        obtain ⟨C, hC⟩ : ∃ A, ys[k].1 = A := ⟨_, rfl⟩
        obtain ⟨D, hD⟩ : ∃ A, ys[k].2 = A := ⟨_, rfl⟩
        rw [hA] at j0
        rw [hB] at j1
        rw [hC] at l0
        rw [hD] at l1
        have hq := fun w => neq_op w A B C D
        have hgd := grd_op
        by_cases hAC : A = C ∧ B = D
        · have ht2 : Hid (xs.take (k + 1) = ys.take (k + 1)) := take_same hka hkb ht.out (Prod.ext (by rw [hA, hC]; exact hAC.1) (by rw [hB, hD]; exact hAC.2))
          have hq2 : (!(A == C && B == D)) = false := by simp [hAC.1, hAC.2]
          simp only [hq2] at hq
          clear hA hB hC hD hAC ht hq2
          go_wp2_with fail
          go_quiet (fail)
          go_wp2_with fail
          go_roundw
          case rel => exact ⟨k + 1, by omega, by go_num, ht2, dr_more hg _⟩
          case measure => simp [intOf]; omega
        · have hf : Hid (decide (xs = ys) = false) := by
            show _ = _
            rw [decide_eq_false_iff_not]
            intro h
            subst h
            exact hAC ⟨by rw [← hA, ← hC], by rw [← hB, ← hD]⟩
          have hq2 : (!(A == C && B == D)) = true := by
            simp only [Bool.not_eq_true', Bool.and_eq_false_iff, beq_eq_false_iff_ne]
            omega
          simp only [hq2] at hq
          clear hA hB hC hD hAC ht hq2
          go_wp2_with fail
          go_quiet (fail)
          go_wp2_with fail
          go_ret
          exact ⟨ret_b hf.out.symm, dr_more hg _⟩
      · have hf : Hid (decide (xs = ys) = true) := by
          show _ = _
          have h1 : xs.take k = xs := List.take_of_length_le (by omega)
          have h2 : ys.take k = ys := List.take_of_length_le (by have := Hl.out; omega)
          have := ht.out
          rw [h1, h2] at this
          simp [this]
        go_wp2_with fail
        go_ret
        exact ⟨ret_b hf.out.symm, hg⟩
  · have hf : Hid (decide (xs = ys) = false) := by show _ = _; rw [decide_eq_false_iff_not]; intro h; exact hl (by rw [h])
    have hn : ((xs.length : Int) != (ys.length : Int)) = true := by simp; omega
    clear hl
    go_enter Try.func19, Try.ntmps19
    go_wp2_with fail
    go_ret
    exact ⟨ret_b hf.out.symm, dr_refl _⟩

set_option maxHeartbeats 2000000 in
set_option maxRecDepth 100000 in
theorem w_r10open (va vb : Value) (xs ys : List Opn) (w : World) (ha : RdN w va xs) (hb : RdN w vb ys) :
    Calls Try.prog 32 #[va, vb] w fun e w' => e = .returned (.bool (decide (xs = ys))) ∧ Dr w w' := by
  have hla := slr_len ha uK (P := Try.prog)
  have hlb := slr_len hb uK (P := Try.prog)
  by_cases hl : xs.length = ys.length
  · have hn : ((xs.length : Int) != (ys.length : Int)) = false := by simp [hl]
    have hm := slr_max ha
    unfold maxLen at hm
    have Hl := hid hl
    have HA := hid ha
    have HB := hid hb
    clear hl ha hb
    go_enter Try.func32, Try.ntmps32
    go_wp2_with fail
    go_loopw [5] (fun i wx => ∃ k : Nat, (k : Int) ≤ xs.length ∧ i = .int .i64 k ∧ Hid (xs.take k = ys.take k) ∧ Dr w wx) (fun i _ => (xs.length - intOf i).toNat)
    case atStart => exact ⟨0, by omega, rfl, hid (by simp), dr_refl _⟩
    case round =>
      obtain ⟨k, hk, rfl, ht, hg⟩ := hrel
      by_cases hlt : (k : Int) < xs.length
      · have hka : k < xs.length := by omega
        have hkb : k < ys.length := by have := Hl.out; omega
        have hkbI : (k : Int) < ys.length := by omega
        obtain ⟨b1, o1, v1, i1, j0, j1, r1⟩ := opn_at (RdN.below HA.out (dr_below hg)) k hka
        obtain ⟨b2, o2, v2, i2, l0, l1, r2⟩ := opn_at (RdN.below HB.out (dr_below hg)) k hkb
        have ci := fun n => w_r10ints v1 v2 _ _ (wr.drewN n) (r1.below (below_drewN (Below.refl _ _) n)) (r2.below (below_drewN (Below.refl _ _) n))
        obtain ⟨A, hA⟩ : ∃ A, xs[k].1 = A := ⟨_, rfl⟩
        obtain ⟨C, hC⟩ : ∃ A, ys[k].1 = A := ⟨_, rfl⟩
        rw [hA] at j0
        rw [hC] at l0
        obtain ⟨p1, p2, rfl⟩ := rd_slice r1
        obtain ⟨p3, p4, rfl⟩ := rd_slice r2
        by_cases hAC : A = C
        · have hq2 : (A != C) = false := by simp [hAC]
          by_cases hBD : xs[k].2 = ys[k].2
          · have ht2 : Hid (xs.take (k + 1) = ys.take (k + 1)) := take_same hka hkb ht.out (Prod.ext (by rw [hA, hC]; exact hAC) hBD)
            simp only [decide_eq_true hBD] at ci
            have CI := hid ci
            clear hA hC hAC ht hBD r1 r2 ci
            go_wp2_with fail
            go_quiet (first | (go_at_call 31; exact Calls.quiet_of (CI.out _)))
            go_wp2_with fail
            go_roundw
            case rel => exact ⟨k + 1, by omega, by go_num, ht2, dr_more hg _⟩
            case measure => simp [intOf]; omega
          · have hf : Hid (decide (xs = ys) = false) := by
              show _ = _
              rw [decide_eq_false_iff_not]
              intro h
              subst h
              exact hBD rfl
            simp only [decide_eq_false hBD] at ci
            have CI := hid ci
            clear hA hC hAC ht hBD r1 r2 ci
            go_wp2_with fail
            go_quiet (first | (go_at_call 31; exact Calls.quiet_of (CI.out _)))
            go_wp2_with fail
            go_ret
            exact ⟨ret_b hf.out.symm, dr_more hg _⟩
        · have hf : Hid (decide (xs = ys) = false) := by
            show _ = _
            rw [decide_eq_false_iff_not]
            intro h
            subst h
            exact hAC (by rw [← hA, ← hC])
          have hq2 : (A != C) = true := by simp [hAC]
          clear hA hC hAC ht r1 r2 ci
          go_wp2_with fail
          go_quiet (fail)
          go_wp2_with fail
          go_ret
          exact ⟨ret_b hf.out.symm, dr_more hg _⟩
      · have hf : Hid (decide (xs = ys) = true) := by
          show _ = _
          have h1 : xs.take k = xs := List.take_of_length_le (by omega)
          have h2 : ys.take k = ys := List.take_of_length_le (by have := Hl.out; omega)
          have := ht.out
          rw [h1, h2] at this
          simp [this]
        go_wp2_with fail
        go_ret
        exact ⟨ret_b hf.out.symm, hg⟩
  · have hf : Hid (decide (xs = ys) = false) := by show _ = _; rw [decide_eq_false_iff_not]; intro h; exact hl (by rw [h])
    have hn : ((xs.length : Int) != (ys.length : Int)) = true := by simp; omega
    clear hl
    go_enter Try.func32, Try.ntmps32
    go_wp2_with fail
    go_ret
    exact ⟨ret_b hf.out.symm, dr_refl _⟩

instance decDft : DecidableEq Dft := fun a b =>
  if h : a.code = b.code ∧ a.origs = b.origs ∧ a.dests = b.dests ∧ a.loops = b.loops ∧ a.cases = b.cases then isTrue (dft_ext h.1 h.2.1 h.2.2.1 h.2.2.2.1 h.2.2.2.2)
  else isFalse fun e => h (by subst e; exact ⟨rfl, rfl, rfl, rfl, rfl⟩)

theorem eqD_as (a b : Dft) : decide (a = b) = (decide (a.code = b.code) && (decide (a.origs = b.origs) && (decide (a.dests = b.dests) && (decide (a.loops = b.loops) && decide (a.cases = b.cases))))) := by
  rw [Bool.eq_iff_iff]
  simp only [decide_eq_true_eq, Bool.and_eq_true]
  constructor
  · intro h
    subst h
    exact ⟨rfl, rfl, rfl, rfl, rfl⟩
  · rintro ⟨h1, h2, h3, h4, h5⟩
    exact dft_ext h1 h2 h3 h4 h5

set_option maxHeartbeats 4000000 in
set_option maxRecDepth 100000 in
theorem w_r10same (a b : Dft) (va vb : Dv) (w : World) (ha : RdD w va a) (hb : RdD w vb b) :
    Calls Try.prog 14 #[.agg va.cs, .agg vb.cs] w fun e w' => e = .returned (.bool (decide (a = b))) ∧ Below w.heap.size w w' := by
  have b1 := box_below w (.cells va.cs 26)
  have b2 := box_below (w.alloc (.cells va.cs 26)) (.cells vb.cs 26)
  have s1 := (stands_new w va.cs 26).below b2
  have s2 := stands_new (w.alloc (.cells va.cs 26)) vb.cs 26
  rw [size_al] at s2
  have bw := below_trans b1 b2
  have c1 := fun W (g : Below w.heap.size w W) => w_r10ops _ _ _ _ W (ha.code.below g) (hb.code.below g)
  have c2 := fun W (g : Below w.heap.size w W) => w_r10ints _ _ _ _ W (ha.origs.below g) (hb.origs.below g)
  have c3 := fun W (g : Below w.heap.size w W) => w_r10ints _ _ _ _ W (ha.dests.below g) (hb.dests.below g)
  have c4 := fun W (g : Below w.heap.size w W) => w_r10open _ _ _ _ W (ha.loops.below g) (hb.loops.below g)
  have c5 := fun W (g : Below w.heap.size w W) => w_r10open _ _ _ _ W (ha.cases.below g) (hb.cases.below g)
  rw [eqD_as]
  obtain ⟨E1, h1⟩ : ∃ E, decide (a.code = b.code) = E := ⟨_, rfl⟩
  obtain ⟨E2, h2⟩ : ∃ E, decide (a.origs = b.origs) = E := ⟨_, rfl⟩
  obtain ⟨E3, h3⟩ : ∃ E, decide (a.dests = b.dests) = E := ⟨_, rfl⟩
  obtain ⟨E4, h4⟩ : ∃ E, decide (a.loops = b.loops) = E := ⟨_, rfl⟩
  obtain ⟨E5, h5⟩ : ∃ E, decide (a.cases = b.cases) = E := ⟨_, rfl⟩
  simp only [h1] at c1
  simp only [h2] at c2
  simp only [h3] at c3
  simp only [h4] at c4
  simp only [h5] at c5
  rw [h1, h2, h3, h4, h5]
  clear h1 h2 h3 h4 h5 ha hb b1 b2
  obtain ⟨x0, x1, x2, x3, x4⟩ := va
  obtain ⟨y0, y1, y2, y3, y4⟩ := vb
  simp only [Dv.cs] at s1 s2 bw c1 c2 c3 c4 c5 ⊢
  go_enter Try.func14, Try.ntmps14
  go_upto_region 1 with fail
  generalize (w.alloc (.cells #[x0, x1, x2, x3, x4] 26)).alloc (.cells #[y0, y1, y2, y3, y4] 26) = W0 at s1 s2 bw ⊢
  have K := fun q (g : Below W0.heap.size W0 q) => (⟨(s1.below g).cell 0 _ rfl, (s1.below g).cell 1 _ rfl, (s1.below g).cell 2 _ rfl, (s1.below g).cell 3 _ rfl, (s1.below g).cell 4 _ rfl, (s2.below g).cell 0 _ rfl, (s2.below g).cell 1 _ rfl, (s2.below g).cell 2 _ rfl, (s2.below g).cell 3 _ rfl, (s2.below g).cell 4 _ rfl⟩ : q.cell? ⟨w.heap.size, 0, none⟩ = some x0 ∧ q.cell? ⟨w.heap.size, 1, none⟩ = some x1 ∧ q.cell? ⟨w.heap.size, 2, none⟩ = some x2 ∧ q.cell? ⟨w.heap.size, 3, none⟩ = some x3 ∧ q.cell? ⟨w.heap.size, 4, none⟩ = some x4 ∧ q.cell? ⟨w.heap.size + 1, 0, none⟩ = some y0 ∧ q.cell? ⟨w.heap.size + 1, 1, none⟩ = some y1 ∧ q.cell? ⟨w.heap.size + 1, 2, none⟩ = some y2 ∧ q.cell? ⟨w.heap.size + 1, 3, none⟩ = some y3 ∧ q.cell? ⟨w.heap.size + 1, 4, none⟩ = some y4)
  obtain ⟨f0, f1, f2, f3, f4, g0, g1, g2, g3, g4⟩ := K _ (Below.refl _ _)
  cases E1
  · go_wp2_with (go_at_call 19; refine (c1 _ bw).mono ?_; rintro e q1 ⟨rfl, d1⟩)
    go_ret
    exact ⟨by simp, below_trans bw (dr_below d1)⟩
  · go_wp2_with (go_at_call 19; refine (c1 _ bw).mono ?_; rintro e q1 ⟨rfl, d1⟩; have e1 := dr_below d1; obtain ⟨f0', f1', f2', f3', f4', g0', g1', g2', g3', g4'⟩ := K _ e1)
    cases E2
    · refine (c2 _ (below_trans bw e1)).mono ?_
      rintro e q2 ⟨rfl, d2⟩
      go_wp2_with fail
      go_ret
      exact ⟨by simp, below_trans bw (below_trans e1 (dr_below d2))⟩
    · refine (c2 _ (below_trans bw e1)).mono ?_
      rintro e q2 ⟨rfl, d2⟩
      have e2 := below_trans e1 (dr_below d2)
      obtain ⟨f0b, f1b, f2b, f3b, f4b, g0b, g1b, g2b, g3b, g4b⟩ := K _ e2
      go_wp2_with fail
      cases E3
      · refine (c3 _ (below_trans bw e2)).mono ?_
        rintro e q3 ⟨rfl, d3⟩
        go_wp2_with fail
        go_ret
        exact ⟨by simp, below_trans bw (below_trans e2 (dr_below d3))⟩
      · refine (c3 _ (below_trans bw e2)).mono ?_
        rintro e q3 ⟨rfl, d3⟩
        have e3 := below_trans e2 (dr_below d3)
        obtain ⟨f0c, f1c, f2c, f3c, f4c, g0c, g1c, g2c, g3c, g4c⟩ := K _ e3
        go_wp2_with fail
        cases E4
        · refine (c4 _ (below_trans bw e3)).mono ?_
          rintro e q4 ⟨rfl, d4⟩
          go_wp2_with fail
          go_ret
          exact ⟨by simp, below_trans bw (below_trans e3 (dr_below d4))⟩
        · refine (c4 _ (below_trans bw e3)).mono ?_
          rintro e q4 ⟨rfl, d4⟩
          have e4 := below_trans e3 (dr_below d4)
          obtain ⟨f0d, f1d, f2d, f3d, f4d, g0d, g1d, g2d, g3d, g4d⟩ := K _ e4
          go_wp2_with fail
          refine (c5 _ (below_trans bw e4)).mono ?_
          rintro e q5 ⟨rfl, d5⟩
          go_wp2_with fail
          go_ret
          exact ⟨by simp, below_trans bw (below_trans e4 (dr_below d5))⟩
end Go.Proofs.Ytfmpeminfcehaaa
