/-
  stretch, fresh, opened, number of package mem: what they return, for all memories and numbers.
-/
import Derived.Test.YtdhhmldcablbgaaRmo
import Derived.Test.YtdhhmldcablbgaaCp
namespace Go.Proofs.Ytdhhmldcablbgaa
open Go.ChangeShapes Go.WideShapes Go.ChangeAt Go.RowKit
set_option linter.unusedVariables false
set_option linter.unusedSimpArgs false

theorem sz8 : (Try.prog.info? 5).map (·.size) = some 1 := by kernel_rfl

theorem w_stretch_in (v : Value) (xs : List Int) (a n : Int) (w : World) (h : Rd .u8 w v xs) (hz : xs.length ≤ 140737488355328) (a0 : 0 ≤ a) (n0 : 0 ≤ n) (hi : inF xs.length a n = true) :
    Calls Try.prog 31 #[v, .int .u32 a, .int .u64 n] w fun e w' => e = .returned (.tuple #[cut3 v a.toNat n.toNat, .int .i64 0]) ∧ w' = w := by
  simp [inF] at hi
  have hlen := rd_len h uB (P := Try.prog)
  obtain ⟨_, hc⟩ := rd_cut3 h uB zB a n a0 n0 (by omega)
  obtain ⟨u, hu⟩ : ∃ u, cut3 v a.toNat n.toNat = u := ⟨_, rfl⟩
  rw [hu] at hc ⊢
  go_enter Try.func31, Try.ntmps31
  go_wp2_with fail
  go_ret2
  exact ⟨rfl, rfl⟩

theorem w_stretch_out (v : Value) (xs : List Int) (a n : Int) (w : World) (h : Rd .u8 w v xs) (hz : xs.length ≤ 140737488355328) (a0 : 0 ≤ a) (a1 : a < 4294967296) (n0 : 0 ≤ n) (n1 : n ≤ 9223372036854775807) (hi : inF xs.length a n = false) :
    Calls Try.prog 31 #[v, .int .u32 a, .int .u64 n] w fun e w' => e = .returned (.tuple #[.slice none 0 0, .int .i64 9]) ∧ w' = w := by
  have hi2 : (xs.length : Int) < a + n := by simp [inF] at hi; omega
  have hlen := rd_len h uB (P := Try.prog)
  go_enter Try.func31, Try.ntmps31
  go_wp2_with fail
  go_ret2
  exact ⟨rfl, rfl⟩

theorem w_fresh (v : Value) (xs : List Int) (n : Nat) (w : World) (h : Rd .u8 w v xs) (hz : xs.length ≤ n) (hn : n ≤ 140737488355328) :
    Calls Try.prog 34 #[v, .int .i64 n] w fun e w' => e = .returned (.slice (some ⟨w.heap.size, 0, none⟩) n n) ∧ Blk .u8 5 w' w.heap.size (xs ++ List.replicate (n - xs.length) 0) ∧ Below w.heap.size w w' := by
  have hmk := run_make_row' (P := Try.prog) 22 5 (.int .u8 0) 1 Try.underlying22 infoU8 rfl .i64 .i64 n (by omega) (by omega) w
  have hbk := blk_made (k := .u8) w 5 n
  have hb0 := box_below w (.cells (madeCells #[.int .u8 0] n) 5)
  obtain ⟨w1, hw1⟩ : ∃ w1, w.alloc (.cells (madeCells #[.int .u8 0] n) 5) = w1 := ⟨_, rfl⟩
  rw [hw1] at hmk hbk hb0
  have h1 := h.below hb0
  clear hw1
  obtain ⟨w2, hcp, hbk2, hb2⟩ := run_copy_rd 22 22 5 Try.underlying22 sz8 (plc_all w.heap.size n) h1 hz hbk (by simp) hb0 (Nat.le_refl _)
  go_enter Try.func34, Try.ntmps34
  go_wp2_with fail
  go_ret
  refine ⟨rfl, ?_, hb2⟩
  simpa using hbk2

theorem w_opened_in (v : Value) (xs : List Int) (a n : Int) (w : World) (h : Rd .u8 w v xs) (hz : xs.length ≤ 140737488355328) (a0 : 0 ≤ a) (n0 : 0 ≤ n) (hi : inF xs.length a n = true) :
    Calls Try.prog 30 #[v, .int .u32 a, .int .u64 n] w fun e w' => ∃ vp, e = .returned (.tuple #[.slice (some ⟨w.heap.size, 0, none⟩) xs.length xs.length, vp, .int .i64 0]) ∧ Plc vp w.heap.size a.toNat n.toNat ∧ Blk .u8 5 w' w.heap.size xs ∧ Below w.heap.size w w' := by
  have c1 := w_stretch_in v xs a n w h hz a0 n0 hi
  have c2 := w_fresh v xs xs.length w h (Nat.le_refl _) hz
  have hlen := rd_len h uB (P := Try.prog)
  have hpl := plc_cut3 w.heap.size xs.length a.toNat n.toNat
  obtain ⟨u, hu⟩ : ∃ u, cut3 v a.toNat n.toNat = u := ⟨_, rfl⟩
  rw [hu] at c1
  clear hu
  go_enter Try.func30, Try.ntmps30
  go_wp2_with fail
  refine c1.mono ?_
  rintro e w1 ⟨rfl, rfl⟩
  go_wp2_with (go_at_call 34; refine c2.mono ?_; rintro e w2 ⟨rfl, hb, hbe⟩)
  have hb' : Blk .u8 5 w2 w1.heap.size xs := by simpa using hb
  have c3 := w_stretch_in _ xs a n w2 (hb'.rd (by unfold maxLen; omega)) hz a0 n0 hi
  obtain ⟨vp, hvp⟩ : ∃ vp, cut3 (.slice (some ⟨w1.heap.size, 0, none⟩) xs.length xs.length) a.toNat n.toNat = vp := ⟨_, rfl⟩
  rw [hvp] at c3 hpl
  refine c3.mono ?_
  rintro e w3 ⟨rfl, rfl⟩
  go_wp2_with fail
  go_ret3
  exact ⟨vp, rfl, hpl, hb', hbe⟩

theorem w_opened_out (v : Value) (xs : List Int) (a n : Int) (w : World) (h : Rd .u8 w v xs) (hz : xs.length ≤ 140737488355328) (a0 : 0 ≤ a) (a1 : a < 4294967296) (n0 : 0 ≤ n) (n1 : n ≤ 9223372036854775807) (hi : inF xs.length a n = false) :
    Calls Try.prog 30 #[v, .int .u32 a, .int .u64 n] w fun e w' => e = .returned (.tuple #[.slice none 0 0, .slice none 0 0, .int .i64 9]) ∧ w' = w := by
  have c1 := w_stretch_out v xs a n w h hz a0 a1 n0 n1 hi
  go_enter Try.func30, Try.ntmps30
  go_wp2_with (go_at_call 31; refine c1.mono ?_; rintro e w1 ⟨rfl, rfl⟩)
  go_ret3
  exact ⟨rfl, rfl⟩

theorem w_number_ok (v : Value) (xs : List Int) (a s : Int) (w : World) (h : Rd .u8 w v xs) (hz : xs.length ≤ 140737488355328) (a0 : 0 ≤ a) (hw : wrongF xs.length a s = 0) :
    Calls Try.prog 28 #[v, .int .u32 a, .int .u32 s] w fun e w' => e = .returned (.tuple #[cut3 v a.toNat s.toNat, .int .i64 0]) ∧ w' = w := by
  obtain ⟨hs, hm, hl, hr⟩ := wrong_ok hw
  have c1 := w_stretch_in v xs a s w h hz a0 (by omega) (by simp [inF]; omega)
  obtain ⟨u, hu⟩ : ∃ u, cut3 v a.toNat s.toNat = u := ⟨_, rfl⟩
  rw [hu] at c1 ⊢
  have hmm : a.tmod s = a % s := Int.tmod_eq_emod_of_nonneg a0
  have h2b : ((a % s) != 0) = false := by simp [hm]
  clear hu hw hm
  rcases hs with rfl | rfl | rfl
  all_goals go_enter Try.func28, Try.ntmps28
  all_goals go_wp2_with (go_at_call 31; refine c1.mono ?_; rintro e w1 ⟨rfl, rfl⟩)
  all_goals go_ret2
  all_goals exact ⟨rfl, rfl⟩

theorem w_number_bad (v : Value) (xs : List Int) (a s : Int) (w : World) (h : Rd .u8 w v xs) (hz : xs.length ≤ 140737488355328) (a0 : 0 ≤ a) (a1 : a < 4294967296) (s0 : 0 ≤ s) (s1 : s < 4294967296) (hw : wrongF xs.length a s ≠ 0) :
    Calls Try.prog 28 #[v, .int .u32 a, .int .u32 s] w fun e w' => e = .returned (.tuple #[.slice none 0 0, .int .i64 (wrongF xs.length a s)]) ∧ w' = w := by
  by_cases h1 : s = 1 ∨ s = 2 ∨ s = 4
  · have hmm : a.tmod s = a % s := Int.tmod_eq_emod_of_nonneg a0
    by_cases h2 : a % s = 0
    · cases h3 : inF xs.length a s
      · have e : wrongF xs.length a s = 9 := by unfold wrongF; rw [if_neg (fun h => h h1), if_neg (fun h => h h2), if_pos h3]
        rw [e]
        have c1 := w_stretch_out v xs a s w h hz a0 a1 s0 (by omega) h3
        have h2b : ((a % s) != 0) = false := by simp [h2]
        clear e h3 hw h2
        rcases h1 with rfl | rfl | rfl
        all_goals go_enter Try.func28, Try.ntmps28
        all_goals go_wp2_with (go_at_call 31; refine c1.mono ?_; rintro e w1 ⟨rfl, rfl⟩)
        all_goals go_ret2
        all_goals exact ⟨rfl, rfl⟩
      · exact absurd (by unfold wrongF; rw [if_neg (fun h => h h1), if_neg (fun h => h h2), if_neg (by rw [h3]; decide)]) hw
    · have e : wrongF xs.length a s = 8 := by unfold wrongF; rw [if_neg (fun h => h h1), if_pos h2]
      rw [e]
      clear e hw
      have h2b : ((a % s) != 0) = true := by simp [h2]
      rcases h1 with rfl | h1
      · exact absurd (Int.emod_one a) h2
      rcases h1 with rfl | rfl
      all_goals clear h2
      all_goals go_enter Try.func28, Try.ntmps28
      all_goals go_wp2_with fail
      all_goals go_ret2
      all_goals exact ⟨rfl, rfl⟩
  · have e : wrongF xs.length a s = 1 := by unfold wrongF; rw [if_pos h1]
    rw [e]
    clear e hw
    have s1b : (s != 1) = true := by simp; omega
    have s2b : (s != 2) = true := by simp; omega
    have s4b : (s != 4) = true := by simp; omega
    clear h1
    go_enter Try.func28, Try.ntmps28
    go_wp2_with fail
    go_ret2
    exact ⟨rfl, rfl⟩
end Go.Proofs.Ytdhhmldcablbgaa
