/-
  In, Same, Copy, wrong, Fetch, Text of the document's answer for a memory of bytes.
-/
import Derived.Test.YtdhhmldcablbgaaProg
import Derived.Test.YtdhhmldcablbgaaPmm
namespace Go.Proofs.Ytdhhmldcablbgaa
open Go.ChangeShapes Go.WideShapes Go.ChangeAt Go.RowKit
set_option linter.unusedVariables false
set_option linter.unusedSimpArgs false

theorem uB : Try.prog.underlying 22 = some (.slice (Try.prog.elem 22)) := by kernel_rfl
theorem eB : Try.prog.elem 22 = 5 := by kernel_rfl
theorem zB (w : World) : (sizeOf (Try.prog.elem 22)).run Try.prog w = .ok 1 w := by rw [eB]; exact Try.sizeOf5 w
theorem infoU8 : (Try.prog.info? 5).map (fun i => (i.zero, i.size, i.bytes)) = some (some (.int .u8 0), 1, 1) := by kernel_rfl
theorem rd_strT {w : World} {v : Value} {xs : List Int} (h : Rd .u8 w v xs) : (convert 22 9 v).run Try.prog w = .ok (.string (strOfNums xs)) w :=
  rd_str h Try.underlying22 Try.underlying5 Try.underlying9

theorem w_rsame (va vb : Value) (xs ys : List Int) (w : World) (ha : Rd .u8 w va xs) (hb : Rd .u8 w vb ys) (bx : bytesL xs) (by' : bytesL ys) :
    Calls Try.prog 15 #[va, vb] w fun e w' => e = .returned (.bool (decide (xs = ys))) ∧ w' = w := by
  have c1 := rd_strT ha
  have c2 := rd_strT hb
  have he : Hid (((strOfNums xs).toList == (strOfNums ys).toList) = decide (xs = ys)) := by
    show _ = _
    rw [str_beq]
    simp only [nums_eq xs ys bx by']
  obtain ⟨A, hA⟩ : ∃ A, strOfNums xs = A := ⟨_, rfl⟩
  obtain ⟨B, hB⟩ : ∃ B, strOfNums ys = B := ⟨_, rfl⟩
  rw [hA] at c1 he
  rw [hB] at c2 he
  go_enter Try.func15, Try.ntmps15
  go_wp2_with fail
  go_ret
  exact ⟨ret_b he.out, rfl⟩

theorem w_rcopy (v : Value) (xs : List Int) (w : World) (h : Rd .u8 w v xs) (hb : xs.length ≤ 140737488355328) :
    Calls Try.prog 10 #[v] w fun e w' => ∃ v', e = .returned v' ∧ w'.ownsRow w.heap.size 5 1 v' xs.length (xs.map (Value.int .u8)) ∧ Below w.heap.size w w' := by
  obtain ⟨i0, hi, hz0, hz1, hz2⟩ := info_parts infoU8
  go_enter Try.func10, Try.ntmps10
  go_wp2_with (at_builtin; refine wpList_append_rd (k := .u8) rfl _ _ 22 rfl w.heap.size 5 i0 1 Try.underlying22 hi hz0 hz1 hz2 (.slice none 0 0) [] rfl (World.ownsRow_nil _ _ _ _) v xs rfl h (by unfold maxLen; simp; omega) (by simpa using hb) (Nat.le_refl _) ?_; intro v' w1 hown hgr)
  go_ret
  exact ⟨v', rfl, by simpa using hown, below_grown (Below.refl _ _) hgr (fun k hk => by cases hk)⟩

theorem w_rin (v : Value) (xs : List Int) (a n : Int) (w : World) (h : Rd .u8 w v xs) (hz : xs.length ≤ 140737488355328) (a0 : 0 ≤ a) (a1 : a < 4294967296) (n0 : 0 ≤ n) (n1 : n < 4294967296) :
    Calls Try.prog 32 #[v, .int .u32 a, .int .u32 n] w fun e w' => e = .returned (.bool (inF xs.length a n)) ∧ w' = w := by
  have hlen := rd_len h uB (P := Try.prog)
  by_cases h1 : a ≤ xs.length
  · have hi : inF xs.length a n = decide (n ≤ (xs.length : Int) - a) := by simp [inF, h1]
    rw [hi]
    go_enter Try.func32, Try.ntmps32
    go_wp2_with fail
    go_ret
    exact ⟨rfl, rfl⟩
  · have hi : inF xs.length a n = false := by simp [inF]; omega
    rw [hi]
    go_enter Try.func32, Try.ntmps32
    go_wp2_with fail
    go_ret
    exact ⟨rfl, rfl⟩

theorem w_rwrong (v : Value) (xs : List Int) (a s : Int) (w : World) (h : Rd .u8 w v xs) (hz : xs.length ≤ 140737488355328) (a0 : 0 ≤ a) (a1 : a < 4294967296) (s0 : 0 ≤ s) (s1 : s < 4294967296) :
    Calls Try.prog 29 #[v, .int .u32 a, .int .u32 s] w fun e w' => e = .returned (.int .i64 (wrongF xs.length a s)) ∧ w' = w := by
  have cin := w_rin v xs a s w h hz a0 a1 s0 s1
  by_cases h1 : s = 1 ∨ s = 2 ∨ s = 4
  · have hm : a.tmod s = a % s := Int.tmod_eq_emod_of_nonneg a0
    by_cases h2 : a % s = 0
    · cases h3 : inF xs.length a s
      · have e : wrongF xs.length a s = 9 := by unfold wrongF; rw [if_neg (fun h => h h1), if_neg (fun h => h h2), if_pos h3]
        rw [e]
        rw [h3] at cin
        clear e h3
        have h2b : ((a % s) != 0) = false := by simp [h2]
        rcases h1 with rfl | rfl | rfl
        all_goals clear h2
        all_goals go_enter Try.func29, Try.ntmps29
        all_goals go_wp2_with (go_at_call 32; refine cin.mono ?_; rintro e w1 ⟨rfl, rfl⟩)
        all_goals go_ret
        all_goals exact ⟨rfl, rfl⟩
      · have e : wrongF xs.length a s = 0 := by unfold wrongF; rw [if_neg (fun h => h h1), if_neg (fun h => h h2), if_neg (by rw [h3]; decide)]
        rw [e]
        rw [h3] at cin
        clear e h3
        have h2b : ((a % s) != 0) = false := by simp [h2]
        rcases h1 with rfl | rfl | rfl
        all_goals clear h2
        all_goals go_enter Try.func29, Try.ntmps29
        all_goals go_wp2_with (go_at_call 32; refine cin.mono ?_; rintro e w1 ⟨rfl, rfl⟩)
        all_goals go_ret
        all_goals exact ⟨rfl, rfl⟩
    · have e : wrongF xs.length a s = 8 := by unfold wrongF; rw [if_neg (fun h => h h1), if_pos h2]
      rw [e]
      clear e
      have h2b : ((a % s) != 0) = true := by simp [h2]
      rcases h1 with rfl | h1
      · exact absurd (Int.emod_one a) h2
      rcases h1 with rfl | rfl
      all_goals clear h2
      all_goals go_enter Try.func29, Try.ntmps29
      all_goals go_wp2_with fail
      all_goals go_ret
      all_goals exact ⟨rfl, rfl⟩
  · have e : wrongF xs.length a s = 1 := by unfold wrongF; rw [if_pos h1]
    rw [e]
    clear e
    have s1b : (s != 1) = true := by simp; omega
    have s2b : (s != 2) = true := by simp; omega
    have s4b : (s != 4) = true := by simp; omega
    clear h1
    go_enter Try.func29, Try.ntmps29
    go_wp2_with fail
    go_ret
    exact ⟨rfl, rfl⟩
end Go.Proofs.Ytdhhmldcablbgaa
