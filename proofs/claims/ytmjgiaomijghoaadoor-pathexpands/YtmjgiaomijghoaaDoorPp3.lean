/-
  formed, showStep and short of package path.
-/
import Derived.Test.YtmjgiaomijghoaaDoorPbd
import Derived.Test.YtmjgiaomijghoaaDoorPs3
import Derived.Test.YtmjgiaomijghoaaDoorRa5
import Derived.Test.YtmjgiaomijghoaaDoorPax
namespace Go.Proofs.YtmjgiaomijghoaaDoor
open Go.ChangeShapes Go.WideShapes Go.ChangeAt Go.RowKit
set_option linter.unusedVariables false
set_option linter.unusedSimpArgs false

set_option maxHeartbeats 4000000 in
set_option maxRecDepth 100000 in
theorem w_pformed (nm ar : ByteArray) (v : Value) (u : List Int) (w : World) (hr : Rd .u32 w v u) (hn : nm.size ≤ maxLen) (ha : ar.size ≤ maxLen) :
    Calls Tryd.prog 24 #[.agg #[.string nm, v, .string ar]] w fun e w' => e = .returned (.bool (okS (L nm, u, L ar))) ∧ Below w.heap.size w w' := by
  have hlen := rd_len hr uU (P := Tryd.prog)
  obtain ⟨ao, cap, rfl, -⟩ := rd_form hr
  have b0 := box_below w (.cells #[.string nm, .slice ao u.length cap, .string ar] 40)
  have sx := stands_new w #[.string nm, .slice ao u.length cap, .string ar] 40
  obtain ⟨w1, hw1⟩ : ∃ w1, w.alloc (.cells #[.string nm, .slice ao u.length cap, .string ar] 40) = w1 := ⟨_, rfl⟩
  rw [hw1] at b0 sx
  have x0 := sx.cell 0 _ rfl
  have cn := w_pnamed nm w1 hn
  have ca := fun w => w_cont47 ar w
  have hok : okS (L nm, u, L ar) = (nmF (L nm) && (decide (u.length ≤ 4) && (L ar).all (fun c => decide (¬ c = 47)))) := rfl
  rw [hok]
  clear hok
  cases hnm : nmF (L nm)
  · rw [hnm] at cn
    go_enter Tryd.func24, Tryd.ntmps24
    go_wp2_with (go_at_call 39; refine cn.mono ?_; rintro e w2 ⟨rfl, b2⟩)
    go_ret
    exact ⟨rfl, below_trans b0 b2⟩
  · rw [hnm] at cn
    by_cases h4 : (u.length : Int) ≤ 4
    · have e4 : decide (u.length ≤ 4) = true := decide_eq_true (by omega)
      rw [e4]
      go_enter Tryd.func24, Tryd.ntmps24
      go_wp2_with (first
        | (go_at_call 39; refine cn.mono ?_; rintro e w2 ⟨rfl, b2⟩; have s2 := sx.below b2; have y1 := s2.cell 1 _ rfl; have y2 := s2.cell 2 _ rfl)
        | (go_at_call 42; refine (ca _).mono ?_; rintro e w3 ⟨rfl, rfl⟩))
      go_ret
      refine ⟨?_, below_trans b0 b2⟩
      have e : (L ar).all (fun c => decide (¬ c = 47)) = (L ar).all (fun c => !decide (c = 47)) := by simp only [decide_not]
      rw [e]
      rfl
    · have e4 : decide (u.length ≤ 4) = false := decide_eq_false (by omega)
      rw [e4]
      go_enter Tryd.func24, Tryd.ntmps24
      go_wp2_with (go_at_call 39; refine cn.mono ?_; rintro e w2 ⟨rfl, b2⟩; have s2 := sx.below b2; have y1 := s2.cell 1 _ rfl; have y2 := s2.cell 2 _ rfl)
      go_ret
      exact ⟨rfl, below_trans b0 b2⟩

set_option maxHeartbeats 1000000 in
set_option maxRecDepth 100000 in
theorem w_pshort (s : ByteArray) (w : World) (hs : s.size ≤ maxLen) :
    Calls Tryd.prog 27 #[.string s] w fun e w' => e = .returned (if 256 < s.size then .tuple #[.string ⟨#[]⟩, .int .i64 3] else .tuple #[.string s, .int .i64 0]) ∧ w' = w := by
  unfold maxLen at hs
  by_cases h : (256 : Int) < s.size
  · rw [if_pos (by omega)]
    go_enter Tryd.func27, Tryd.ntmps27
    go_wp2_with fail
    go_ret2
    exact ⟨rfl, rfl⟩
  · rw [if_neg (by omega)]
    go_enter Tryd.func27, Tryd.ntmps27
    go_wp2_with fail
    go_ret2
    exact ⟨rfl, rfl⟩

set_option maxHeartbeats 4000000 in
set_option maxRecDepth 100000 in
theorem w_pshowstep (nm ar : ByteArray) (v : Value) (u : List Int) (w : World) (hT : Tab w) (hr : Rd .u32 w v u) (hC : cells u) (hz : u.length ≤ 4) (hn : nm.size ≤ 100000000000) (ha : ar.size ≤ 100000000000) :
    Calls Tryd.prog 26 #[.agg #[.string nm, v, .string ar]] w fun e w' => ∃ S, e = .returned (.string S) ∧ L S = bodT (L nm, u, L ar) ∧ Below w.heap.size w w' := by
  have hlen := rd_len hr uU (P := Tryd.prog)
  obtain ⟨ao, cap, rfl, -⟩ := rd_form hr
  have b0 := box_below w (.cells #[.string nm, .slice ao u.length cap, .string ar] 40)
  have sx := stands_new w #[.string nm, .slice ao u.length cap, .string ar] 40
  obtain ⟨w1, hw1⟩ : ∃ w1, w.alloc (.cells #[.string nm, .slice ao u.length cap, .string ar] 40) = w1 := ⟨_, rfl⟩
  rw [hw1] at b0 sx
  have x0 := sx.cell 0 _ rfl
  have x1 := sx.cell 1 _ rfl
  have x2 := sx.cell 2 _ rfl
  have cu := w_psunit _ u w1 (hT.below b0) (hr.below b0) hC (by omega)
  have hSL : L (strOfNums (shoF u)) = shoF u := LB_nums _ (shoF_bytes u hC)
  have hSs : (strOfNums (shoF u)).size ≤ 36 := by
    have := shoF_len u hC
    rw [← L_len, hSL]
    omega
  obtain ⟨S, hS⟩ : ∃ S, strOfNums (shoF u) = S := ⟨_, rfl⟩
  rw [hS] at cu hSs hSL
  have HS := hid hSL
  have hA : ∀ b, (!ar.toList.isEmpty) = b → (L ar = []) = (b = false) := by
    intro b hb
    have : L ar = [] ↔ ar.toList.isEmpty = true := by
      rw [ByteArray.toList_eq, List.isEmpty_iff]
      unfold L
      rw [List.map_eq_nil_iff]
    rw [this, ← hb]
    cases ar.toList.isEmpty <;> simp
  have HA := hid hA
  clear hS hSL hA
  go_enter Tryd.func26, Tryd.ntmps26
  go_wp2_with (go_at_call 44; refine cu.mono ?_; rintro e w2 ⟨rfl, b2⟩; have s2 := sx.below b2; have y1 := s2.cell 1 _ rfl; have y2 := s2.cell 2 _ rfl)
  · rename_i h1 h2
    go_ret
    refine ⟨_, rfl, ?_, below_trans b0 b2⟩
    have hu : ¬ u = [] := by intro e; rw [e] at h1; simp at h1
    have ha : ¬ L ar = [] := by rw [HA.out _ h2]; simp
    show L ((nm ++ (_ ++ S)) ++ (_ ++ ar)) = _
    rw [L_app, L_app, L_app, L_app, HS.out]
    show _ = L nm ++ ((if u = [] then [] else 64 :: shoF u) ++ (if L ar = [] then [] else 58 :: L ar))
    rw [if_neg hu, if_neg ha]
    simp [L]
  · rename_i h1 h2
    go_ret
    refine ⟨_, rfl, ?_, below_trans b0 b2⟩
    have hu : ¬ u = [] := by intro e; rw [e] at h1; simp at h1
    have ha : L ar = [] := by rw [HA.out _ h2]
    show L (nm ++ (_ ++ S)) = _
    rw [L_app, L_app, HS.out]
    show _ = L nm ++ ((if u = [] then [] else 64 :: shoF u) ++ (if L ar = [] then [] else 58 :: L ar))
    rw [if_neg hu, if_pos ha]
    simp [L]
  · rename_i h1 h2
    go_ret
    refine ⟨_, rfl, ?_, b0⟩
    have hu : u = [] := List.eq_nil_of_length_eq_zero (by omega)
    have ha : ¬ L ar = [] := by rw [HA.out _ h2]; simp
    show L (nm ++ (_ ++ ar)) = _
    rw [L_app, L_app]
    show _ = L nm ++ ((if u = [] then [] else 64 :: shoF u) ++ (if L ar = [] then [] else 58 :: L ar))
    rw [if_pos hu, if_neg ha]
    simp [L]
  · rename_i h1 h2
    go_ret
    refine ⟨_, rfl, ?_, b0⟩
    have hu : u = [] := List.eq_nil_of_length_eq_zero (by omega)
    have ha : L ar = [] := by rw [HA.out _ h2]
    show L nm = _
    show _ = L nm ++ ((if u = [] then [] else 64 :: shoF u) ++ (if L ar = [] then [] else 58 :: L ar))
    rw [if_pos hu, if_pos ha]
    simp
end Go.Proofs.YtmjgiaomijghoaaDoor
