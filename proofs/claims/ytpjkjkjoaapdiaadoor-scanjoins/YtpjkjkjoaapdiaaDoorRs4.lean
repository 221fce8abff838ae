/-
  Good, Show, Same of the document's answer for tokens.
-/
import Derived.Test.YtpjkjkjoaapdiaaDoorRs3
namespace Go.Proofs.YtpjkjkjoaapdiaaDoor
open Go.ChangeShapes Go.WideShapes Go.ChangeAt Go.RowKit
set_option linter.unusedVariables false
set_option linter.unusedSimpArgs false

theorem good_text (k : Int) (t : List Int) (hk : k = 2 ∨ k = 3) : good k t = decide (t.length ≤ 255) := by
  have : ¬ k = 1 := by omega
  simp [good, this, hk]
theorem good_word (t : List Int) : good 1 t = (decide (t ≠ []) && !spec t && decide (t.map sm = t) && t.all (fun c => decide (32 < c))) := by
  rw [Bool.eq_iff_iff]
  simp [good]
  constructor
  · rintro ⟨⟨a, b, c⟩, d⟩; exact ⟨⟨⟨a, d⟩, b⟩, c⟩
  · rintro ⟨⟨⟨a, d⟩, b⟩, c⟩; exact ⟨⟨a, b, c⟩, d⟩
theorem good_other (k : Int) (t : List Int) (h1 : ¬ k = 1) (h2 : ¬ k = 2) (h3 : ¬ k = 3) : good k t = false := by simp [good, h1, h2, h3]
theorem str_eq_L (A B : ByteArray) : (A.toList == B.toList) = decide (L A = L B) := by
  rw [str_beq]
  congr 1
  apply propext
  constructor
  · intro h; rw [h]
  · intro h; rw [← toB_L A, ← toB_L B, h]

theorem below_drew {a b : World} (h : Below a.heap.size a b) : Below a.heap.size a b.drew := h.trans ⟨rfl, rfl, rfl, Nat.le_refl _, fun _ _ => rfl⟩

set_option maxHeartbeats 1000000 in
theorem w_rgood (k p : Int) (T : ByteArray) (w : World) (hT : T.size ≤ 140737488355328) :
    Calls Tryd.prog 24 #[.agg #[.int .i64 k, .string T, .int .i64 p]] w fun e w' => e = .returned (.bool (good k (L T))) ∧ Below w.heap.size w w' := by
  have hm : T.size ≤ maxLen := by unfold maxLen; omega
  by_cases h23 : k = 2 ∨ k = 3
  · have e : good k (L T) = decide ((T.size : Int) ≤ 255) := by rw [good_text k _ h23, L_len]; congr 1; apply propext; omega
    rw [e]
    clear e
    rcases h23 with rfl | rfl
    all_goals go_enter Tryd.func24, Tryd.ntmps24
    all_goals go_wp2_with fail
    all_goals go_ret
    all_goals exact ⟨rfl, by first | exact Below.refl _ _ | exact box_below _ _⟩
  · have n2 : (k == 2) = false := by simp; omega
    have n3 : (k == 3) = false := by simp; omega
    by_cases h1 : k = 1
    · subst h1
      have csp := fun w => w_rspecial T w
      have csm := fun w => w_rsmallT T w hT
      have hMb : bytesL ((L T).map sm) := by
        intro x hx
        simp only [List.mem_map] at hx
        obtain ⟨c, hc, rfl⟩ := hx
        have := LB_bytes T c hc
        exact sm_bd c this.1 this.2
      have hML : L (strOfNums ((L T).map sm)) = (L T).map sm := LB_nums _ hMb
      obtain ⟨M, hM⟩ : ∃ M, strOfNums ((L T).map sm) = M := ⟨_, rfl⟩
      simp only [hM] at csm
      rw [hM] at hML
      have hMT := str_eq_L M T
      rw [hML] at hMT
      have hgw := good_word (L T)
      have hT0 : (T.toList == []) = decide (L T = []) := by
        rw [Bool.eq_iff_iff, beq_iff_eq, decide_eq_true_eq]
        exact L_toList T []
      clear hM hML hMb n2 n3 h23
      by_cases he : L T = []
      · have e : good 1 (L T) = false := by rw [hgw]; simp [he]
        rw [e]
        have hb : (T.toList == []) = true := by rw [hT0]; simp [he]
        clear e hgw hT0 hMT he
        go_enter Tryd.func24, Tryd.ntmps24
        go_wp2_with fail
        go_quiet (fail)
        go_wp2_with fail
        go_ret
        exact ⟨rfl, below_drewN (box_below _ _) _⟩
      · have hb : (T.toList == []) = false := by rw [hT0]; simp [he]
        cases hsp : spec (L T)
        · rw [hsp] at csp
          by_cases hq : (L T).map sm = L T
          · have hb2 : (M.toList == T.toList) = true := by rw [hMT]; simp [hq]
            have e : good 1 (L T) = (L T).all (fun c => decide (32 < c)) := by rw [hgw]; simp [he, hsp, hq]
            obtain ⟨G, hG⟩ : ∃ G, good 1 (L T) = G := ⟨_, rfl⟩
            rw [hG]
            have HG := hid (hG.symm.trans e)
            clear e hG hgw hT0 hMT he hsp hq
            go_enter Tryd.func24, Tryd.ntmps24
            go_wp2_with fail
            go_region_with (first
              | (go_at_call 18; refine (csp _).mono ?_; rintro e w1 ⟨rfl, rfl⟩)
              | (go_at_call 19; refine (csm _).mono ?_; rintro e w2 ⟨rfl, b2⟩; have c1 := below_cell b2 (box_cell w #[.int .i64 1, .string T, .int .i64 p] 33 1 _ rfl); have hbb := below_trans (by first | exact box_below w _ | exact below_drew (box_below w _) | exact below_drew (below_drew (box_below w _)) | exact below_drew (below_drew (below_drew (box_below w _)))) b2))
            all_goals
              go_wp2_with fail
              go_loopw [3] (fun I wx => ∃ j : Nat, (j : Int) ≤ T.size ∧ I = .int .i64 j ∧ Hid (((L T).take j).all (fun c => decide (32 < c)) = true) ∧ wx.cell? ⟨w.heap.size, 1, none⟩ = some (.string T) ∧ Below w.heap.size w wx) (fun I _ => (T.size - intOf I).toNat)
              case atStart => exact ⟨0, by omega, rfl, hid rfl, c1, by first | exact hbb | exact below_drew hbb | exact below_drew (below_drew hbb)⟩
              case round =>
                obtain ⟨j, hj, rfl, ha, hcell, hb3⟩ := hrel
                by_cases hlt : (j : Int) < T.size
                · obtain ⟨c, hr, c0, c1', hc, hd⟩ := str_byte T j (by omega) hm
                  have hjl : j < (L T).length := by rw [L_len]; omega
                  have cb := fun w => w_rblank T j w hm
                  rw [blk_in (L T) j c hjl hc] at cb
                  by_cases hbl : c ≤ 32
                  · have e : Hid (G = false) := by
                      show _ = _
                      rw [HG.out, Bool.eq_false_iff]
                      intro hall
                      rw [List.all_eq_true] at hall
                      have := hall c (by rw [← hc]; exact List.getElem_mem hjl)
                      simp at this
                      omega
                    have hdd : decide (c ≤ 32) = true := by simp [hbl]
                    rw [hdd] at cb
                    clear hc hd hdd
                    go_wp2_with (go_at_call 17; refine (cb _).mono ?_; rintro e w5 ⟨rfl, rfl⟩)
                    go_ret
                    exact ⟨ret_b e.out.symm, hb3⟩
                  · have ha2 : Hid (((L T).take (j + 1)).all (fun c => decide (32 < c)) = true) := by
                      show _ = _
                      rw [List.take_succ_eq_append_getElem hjl, List.all_append, ha.out, hc]
                      simp
                      omega
                    have hdd : decide (c ≤ 32) = false := by simp [hbl]
                    rw [hdd] at cb
                    clear hc hd hdd
                    go_wp2_with (go_at_call 17; refine (cb _).mono ?_; rintro e w5 ⟨rfl, rfl⟩)
                    go_roundw
                    case rel => exact ⟨j + 1, by omega, by go_num, ha2, hcell, hb3⟩
                    case measure => simp [intOf]; omega
                · have e : Hid (G = true) := by
                    show _ = _
                    have := ha.out
                    rw [List.take_of_length_le (by rw [L_len]; omega)] at this
                    rw [HG.out, this]
                  go_wp2_with fail
                  go_ret
                  exact ⟨ret_b e.out.symm, hb3⟩
            all_goals
              go_wp2_with fail
              go_ret
              exact ⟨rfl, by first | exact hbb | exact below_drew hbb | exact below_drew (below_drew hbb)⟩
          · have hb2 : (M.toList == T.toList) = false := by rw [hMT]; simp [hq]
            have e : good 1 (L T) = false := by rw [hgw]; simp [he, hsp, hq]
            rw [e]
            clear e hgw hT0 hMT he hsp hq
            go_enter Tryd.func24, Tryd.ntmps24
            go_wp2_with fail
            go_region_with (first
              | (go_at_call 18; refine (csp _).mono ?_; rintro e w1 ⟨rfl, rfl⟩)
              | (go_at_call 19; refine (csm _).mono ?_; rintro e w2 ⟨rfl, b2⟩; have c1 := below_cell b2 (box_cell w #[.int .i64 1, .string T, .int .i64 p] 33 1 _ rfl); have hbb := below_trans (by first | exact box_below w _ | exact below_drew (box_below w _) | exact below_drew (below_drew (box_below w _)) | exact below_drew (below_drew (below_drew (box_below w _)))) b2))
            all_goals
              go_wp2_with fail
              go_ret
              exact ⟨rfl, by first | exact hbb | exact below_drew hbb | exact below_drew (below_drew hbb)⟩
        · rw [hsp] at csp
          have e : good 1 (L T) = false := by rw [hgw]; simp [he, hsp]
          rw [e]
          clear e hgw hT0 hMT he hsp
          go_enter Tryd.func24, Tryd.ntmps24
          go_wp2_with fail
          go_quiet ((go_at_call 18; exact Calls.quiet_of_same (csp _)))
          go_wp2_with fail
          go_ret
          exact ⟨rfl, below_drewN (box_below _ _) _⟩
    · have e : good k (L T) = false := good_other k _ h1 (by omega) (by omega)
      rw [e]
      have hb : (k != 1) = true := by simp [h1]
      clear e h1 h23
      go_enter Tryd.func24, Tryd.ntmps24
      go_wp2_with fail
      go_quiet (fail)
      go_wp2_with fail
      go_ret
      exact ⟨rfl, below_drewN (box_below _ _) _⟩
end Go.Proofs.YtpjkjkjoaapdiaaDoor
