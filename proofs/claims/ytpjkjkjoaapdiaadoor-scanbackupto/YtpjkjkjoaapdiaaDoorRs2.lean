/-
  quoted of the document's answer for tokens: where a quoted text ends, and as what.
-/
import Derived.Test.YtpjkjkjoaapdiaaDoorRs1
namespace Go.Proofs.YtpjkjkjoaapdiaaDoor
open Go.ChangeShapes Go.WideShapes Go.ChangeAt Go.RowKit
set_option linter.unusedVariables false
set_option linter.unusedSimpArgs false

/-- a stretch of a text, as a letter -/
theorem str_part (s : ByteArray) (f k : Nat) (h1 : f ≤ k) (h2 : k ≤ s.size) : ∃ T : ByteArray, (∀ w, (Instr.slice 9 (.string s) (some (.int .i64 (f : Int))) (some (.int .i64 (k : Int))) none).run Tryd.prog w = .ok (.string T) w) ∧ L T = cutL (L s) f k ∧ T.size = k - f := by
  have e : L (s.extract f k) = cutL (L s) f k := L_extract s f k h2
  refine ⟨s.extract f k, fun w => ?_, e, ?_⟩
  · simp [Instr.slice, Instr.sliceBounds, run_underlying Tryd.underlying9, run_sliceBound, h1, h2]
  · rw [← L_len, e, cutL_len (L s) f k h1 (by rw [L_len]; exact h2)]

set_option maxHeartbeats 4000000 in
set_option maxRecDepth 100000 in
theorem w_rquoted (s : ByteArray) (i : Nat) (w : World) (hs : s.size ≤ 140737488355328) (hi : i ≤ s.size) :
    Calls Tryd.prog 21 #[.string s, .int .i64 i] w fun e w' => ∃ (T : ByteArray) (to : Nat) (E : Int), e = .returned (.tuple #[.string T, .int .i64 to, .int .i64 E]) ∧ (E = 0 ∧ QO (L s) i to (L T) ∨ (E = 15 ∨ E = 3) ∧ QE (L s) i E) ∧ Below w.heap.size w w' := by
  have hm : s.size ≤ maxLen := by unfold maxLen; omega
  obtain ⟨i0, hi0, hz0, hz1, hz2⟩ := info_parts infoU8
  go_enter Tryd.func21, Tryd.ntmps21
  go_wp2_with fail
  go_loopw [1, 7] (fun I U wx => ∃ (j : Nat) (ys : List Int), (j : Int) ≤ s.size ∧ I = .int .i64 j ∧ Hid (QS (L s) i j ys) ∧ Hid (bytesL ys) ∧ (ys.length : Int) ≤ j ∧ Own8 w.heap.size wx U ys ∧ Below w.heap.size w wx) (fun I _ _ => (s.size + 1 - intOf I).toNat)
  case atStart => exact ⟨i, [], by omega, rfl, hid (QS_start (L s) i (by rw [L_len]; exact hi)), hid (fun x hx => by simp at hx), by simp, World.ownsRow_nil _ _ _ _, Below.refl _ _⟩
  case round =>
    obtain ⟨j, ys, hj, rfl, hQ, hyb, hyl, ho, hb⟩ := hrel
    have cn := w_rnext s j 34 wr hm (by omega) (by omega) (by omega)
    have hge := nx_ge (L s) j 34
    have hle := nx_le (L s) j 34 (by rw [L_len]; omega)
    rw [L_len] at hle
    by_cases hq : nxF (L s) j 34 = s.size
    · have e := hid (QS_open hQ.out (by rw [hq, L_len]))
      rw [hq] at cn
      clear hge hle hq
      go_wp2_with (go_at_call 20; refine cn.mono ?_; rintro e w1 ⟨rfl, b1⟩)
      go_ret3
      exact ⟨_, 0, 15, rfl, Or.inr ⟨Or.inl rfl, e.out⟩, below_trans hb b1⟩
    · obtain ⟨k, hk⟩ : ∃ k, nxF (L s) j 34 = k := ⟨_, rfl⟩
      have HK := hid hk
      rw [hk] at cn hge hle hq
      have hkI : (k : Int) < s.size := by omega
      obtain ⟨T, hT, hTL, hTs⟩ := str_part s j k hge hle
      have HTL := hid hTL
      have hys2 : Hid (ys ++ LB T = ys ++ cutL (L s) j k) := by show _ = _; rw [← hTL]; rfl
      clear hTL hk
      obtain ⟨Y, hY⟩ : ∃ Y, ys ++ LB T = Y := ⟨_, rfl⟩
      have hYl : (Y.length : Int) = ys.length + T.size := by rw [← hY, List.length_append, LB_len]; omega
      have hYb : Hid (bytesL Y) := by show bytesL Y; rw [← hY]; exact bytes_join hyb.out (LB_bytes T)
      rw [hY] at hys2
      have HY := hid hY
      clear hY
      by_cases hlast : (k : Int) + 1 < s.size
      · obtain ⟨c, hr, c0, c1, hc, _⟩ := str_byte s (k + 1) (by omega) hm
        have hr' : ∀ w, (Instr.index 9 (.string s) (.int .i64 ((k : Int) + 1))).run Tryd.prog w = .ok (.int .u8 c) w := hr
        have hnx : k + 1 < (L s).length := by rw [L_len]; omega
        by_cases h40 : c = 40
        · subst h40
          have cn2 := fun w => w_rnext s k 41 w hm (by omega) (by omega) (by omega)
          have hle2 := nx_le (L s) k 41 (by rw [L_len]; omega)
          rw [L_len] at hle2
          obtain ⟨m, hm2⟩ : ∃ m, nxF (L s) k 41 = m := ⟨_, rfl⟩
          have hge2 := QK_hx hQ.out HK.out hnx hc hm2
          rw [hm2] at hle2
          simp only [hm2] at cn2
          by_cases hme : m = s.size
          · have e := hid (QK_hopen hQ.out HK.out hnx hc (by rw [hm2, hme, L_len]))
            subst hme
            clear hm2 hc hr
            go_wp2_with fail
            refine cn.mono ?_
            rintro e w1 ⟨rfl, b1⟩
            have ho1 := own_below ho b1
            have hb1 := below_trans hb b1
            go_wp2_with (at_builtin; refine wpList_append_rds rfl _ _ 44 9 rfl w.heap.size 5 i0 Tryd.underlying44 Tryd.underlying9 hi0 hz0 hz1 hz2 _ ys rfl ho1 T rfl (by unfold maxLen; omega) (by omega) hb1.size ?_; intro v2 w2 ho2 hg2; have hb2 := below_grown hb1 hg2 (fun k hk => (ho1.lt k hk).1); rw [HY.out] at ho2; have hlo := rd_len (Rd_own ho2).1 uB (P := Tryd.prog))
            refine (cn2 _).mono ?_
            rintro e w3 ⟨rfl, b3⟩
            go_wp2_with fail
            go_ret3
            exact ⟨_, 0, 15, rfl, Or.inr ⟨Or.inl rfl, e.out⟩, below_trans hb2 b3⟩
          · have hmI : (m : Int) < s.size := by omega
            have hmb : ((m : Int) == s.size) = false := by simp; omega
            have hnm : m < (L s).length := by rw [L_len]; omega
            obtain ⟨D, hD, hDL, hDs⟩ := str_part s (k + 2) m hge2 hle2
            have hD' : ∀ w, (Instr.slice 9 (.string s) (some (.int .i64 ((k : Int) + 2))) (some (.int .i64 (m : Int))) none).run Tryd.prog w = .ok (.string D) w := hD
            have cd := fun w => w_rdigits D w (by omega)
            rw [hDL] at cd
            have EB := fun h3 => hid (QK_hbad hQ.out HK.out hnx hc hm2 hnm h3)
            have EC := fun b h3 => hid (QK_hon (b := b) hQ.out HK.out hnx hc hm2 hnm h3)
            cases hh : hexG none (cutL (L s) (k + 2) m) with
            | none =>
              have e := EB hh
              rw [hh] at cd
              clear hm2 hc hr EB EC hh hDL hme
              go_wp2_with fail
              refine cn.mono ?_
              rintro e w1 ⟨rfl, b1⟩
              have ho1 := own_below ho b1
              have hb1 := below_trans hb b1
              go_wp2_with (at_builtin; refine wpList_append_rds rfl _ _ 44 9 rfl w.heap.size 5 i0 Tryd.underlying44 Tryd.underlying9 hi0 hz0 hz1 hz2 _ ys rfl ho1 T rfl (by unfold maxLen; omega) (by omega) hb1.size ?_; intro v2 w2 ho2 hg2; have hb2 := below_grown hb1 hg2 (fun k hk => (ho1.lt k hk).1); rw [HY.out] at ho2; have hlo := rd_len (Rd_own ho2).1 uB (P := Tryd.prog))
              refine (cn2 _).mono ?_
              rintro e w3 ⟨rfl, b3⟩
              go_wp2_with (go_at_call 32; refine (cd _).mono ?_; rintro e w4 ⟨v4, rfl, r4, b4⟩)
              go_ret3
              exact ⟨_, 0, 15, rfl, Or.inr ⟨Or.inl rfl, e.out⟩, below_trans (below_trans hb2 b3) b4⟩
            | some b =>
              have e := EC b hh
              rw [hh] at cd
              have hys3 : Hid (QS (L s) i (m + 1) (Y ++ b)) := by show QS _ _ _ _; rw [hys2.out]; exact e.out
              have hb5 : Hid (bytesL (Y ++ b)) := bytes_join hYb.out (hexG_bytes _ none b (bytes_take (bytes_drop (LB_bytes s) _) _) (fun n hn => by cases hn) hh)
              clear hm2 hc hr EB EC hh hDL hme e
              go_wp2_with fail
              refine cn.mono ?_
              rintro e w1 ⟨rfl, b1⟩
              have ho1 := own_below ho b1
              have hb1 := below_trans hb b1
              go_wp2_with (at_builtin; refine wpList_append_rds rfl _ _ 44 9 rfl w.heap.size 5 i0 Tryd.underlying44 Tryd.underlying9 hi0 hz0 hz1 hz2 _ ys rfl ho1 T rfl (by unfold maxLen; omega) (by omega) hb1.size ?_; intro v2 w2 ho2 hg2; have hb2 := below_grown hb1 hg2 (fun k hk => (ho1.lt k hk).1); rw [HY.out] at ho2; have hlo := rd_len (Rd_own ho2).1 uB (P := Tryd.prog))
              refine (cn2 _).mono ?_
              rintro e w3 ⟨rfl, b3⟩
              have hb3 := below_trans hb2 b3
              have ho3 := own_below ho2 b3
              go_wp2_with (first
                | (go_at_call 32; refine (cd _).mono ?_; rintro e w4 ⟨v4, rfl, r4, b4⟩; obtain ⟨r4, hbl⟩ := r4 b rfl; have ho4 := own_below ho3 b4; have hb4 := below_trans hb3 b4)
                | (at_builtin; refine wpList_append_rd (k := .u8) rfl _ _ 44 rfl w.heap.size 5 i0 1 Tryd.underlying44 hi0 hz0 hz1 hz2 _ Y rfl ho4 _ b rfl r4 (by unfold maxLen; omega) (by omega) hb4.size ?_; intro v5 w5 ho5 hg5))
              go_roundw
              case rel => exact ⟨m + 1, Y ++ b, by omega, by go_num, hys3, hb5, by rw [List.length_append]; omega, ho5, below_grown hb4 hg5 (fun k hk => (ho4.lt k hk).1)⟩
              case measure => simp [intOf]; omega
        · have hcb : (c == 40) = false := by simp [h40]
          have cb := fun w => w_rblank s (k + 1) w hm
          have hbk := blk_in (L s) (k + 1) c hnx hc
          have cb' : ∀ w, Calls Tryd.prog 17 #[.string s, .int .i64 ((k : Int) + 1)] w fun e w' => e = .returned (.bool (blkF (L s) (k + 1))) ∧ w' = w := cb
          rw [hbk] at cb'
          by_cases h32 : c ≤ 32
          · have h1 : ∀ g : k + 1 < (L s).length, (L s)[k + 1] ≤ 32 := fun g => by rw [hc]; exact h32
            have hd32 : decide (c ≤ 32) = true := by simp [h32]
            rw [hd32] at cb'
            by_cases hlong : (255 : Int) < Y.length
            · have e := hid (QK_long hQ.out HK.out (by rw [L_len]; omega) h1 (by rw [← hys2.out]; omega))
              clear hc hr h1 cb hbk h40 h32 hd32
              go_wp2_with fail
              refine cn.mono ?_
              rintro e w1 ⟨rfl, b1⟩
              have ho1 := own_below ho b1
              have hb1 := below_trans hb b1
              go_wp2_with (at_builtin; refine wpList_append_rds rfl _ _ 44 9 rfl w.heap.size 5 i0 Tryd.underlying44 Tryd.underlying9 hi0 hz0 hz1 hz2 _ ys rfl ho1 T rfl (by unfold maxLen; omega) (by omega) hb1.size ?_; intro v2 w2 ho2 hg2; have hb2 := below_grown hb1 hg2 (fun k hk => (ho1.lt k hk).1); rw [HY.out] at ho2; have hlo := rd_len (Rd_own ho2).1 uB (P := Tryd.prog))
              refine (cb' _).mono ?_
              rintro e w3 ⟨rfl, rfl⟩
              go_wp2_with fail
              go_ret3
              exact ⟨_, 0, 3, rfl, Or.inr ⟨Or.inr rfl, e.out⟩, hb2⟩
            · have e := hid (QK_done hQ.out HK.out (by rw [L_len]; omega) h1 (by rw [← hys2.out]; omega))
              clear hc hr h1 cb hbk h40 h32 hd32
              go_wp2_with fail
              refine cn.mono ?_
              rintro e w1 ⟨rfl, b1⟩
              have ho1 := own_below ho b1
              have hb1 := below_trans hb b1
              go_wp2_with (at_builtin; refine wpList_append_rds rfl _ _ 44 9 rfl w.heap.size 5 i0 Tryd.underlying44 Tryd.underlying9 hi0 hz0 hz1 hz2 _ ys rfl ho1 T rfl (by unfold maxLen; omega) (by omega) hb1.size ?_; intro v2 w2 ho2 hg2; have hb2 := below_grown hb1 hg2 (fun k hk => (ho1.lt k hk).1); rw [HY.out] at ho2; have hlo := rd_len (Rd_own ho2).1 uB (P := Tryd.prog); have cs := rd_strT (Rd_own ho2).1)
              refine (cb' _).mono ?_
              rintro e w3 ⟨rfl, rfl⟩
              go_wp2_with fail
              go_ret3
              refine ⟨_, k + 1, 0, rfl, Or.inl ⟨rfl, ?_⟩, hb2⟩
              rw [show L (strOfNums Y) = Y from LB_nums Y hYb.out, hys2.out]
              exact e.out
          · have e := hid (QK_wrong hQ.out HK.out c hnx hc h40 h32)
            have hd32 : decide (c ≤ 32) = false := by simp [h32]
            rw [hd32] at cb'
            clear hc hr cb hbk h40 h32 hd32
            go_wp2_with fail
            refine cn.mono ?_
            rintro e w1 ⟨rfl, b1⟩
            have ho1 := own_below ho b1
            have hb1 := below_trans hb b1
            go_wp2_with (at_builtin; refine wpList_append_rds rfl _ _ 44 9 rfl w.heap.size 5 i0 Tryd.underlying44 Tryd.underlying9 hi0 hz0 hz1 hz2 _ ys rfl ho1 T rfl (by unfold maxLen; omega) (by omega) hb1.size ?_; intro v2 w2 ho2 hg2; have hb2 := below_grown hb1 hg2 (fun k hk => (ho1.lt k hk).1); rw [HY.out] at ho2; have hlo := rd_len (Rd_own ho2).1 uB (P := Tryd.prog))
            refine (cb' _).mono ?_
            rintro e w3 ⟨rfl, rfl⟩
            go_wp2_with fail
            go_ret3
            exact ⟨_, 0, 15, rfl, Or.inr ⟨Or.inl rfl, e.out⟩, hb2⟩
      · have h1 : ∀ g : k + 1 < (L s).length, (L s)[k + 1] ≤ 32 := fun g => absurd g (by rw [L_len]; omega)
        by_cases hlong : (255 : Int) < Y.length
        · have e := hid (QK_long hQ.out HK.out (by rw [L_len]; omega) h1 (by rw [← hys2.out]; omega))
          clear h1
          go_wp2_with fail
          refine cn.mono ?_
          rintro e w1 ⟨rfl, b1⟩
          have ho1 := own_below ho b1
          have hb1 := below_trans hb b1
          go_wp2_with (at_builtin; refine wpList_append_rds rfl _ _ 44 9 rfl w.heap.size 5 i0 Tryd.underlying44 Tryd.underlying9 hi0 hz0 hz1 hz2 _ ys rfl ho1 T rfl (by unfold maxLen; omega) (by omega) hb1.size ?_; intro v2 w2 ho2 hg2; have hb2 := below_grown hb1 hg2 (fun k hk => (ho1.lt k hk).1); rw [HY.out] at ho2; have hlo := rd_len (Rd_own ho2).1 uB (P := Tryd.prog))
          go_ret3
          exact ⟨_, 0, 3, rfl, Or.inr ⟨Or.inr rfl, e.out⟩, hb2⟩
        · have e := hid (QK_done hQ.out HK.out (by rw [L_len]; omega) h1 (by rw [← hys2.out]; omega))
          clear h1
          go_wp2_with fail
          refine cn.mono ?_
          rintro e w1 ⟨rfl, b1⟩
          have ho1 := own_below ho b1
          have hb1 := below_trans hb b1
          go_wp2_with (at_builtin; refine wpList_append_rds rfl _ _ 44 9 rfl w.heap.size 5 i0 Tryd.underlying44 Tryd.underlying9 hi0 hz0 hz1 hz2 _ ys rfl ho1 T rfl (by unfold maxLen; omega) (by omega) hb1.size ?_; intro v2 w2 ho2 hg2; have hb2 := below_grown hb1 hg2 (fun k hk => (ho1.lt k hk).1); rw [HY.out] at ho2; have hlo := rd_len (Rd_own ho2).1 uB (P := Tryd.prog); have cs := rd_strT (Rd_own ho2).1)
          go_ret3
          refine ⟨_, k + 1, 0, rfl, Or.inl ⟨rfl, ?_⟩, hb2⟩
          rw [show L (strOfNums Y) = Y from LB_nums Y hYb.out, hys2.out]
          exact e.out
end Go.Proofs.YtpjkjkjoaapdiaaDoor
