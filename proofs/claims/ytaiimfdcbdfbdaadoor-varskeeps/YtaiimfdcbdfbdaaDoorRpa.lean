/-
  Parse of the document's answer returns the plain reading of a text, for all texts and bases.
-/
import Derived.Test.YtaiimfdcbdfbdaaDoorRdg
namespace Go.Proofs.YtaiimfdcbdfbdaaDoor
open Go.ChangeShapes Go.WideShapes Go.ChangeAt Go.RowKit
set_option linter.unusedVariables false
set_option linter.unusedSimpArgs false

set_option maxHeartbeats 2000000 in
theorem w_rparse_pos (s : ByteArray) (b : Int) (w : World) (hs : s.size ≤ maxLen) (b0 : 2 ≤ b) (b1 : b ≤ 36) (hz : 0 < s.size) (hc : ((s[0].toNat : Int) == 45) = false) :
    Calls Tryd.prog 33 #[.string s, .int .u32 b] w fun e w' => e = .returned (.tuple #[.int .u32 (prsT false (L s) b).1, .int .i64 (prsT false (L s) b).2]) ∧ Gr w w' := by
  unfold maxLen at hs
  have hz2 : ((s.size : Int) == 0) = false := beq_eq_false_iff_ne.2 (by omega)
  go_enter Tryd.func33, Tryd.ntmps33
  go_wp2_with fail
  go_loopw [7, 8, 9] (fun N B i wx => ∃ (k : Nat) (n : Int) (bg : Bool), (k : Int) ≤ s.size ∧ i = .int .i64 k ∧ N = .int .u64 n ∧ B = .bool bg ∧ Hid (allD b ((L s).take k) = true) ∧ 0 ≤ n ∧ n ≤ 154618822655 ∧ Hid (bg = true → 4294967296 ≤ num b ((L s).take k)) ∧ Hid (bg = false → n = num b ((L s).take k) ∧ n < 4294967296) ∧ Gr w wx) (fun _ _ i _ => (s.size - intOf i).toNat)
  case atStart => exact ⟨0, 0, false, by omega, rfl, rfl, rfl, by show _ = _; simp [allD], by omega, by omega, hid (fun h => by cases h), hid (fun _ => ⟨by simp [num], by omega⟩), Gr.refl _⟩
  case round =>
    obtain ⟨k, n, bg, hk, rfl, rfl, rfl, hA, n0, n1, hB1, hB2, hgr⟩ := hrel
    by_cases hlt : (k : Int) < s.size
    · have hks : k < s.size := by omega
      obtain ⟨c0, c1⟩ := L_bd s k hks
      have ht : Hid ((L s).take (k + 1) = (L s).take k ++ [(s[k].toNat : Int)]) := L_take s k hks
      obtain ⟨v0, v1⟩ := vl_bd (s[k].toNat : Int) b c0 c1
      cases hd : isD (s[k].toNat : Int) b
      · have hfin : Hid (prsT false (L s) b = (0, 15)) := by
          show _ = _
          have e : L s = (L s).take k ++ (s[k].toNat : Int) :: (L s).drop (k + 1) := by rw [← L_drop s k hks, List.take_append_drop]
          have : allD b (L s) = false := by rw [e]; exact allD_mid b _ _ _ hd
          unfold prsT; simp [this]
        go_wp2_with (go_at_call 45; refine (w_rvalue _ _ _ c0 c1 (by omega) (by omega)).mono ?_; rintro e w1 ⟨rfl, hg1⟩)
        go_ret2
        exact ⟨by rw [hfin.out]; rfl, grown_trans hgr hg1⟩
      · have hA2 : Hid (allD b ((L s).take (k + 1)) = true) := by show _ = _; rw [ht.out, allD_snoc, hA.out, hd]; rfl
        cases bg
        · obtain ⟨hn, n2⟩ := hB2.out rfl
          obtain ⟨m0, m1⟩ := mul_b n b n0 n2 b0 b1
          have hnum : Hid (num b ((L s).take (k + 1)) = n * b + vl (s[k].toNat : Int) b) := by show _ = _; rw [ht.out, num_snoc, ← hn]
          clear hn
          rcases (show 4294967296 ≤ n * b + vl (s[k].toNat : Int) b ∨ n * b + vl (s[k].toNat : Int) b < 4294967296 by omega) with hbig | hbig
          · have hbb : decide (4294967296 ≤ n * b + vl (s[k].toNat : Int) b) = true := by simp; omega
            go_wp2_with (go_at_call 45; refine (w_rvalue _ _ _ c0 c1 (by omega) (by omega)).mono ?_; rintro e w1 ⟨rfl, hg1⟩)
            go_roundw
            case rel => exact ⟨k + 1, n * b + vl (s[k].toNat : Int) b, true, by omega, by go_num, rfl, rfl, hA2, by omega, by omega, hid (fun _ => by rw [hnum.out]; omega), hid (fun h => by cases h), grown_trans hgr hg1⟩
            case measure => simp [intOf]; omega
          · have hbb : decide (4294967296 ≤ n * b + vl (s[k].toNat : Int) b) = false := by simp; omega
            go_wp2_with (go_at_call 45; refine (w_rvalue _ _ _ c0 c1 (by omega) (by omega)).mono ?_; rintro e w1 ⟨rfl, hg1⟩)
            go_roundw
            case rel => exact ⟨k + 1, n * b + vl (s[k].toNat : Int) b, false, by omega, by go_num, rfl, rfl, hA2, by omega, by omega, hid (fun h => by cases h), hid (fun _ => ⟨by rw [hnum.out], hbig⟩), grown_trans hgr hg1⟩
            case measure => simp [intOf]; omega
        · have hge : Hid (4294967296 ≤ num b ((L s).take (k + 1))) := by
            show _ ≤ _
            rw [ht.out, num_snoc]
            have := mul_ge _ b (hB1.out rfl) b0
            omega
          go_wp2_with (go_at_call 45; refine (w_rvalue _ _ _ c0 c1 (by omega) (by omega)).mono ?_; rintro e w1 ⟨rfl, hg1⟩)
          go_roundw
          case rel => exact ⟨k + 1, n, true, by omega, by go_num, rfl, rfl, hA2, by omega, by omega, hid (fun _ => hge.out), hid (fun h => by cases h), grown_trans hgr hg1⟩
          case measure => simp [intOf]; omega
    · obtain rfl : k = s.size := by omega
      have hne : ¬ L s = [] := by intro h; have := L_len s; rw [h] at this; simp at this; omega
      have htk : (L s).take s.size = L s := List.take_of_length_le (by rw [L_len]; exact Nat.le_refl _)
      rw [htk] at hA hB1 hB2
      cases bg
      · obtain ⟨hn, n2⟩ := hB2.out rfl
        have hfin : Hid (prsT false (L s) b = (n, 0)) := by
          show _ = _
          unfold prsT; rw [if_neg hne, if_neg (by rw [hA.out]; decide), if_neg (by omega)]; simp [← hn]
        clear hn htk
        go_wp2_with fail
        go_ret2
        exact ⟨by rw [hfin.out]; exact ret_ii (by simp; try omega) rfl, hgr⟩
      · have hfin : Hid (prsT false (L s) b = (0, 4)) := by
          show _ = _
          have := hB1.out rfl
          unfold prsT; rw [if_neg hne, if_neg (by rw [hA.out]; decide), if_pos this]
        clear htk
        go_wp2_with fail
        go_ret2
        exact ⟨by rw [hfin.out]; rfl, hgr⟩

set_option maxHeartbeats 2000000 in
theorem w_rparse_neg (s : ByteArray) (b : Int) (w : World) (hs : s.size ≤ maxLen) (b0 : 2 ≤ b) (b1 : b ≤ 36) (hz : 1 < s.size) (hc : ((s[0]'(by omega)).toNat : Int) = 45) :
    Calls Tryd.prog 33 #[.string s, .int .u32 b] w fun e w' => e = .returned (.tuple #[.int .u32 (prsT true (L s).tail b).1, .int .i64 (prsT true (L s).tail b).2]) ∧ Gr w w' := by
  unfold maxLen at hs
  have hz2 : (((s.size - 1 : Nat) : Int) == 0) = false := beq_eq_false_iff_ne.2 (by omega)
  have hz3 : 0 < s.size := by omega
  have hc2 : ((s[0].toNat : Int) == 45) = true := by simp [hc]
  obtain ⟨T, hT⟩ : ∃ T, s.extract 1 s.size = T := ⟨_, rfl⟩
  have hTz : T.size = s.size - 1 := by rw [← hT]; simp
  have hTL : Hid (L T = (L s).tail) := by show _ = _; rw [← hT]; exact L_tail s
  rw [← hTL.out]
  clear hc
  go_enter Tryd.func33, Tryd.ntmps33
  go_wp2_with fail
  have hTz2 : 0 < T.size := by omega
  have hTz3 : T.size ≤ 9223372036854775807 := by omega
  clear hT hTz
  go_loopw [7, 8, 9] (fun N B i wx => ∃ (k : Nat) (n : Int) (bg : Bool), (k : Int) ≤ T.size ∧ i = .int .i64 k ∧ N = .int .u64 n ∧ B = .bool bg ∧ Hid (allD b ((L T).take k) = true) ∧ 0 ≤ n ∧ n ≤ 154618822655 ∧ Hid (bg = true → 4294967296 ≤ num b ((L T).take k)) ∧ Hid (bg = false → n = num b ((L T).take k) ∧ n < 4294967296) ∧ Gr w wx) (fun _ _ i _ => (T.size - intOf i).toNat)
  case atStart => exact ⟨0, 0, false, by omega, rfl, rfl, rfl, by show _ = _; simp [allD], by omega, by omega, hid (fun h => by cases h), hid (fun _ => ⟨by simp [num], by omega⟩), Gr.refl _⟩
  case round =>
    obtain ⟨k, n, bg, hk, rfl, rfl, rfl, hA, n0, n1, hB1, hB2, hgr⟩ := hrel
    by_cases hlt : (k : Int) < T.size
    · have hks : k < T.size := by omega
      obtain ⟨c0, c1⟩ := L_bd T k hks
      have ht : Hid ((L T).take (k + 1) = (L T).take k ++ [(T[k].toNat : Int)]) := L_take T k hks
      obtain ⟨v0, v1⟩ := vl_bd (T[k].toNat : Int) b c0 c1
      cases hd : isD (T[k].toNat : Int) b
      · have hfin : Hid (prsT true (L T) b = (0, 15)) := by
          show _ = _
          have e : L T = (L T).take k ++ (T[k].toNat : Int) :: (L T).drop (k + 1) := by rw [← L_drop T k hks, List.take_append_drop]
          have : allD b (L T) = false := by rw [e]; exact allD_mid b _ _ _ hd
          unfold prsT; simp [this]
        go_wp2_with (go_at_call 45; refine (w_rvalue _ _ _ c0 c1 (by omega) (by omega)).mono ?_; rintro e w1 ⟨rfl, hg1⟩)
        go_ret2
        exact ⟨by rw [hfin.out]; rfl, grown_trans hgr hg1⟩
      · have hA2 : Hid (allD b ((L T).take (k + 1)) = true) := by show _ = _; rw [ht.out, allD_snoc, hA.out, hd]; rfl
        cases bg
        · obtain ⟨hn, n2⟩ := hB2.out rfl
          obtain ⟨m0, m1⟩ := mul_b n b n0 n2 b0 b1
          have hnum : Hid (num b ((L T).take (k + 1)) = n * b + vl (T[k].toNat : Int) b) := by show _ = _; rw [ht.out, num_snoc, ← hn]
          clear hn
          rcases (show 4294967296 ≤ n * b + vl (T[k].toNat : Int) b ∨ n * b + vl (T[k].toNat : Int) b < 4294967296 by omega) with hbig | hbig
          · have hbb : decide (4294967296 ≤ n * b + vl (T[k].toNat : Int) b) = true := by simp; omega
            go_wp2_with (go_at_call 45; refine (w_rvalue _ _ _ c0 c1 (by omega) (by omega)).mono ?_; rintro e w1 ⟨rfl, hg1⟩)
            go_roundw
            case rel => exact ⟨k + 1, n * b + vl (T[k].toNat : Int) b, true, by omega, by go_num, rfl, rfl, hA2, by omega, by omega, hid (fun _ => by rw [hnum.out]; omega), hid (fun h => by cases h), grown_trans hgr hg1⟩
            case measure => simp [intOf]; omega
          · have hbb : decide (4294967296 ≤ n * b + vl (T[k].toNat : Int) b) = false := by simp; omega
            go_wp2_with (go_at_call 45; refine (w_rvalue _ _ _ c0 c1 (by omega) (by omega)).mono ?_; rintro e w1 ⟨rfl, hg1⟩)
            go_roundw
            case rel => exact ⟨k + 1, n * b + vl (T[k].toNat : Int) b, false, by omega, by go_num, rfl, rfl, hA2, by omega, by omega, hid (fun h => by cases h), hid (fun _ => ⟨by rw [hnum.out], hbig⟩), grown_trans hgr hg1⟩
            case measure => simp [intOf]; omega
        · have hge : Hid (4294967296 ≤ num b ((L T).take (k + 1))) := by
            show _ ≤ _
            rw [ht.out, num_snoc]
            have := mul_ge _ b (hB1.out rfl) b0
            omega
          go_wp2_with (go_at_call 45; refine (w_rvalue _ _ _ c0 c1 (by omega) (by omega)).mono ?_; rintro e w1 ⟨rfl, hg1⟩)
          go_roundw
          case rel => exact ⟨k + 1, n, true, by omega, by go_num, rfl, rfl, hA2, by omega, by omega, hid (fun _ => hge.out), hid (fun h => by cases h), grown_trans hgr hg1⟩
          case measure => simp [intOf]; omega
    · obtain rfl : k = T.size := by omega
      have hne : ¬ L T = [] := by intro h; have := L_len T; rw [h] at this; simp at this; omega
      have htk : (L T).take T.size = L T := List.take_of_length_le (by rw [L_len]; exact Nat.le_refl _)
      rw [htk] at hA hB1 hB2
      cases bg
      · obtain ⟨hn, n2⟩ := hB2.out rfl
        have hfin : Hid (prsT true (L T) b = ((4294967296 - n) % 4294967296, 0)) := by
          show _ = _
          unfold prsT; rw [if_neg hne, if_neg (by rw [hA.out]; decide), if_neg (by omega)]; simp [← hn]
        clear hn htk
        go_wp2_with fail
        go_ret2
        exact ⟨by rw [hfin.out]; exact ret_ii (by simp; try omega) rfl, hgr⟩
      · have hfin : Hid (prsT true (L T) b = (0, 4)) := by
          show _ = _
          have := hB1.out rfl
          unfold prsT; rw [if_neg hne, if_neg (by rw [hA.out]; decide), if_pos this]
        clear htk
        go_wp2_with fail
        go_ret2
        exact ⟨by rw [hfin.out]; rfl, hgr⟩

set_option maxHeartbeats 1000000 in
theorem w_rparse (s : ByteArray) (b : Int) (w : World) (hs : s.size ≤ maxLen) (g0 : 0 ≤ b) (g1 : b < 4294967296) :
    Calls Tryd.prog 33 #[.string s, .int .u32 b] w fun e w' => e = .returned (.tuple #[.int .u32 (prs (L s) b).1, .int .i64 (prs (L s) b).2]) ∧ Gr w w' := by
  by_cases hb : b < 2 ∨ 36 < b
  · have e1 : prs (L s) b = (0, 1) := by unfold prs; rw [if_pos hb]
    rw [e1]
    rcases hb with hb | hb
    · go_enter Tryd.func33, Tryd.ntmps33
      go_wp2
      go_ret2
      exact ⟨rfl, Gr.refl _⟩
    · have : ¬ b < 2 := by omega
      go_enter Tryd.func33, Tryd.ntmps33
      go_wp2
      go_ret2
      exact ⟨rfl, Gr.refl _⟩
  · have b0 : 2 ≤ b := by omega
    have b1 : b ≤ 36 := by omega
    rcases (show s.size = 0 ∨ 0 < s.size by omega) with hz | hz
    · have e1 : prs (L s) b = (0, 15) := by
        have : L s = [] := List.eq_nil_of_length_eq_zero (by rw [L_len]; exact hz)
        unfold prs; rw [if_neg hb, this]; simp [prsT]
      rw [e1]
      clear hb
      go_enter Tryd.func33, Tryd.ntmps33
      go_wp2
      all_goals go_ret2
      all_goals exact ⟨rfl, Gr.refl _⟩
    · have hh : (L s).head? = some (s[0].toNat : Int) := by rw [List.head?_eq_getElem?, List.getElem?_eq_getElem (by rw [L_len]; exact hz), L_get s 0 hz]
      by_cases hc : (s[0].toNat : Int) = 45
      · have e1 : prs (L s) b = prsT true (L s).tail b := by unfold prs; rw [if_neg hb, if_pos (by rw [hh, hc])]
        rw [e1]
        rcases (show s.size = 1 ∨ 1 < s.size by omega) with h1 | h1
        · have e2 : prsT true (L s).tail b = (0, 15) := by
            have : (L s).tail = [] := List.eq_nil_of_length_eq_zero (by rw [List.length_tail, L_len, h1])
            rw [this]; simp [prsT]
          rw [e2]
          have hc2 : ((s[0].toNat : Int) == 45) = true := by simp [hc]
          clear hb e1 e2 hh hc
          unfold maxLen at hs
          go_enter Tryd.func33, Tryd.ntmps33
          go_wp2
          all_goals go_ret2
          all_goals exact ⟨rfl, Gr.refl _⟩
        · exact w_rparse_neg s b w hs b0 b1 h1 hc
      · have e1 : prs (L s) b = prsT false (L s) b := by unfold prs; rw [if_neg hb, if_neg (by rw [hh]; intro h; exact hc (by simpa using h))]
        rw [e1]
        exact w_rparse_pos s b w hs b0 b1 hz (beq_eq_false_iff_ne.2 hc)

end Go.Proofs.YtaiimfdcbdfbdaaDoor
