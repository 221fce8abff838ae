/-
  Texts of one proof, laid one behind the other: Rpa Rv3 Rri Shf.
-/
import Derived.Test.YtaiimfdcbdfbdabDoorB4
import Derived.Shelf.Small.Wraps
import Derived.Shelf.Strings.Search1
import Derived.Shelf.Strings.Prefix
import Derived.Test.YtaiimfdcbdfbdabDoorProg
namespace Go.Proofs.YtaiimfdcbdfbdabDoor
open Go.ChangeShapes Go.WideShapes Go.ChangeAt Go.RowKit
set_option linter.unusedVariables false
set_option linter.unusedSimpArgs false

/-
  Parse of the document's answer returns the plain reading of a text, for all texts and bases.
-/
set_option maxHeartbeats 2000000 in
theorem w_rparse_pos (s : ByteArray) (b : Int) (w : World) (hs : s.size ≤ maxLen) (b0 : 2 ≤ b) (b1 : b ≤ 36) (hz : 0 < s.size) (hc : ((s[0].toNat : Int) == 45) = false) :
    Calls Tryd.prog 70 #[.string s, .int .u32 b] w fun e w' => e = .returned (.tuple #[.int .u32 (prsT false (L s) b).1, .int .i64 (prsT false (L s) b).2]) ∧ Gr w w' := by
  unfold maxLen at hs
  have hz2 : ((s.size : Int) == 0) = false := beq_eq_false_iff_ne.2 (by omega)
  go_enter Tryd.func70, Tryd.ntmps70
  go_wp2_with fail
  go_loopw [7, 8, 9] (fun N B i wx => ∃ (k : Nat) (n : Int) (bg : Bool), (k : Int) ≤ s.size ∧ i = .int .i64 k ∧ N = .int .u64 n ∧ B = .bool bg ∧ Hid (allD b ((L s).take k) = true) ∧ 0 ≤ n ∧ n ≤ 154618822655 ∧ Hid (bg = true → 4294967296 ≤ num b ((L s).take k)) ∧ Hid (bg = false → n = num b ((L s).take k) ∧ n < 4294967296) ∧ Gr w wx) (fun _ _ i _ => (s.size - intOf i).toNat)
  case atStart => exact ⟨0, 0, false, by omega, rfl, rfl, rfl, by show _ = _; simp [allD], by omega, by omega, hid (fun h => by cases h), hid (fun _ => ⟨by simp [num], by omega⟩), Gr.refl _⟩
  case round =>
    obtain ⟨k, n, bg, hk, rfl, rfl, rfl, hA, n0, n1, hB1, hB2, hgr⟩ := hrel
    by_cases hlt : (k : Int) < s.size
    · have hks : k < s.size := by omega
      obtain ⟨c0, c1⟩ := L_bd s k hks
      have ht : Hid ((L s).take (k + 1) = (L s).take k ++ [(s[k].toNat : Int)]) := L_take s k hks
      obtain ⟨v0, v1⟩ := vl_bd (s[k].toNat : Int) b c0 c1
      cases hd : isD (s[k].toNat : Int) b
      · have hfin : Hid (prsT false (L s) b = (0, 15)) := by
          show _ = _
          have e : L s = (L s).take k ++ (s[k].toNat : Int) :: (L s).drop (k + 1) := by rw [← L_drop s k hks, List.take_append_drop]
          have : allD b (L s) = false := by rw [e]; exact allD_mid b _ _ _ hd
          unfold prsT; simp [this]
        go_wp2_with (go_at_call 76; refine (w_rvalue _ _ _ c0 c1 (by omega) (by omega)).mono ?_; rintro e w1 ⟨rfl, hg1⟩)
        go_ret2
        exact ⟨by rw [hfin.out]; rfl, grown_trans hgr hg1⟩
      · have hA2 : Hid (allD b ((L s).take (k + 1)) = true) := by show _ = _; rw [ht.out, allD_snoc, hA.out, hd]; rfl
        cases bg
        · obtain ⟨hn, n2⟩ := hB2.out rfl
          obtain ⟨m0, m1⟩ := mul_b n b n0 n2 b0 b1
          have hnum : Hid (num b ((L s).take (k + 1)) = n * b + vl (s[k].toNat : Int) b) := by show _ = _; rw [ht.out, num_snoc, ← hn]
          clear hn
          rcases (show 4294967296 ≤ n * b + vl (s[k].toNat : Int) b ∨ n * b + vl (s[k].toNat : Int) b < 4294967296 by omega) with hbig | hbig
          · have hbb : decide (4294967296 ≤ n * b + vl (s[k].toNat : Int) b) = true := by simp; omega
            go_wp2_with (go_at_call 76; refine (w_rvalue _ _ _ c0 c1 (by omega) (by omega)).mono ?_; rintro e w1 ⟨rfl, hg1⟩)
            go_roundw
            case rel => exact ⟨k + 1, n * b + vl (s[k].toNat : Int) b, true, by omega, by go_num, rfl, rfl, hA2, by omega, by omega, hid (fun _ => by rw [hnum.out]; omega), hid (fun h => by cases h), grown_trans hgr hg1⟩
            case measure => simp [intOf]; omega
          · have hbb : decide (4294967296 ≤ n * b + vl (s[k].toNat : Int) b) = false := by simp; omega
            go_wp2_with (go_at_call 76; refine (w_rvalue _ _ _ c0 c1 (by omega) (by omega)).mono ?_; rintro e w1 ⟨rfl, hg1⟩)
            go_roundw
            case rel => exact ⟨k + 1, n * b + vl (s[k].toNat : Int) b, false, by omega, by go_num, rfl, rfl, hA2, by omega, by omega, hid (fun h => by cases h), hid (fun _ => ⟨by rw [hnum.out], hbig⟩), grown_trans hgr hg1⟩
            case measure => simp [intOf]; omega
        · have hge : Hid (4294967296 ≤ num b ((L s).take (k + 1))) := by
            show _ ≤ _
            rw [ht.out, num_snoc]
            have := mul_ge _ b (hB1.out rfl) b0
            omega
          go_wp2_with (go_at_call 76; refine (w_rvalue _ _ _ c0 c1 (by omega) (by omega)).mono ?_; rintro e w1 ⟨rfl, hg1⟩)
          go_roundw
          case rel => exact ⟨k + 1, n, true, by omega, by go_num, rfl, rfl, hA2, by omega, by omega, hid (fun _ => hge.out), hid (fun h => by cases h), grown_trans hgr hg1⟩
          case measure => simp [intOf]; omega
    · obtain rfl : k = s.size := by omega
      have hne : ¬ L s = [] := by intro h; have := L_len s; rw [h] at this; simp at this; omega
      have htk : (L s).take s.size = L s := List.take_of_length_le (by rw [L_len]; exact Nat.le_refl _)
      rw [htk] at hA hB1 hB2
      cases bg
      · obtain ⟨hn, n2⟩ := hB2.out rfl
        have hfin : Hid (prsT false (L s) b = (n, 0)) := by
          show _ = _
          unfold prsT; rw [if_neg hne, if_neg (by rw [hA.out]; decide), if_neg (by omega)]; simp [← hn]
        clear hn htk
        go_wp2_with fail
        go_ret2
        exact ⟨by rw [hfin.out]; exact ret_ii (by simp; try omega) rfl, hgr⟩
      · have hfin : Hid (prsT false (L s) b = (0, 4)) := by
          show _ = _
          have := hB1.out rfl
          unfold prsT; rw [if_neg hne, if_neg (by rw [hA.out]; decide), if_pos this]
        clear htk
        go_wp2_with fail
        go_ret2
        exact ⟨by rw [hfin.out]; rfl, hgr⟩

set_option maxHeartbeats 2000000 in
theorem w_rparse_neg (s : ByteArray) (b : Int) (w : World) (hs : s.size ≤ maxLen) (b0 : 2 ≤ b) (b1 : b ≤ 36) (hz : 1 < s.size) (hc : ((s[0]'(by omega)).toNat : Int) = 45) :
    Calls Tryd.prog 70 #[.string s, .int .u32 b] w fun e w' => e = .returned (.tuple #[.int .u32 (prsT true (L s).tail b).1, .int .i64 (prsT true (L s).tail b).2]) ∧ Gr w w' := by
  unfold maxLen at hs
  have hz2 : (((s.size - 1 : Nat) : Int) == 0) = false := beq_eq_false_iff_ne.2 (by omega)
  have hz3 : 0 < s.size := by omega
  have hc2 : ((s[0].toNat : Int) == 45) = true := by simp [hc]
  obtain ⟨T, hT⟩ : ∃ T, s.extract 1 s.size = T := ⟨_, rfl⟩
  have hTz : T.size = s.size - 1 := by rw [← hT]; simp
  have hTL : Hid (L T = (L s).tail) := by show _ = _; rw [← hT]; exact L_tail s
  rw [← hTL.out]
  clear hc
  go_enter Tryd.func70, Tryd.ntmps70
  go_wp2_with fail
  have hTz2 : 0 < T.size := by omega
  have hTz3 : T.size ≤ 9223372036854775807 := by omega
  clear hT hTz
  go_loopw [7, 8, 9] (fun N B i wx => ∃ (k : Nat) (n : Int) (bg : Bool), (k : Int) ≤ T.size ∧ i = .int .i64 k ∧ N = .int .u64 n ∧ B = .bool bg ∧ Hid (allD b ((L T).take k) = true) ∧ 0 ≤ n ∧ n ≤ 154618822655 ∧ Hid (bg = true → 4294967296 ≤ num b ((L T).take k)) ∧ Hid (bg = false → n = num b ((L T).take k) ∧ n < 4294967296) ∧ Gr w wx) (fun _ _ i _ => (T.size - intOf i).toNat)
  case atStart => exact ⟨0, 0, false, by omega, rfl, rfl, rfl, by show _ = _; simp [allD], by omega, by omega, hid (fun h => by cases h), hid (fun _ => ⟨by simp [num], by omega⟩), Gr.refl _⟩
  case round =>
    obtain ⟨k, n, bg, hk, rfl, rfl, rfl, hA, n0, n1, hB1, hB2, hgr⟩ := hrel
    by_cases hlt : (k : Int) < T.size
    · have hks : k < T.size := by omega
      obtain ⟨c0, c1⟩ := L_bd T k hks
      have ht : Hid ((L T).take (k + 1) = (L T).take k ++ [(T[k].toNat : Int)]) := L_take T k hks
      obtain ⟨v0, v1⟩ := vl_bd (T[k].toNat : Int) b c0 c1
      cases hd : isD (T[k].toNat : Int) b
      · have hfin : Hid (prsT true (L T) b = (0, 15)) := by
          show _ = _
          have e : L T = (L T).take k ++ (T[k].toNat : Int) :: (L T).drop (k + 1) := by rw [← L_drop T k hks, List.take_append_drop]
          have : allD b (L T) = false := by rw [e]; exact allD_mid b _ _ _ hd
          unfold prsT; simp [this]
        go_wp2_with (go_at_call 76; refine (w_rvalue _ _ _ c0 c1 (by omega) (by omega)).mono ?_; rintro e w1 ⟨rfl, hg1⟩)
        go_ret2
        exact ⟨by rw [hfin.out]; rfl, grown_trans hgr hg1⟩
      · have hA2 : Hid (allD b ((L T).take (k + 1)) = true) := by show _ = _; rw [ht.out, allD_snoc, hA.out, hd]; rfl
        cases bg
        · obtain ⟨hn, n2⟩ := hB2.out rfl
          obtain ⟨m0, m1⟩ := mul_b n b n0 n2 b0 b1
          have hnum : Hid (num b ((L T).take (k + 1)) = n * b + vl (T[k].toNat : Int) b) := by show _ = _; rw [ht.out, num_snoc, ← hn]
          clear hn
          rcases (show 4294967296 ≤ n * b + vl (T[k].toNat : Int) b ∨ n * b + vl (T[k].toNat : Int) b < 4294967296 by omega) with hbig | hbig
          · have hbb : decide (4294967296 ≤ n * b + vl (T[k].toNat : Int) b) = true := by simp; omega
            go_wp2_with (go_at_call 76; refine (w_rvalue _ _ _ c0 c1 (by omega) (by omega)).mono ?_; rintro e w1 ⟨rfl, hg1⟩)
            go_roundw
            case rel => exact ⟨k + 1, n * b + vl (T[k].toNat : Int) b, true, by omega, by go_num, rfl, rfl, hA2, by omega, by omega, hid (fun _ => by rw [hnum.out]; omega), hid (fun h => by cases h), grown_trans hgr hg1⟩
            case measure => simp [intOf]; omega
          · have hbb : decide (4294967296 ≤ n * b + vl (T[k].toNat : Int) b) = false := by simp; omega
            go_wp2_with (go_at_call 76; refine (w_rvalue _ _ _ c0 c1 (by omega) (by omega)).mono ?_; rintro e w1 ⟨rfl, hg1⟩)
            go_roundw
            case rel => exact ⟨k + 1, n * b + vl (T[k].toNat : Int) b, false, by omega, by go_num, rfl, rfl, hA2, by omega, by omega, hid (fun h => by cases h), hid (fun _ => ⟨by rw [hnum.out], hbig⟩), grown_trans hgr hg1⟩
            case measure => simp [intOf]; omega
        · have hge : Hid (4294967296 ≤ num b ((L T).take (k + 1))) := by
            show _ ≤ _
            rw [ht.out, num_snoc]
            have := mul_ge _ b (hB1.out rfl) b0
            omega
          go_wp2_with (go_at_call 76; refine (w_rvalue _ _ _ c0 c1 (by omega) (by omega)).mono ?_; rintro e w1 ⟨rfl, hg1⟩)
          go_roundw
          case rel => exact ⟨k + 1, n, true, by omega, by go_num, rfl, rfl, hA2, by omega, by omega, hid (fun _ => hge.out), hid (fun h => by cases h), grown_trans hgr hg1⟩
          case measure => simp [intOf]; omega
    · obtain rfl : k = T.size := by omega
      have hne : ¬ L T = [] := by intro h; have := L_len T; rw [h] at this; simp at this; omega
      have htk : (L T).take T.size = L T := List.take_of_length_le (by rw [L_len]; exact Nat.le_refl _)
      rw [htk] at hA hB1 hB2
      cases bg
      · obtain ⟨hn, n2⟩ := hB2.out rfl
        have hfin : Hid (prsT true (L T) b = ((4294967296 - n) % 4294967296, 0)) := by
          show _ = _
          unfold prsT; rw [if_neg hne, if_neg (by rw [hA.out]; decide), if_neg (by omega)]; simp [← hn]
        clear hn htk
        go_wp2_with fail
        go_ret2
        exact ⟨by rw [hfin.out]; exact ret_ii (by simp; try omega) rfl, hgr⟩
      · have hfin : Hid (prsT true (L T) b = (0, 4)) := by
          show _ = _
          have := hB1.out rfl
          unfold prsT; rw [if_neg hne, if_neg (by rw [hA.out]; decide), if_pos this]
        clear htk
        go_wp2_with fail
        go_ret2
        exact ⟨by rw [hfin.out]; rfl, hgr⟩

set_option maxHeartbeats 1000000 in
theorem w_rparse (s : ByteArray) (b : Int) (w : World) (hs : s.size ≤ maxLen) (g0 : 0 ≤ b) (g1 : b < 4294967296) :
    Calls Tryd.prog 70 #[.string s, .int .u32 b] w fun e w' => e = .returned (.tuple #[.int .u32 (prs (L s) b).1, .int .i64 (prs (L s) b).2]) ∧ Gr w w' := by
  by_cases hb : b < 2 ∨ 36 < b
  · have e1 : prs (L s) b = (0, 1) := by unfold prs; rw [if_pos hb]
    rw [e1]
    rcases hb with hb | hb
    · go_enter Tryd.func70, Tryd.ntmps70
      go_wp2
      go_ret2
      exact ⟨rfl, Gr.refl _⟩
    · have : ¬ b < 2 := by omega
      go_enter Tryd.func70, Tryd.ntmps70
      go_wp2
      go_ret2
      exact ⟨rfl, Gr.refl _⟩
  · have b0 : 2 ≤ b := by omega
    have b1 : b ≤ 36 := by omega
    rcases (show s.size = 0 ∨ 0 < s.size by omega) with hz | hz
    · have e1 : prs (L s) b = (0, 15) := by
        have : L s = [] := List.eq_nil_of_length_eq_zero (by rw [L_len]; exact hz)
        unfold prs; rw [if_neg hb, this]; simp [prsT]
      rw [e1]
      clear hb
      go_enter Tryd.func70, Tryd.ntmps70
      go_wp2
      all_goals go_ret2
      all_goals exact ⟨rfl, Gr.refl _⟩
    · have hh : (L s).head? = some (s[0].toNat : Int) := by rw [List.head?_eq_getElem?, List.getElem?_eq_getElem (by rw [L_len]; exact hz), L_get s 0 hz]
      by_cases hc : (s[0].toNat : Int) = 45
      · have e1 : prs (L s) b = prsT true (L s).tail b := by unfold prs; rw [if_neg hb, if_pos (by rw [hh, hc])]
        rw [e1]
        rcases (show s.size = 1 ∨ 1 < s.size by omega) with h1 | h1
        · have e2 : prsT true (L s).tail b = (0, 15) := by
            have : (L s).tail = [] := List.eq_nil_of_length_eq_zero (by rw [List.length_tail, L_len, h1])
            rw [this]; simp [prsT]
          rw [e2]
          have hc2 : ((s[0].toNat : Int) == 45) = true := by simp [hc]
          clear hb e1 e2 hh hc
          unfold maxLen at hs
          go_enter Tryd.func70, Tryd.ntmps70
          go_wp2
          all_goals go_ret2
          all_goals exact ⟨rfl, Gr.refl _⟩
        · exact w_rparse_neg s b w hs b0 b1 h1 hc
      · have e1 : prs (L s) b = prsT false (L s) b := by unfold prs; rw [if_neg hb, if_neg (by rw [hh]; intro h; exact hc (by simpa using h))]
        rw [e1]
        exact w_rparse_pos s b w hs b0 b1 hz (beq_eq_false_iff_ne.2 hc)

/-
  Form of the document's answer for layer 19.
-/
theorem vaTru_l : vaTru.toList = [116, 114, 117, 101] := by rw [ByteArray.toList_eq]; rfl
theorem vaFls_l : vaFls.toList = [102, 97, 108, 115, 101] := by rw [ByteArray.toList_eq]; rfl
theorem vaM_not {nm : ByteArray} (v : ByteArray) (h : vaF nm < 0) : vaM nm v = (⟨#[]⟩, 2) := by unfold vaM; rw [if_pos h]
theorem vaM_some {nm v s : ByteArray} (h : ¬ vaF nm < 0) (hs : vaO (vaF nm).toNat v = some s) : vaM nm v = (s, 0) := by unfold vaM; rw [if_neg h, hs]
theorem vaM_none {nm v : ByteArray} (h : ¬ vaF nm < 0) (hs : vaO (vaF nm).toNat v = none) : vaM nm v = (⟨#[]⟩, 27) := by unfold vaM; rw [if_neg h, hs]

set_option maxHeartbeats 2000000 in
set_option maxRecDepth 10000 in
theorem w_rform (nm v : ByteArray) (w : World) (hv : v.size ≤ maxLen) :
    Calls Tryd.prog 59 #[.string nm, .string v] w fun e w' => e = .returned (.tuple #[.string (vaM nm v).1, .int .i64 (vaM nm v).2]) ∧ Below w.heap.size w w' := by
  have cF := w_rfind nm
  by_cases h : vaF nm < 0
  · rw [vaM_not v h]
    generalize vaF nm = k at cF h
    go_enter Tryd.func59, Tryd.ntmps59
    go_wp2_with (go_at_call 58; refine (cF _).mono ?_; rintro e w1 ⟨rfl, hw⟩; obtain rfl := hw.symm)
    go_ret2
    exact ⟨rfl, Below.refl _ _⟩
  · obtain ⟨h1, h2⟩ := va_found (show 0 ≤ vaF nm by omega)
    have hS := fun s => vaM_some (s := s) (v := v) h
    have hN := vaM_none (v := v) h
    obtain ⟨k, hk⟩ : ∃ k : Nat, vaF nm = k := ⟨(vaF nm).toNat, by omega⟩
    rw [hk] at cF h1 hS hN
    simp only [Int.toNat_natCast] at h1 hS hN
    have cV := w_rvariable k h1
    have hkd := va_kind k h1
    unfold vaO at hS hN
    obtain ⟨⟨T1, T2, T3⟩, hT⟩ : ∃ t, vaT k = t := ⟨_, rfl⟩
    rw [hT] at cV hkd hS hN
    simp only at hkd hS hN
    clear hT hk h2 h h1
    rcases hkd with rfl | rfl | rfl
    · simp only [if_true] at hS hN
      have hq1 := str_beq v vaTru
      have hq2 := str_beq v vaFls
      rw [vaTru_l] at hq1
      rw [vaFls_l] at hq2
      have hp1 : (v.toList == [116, 114, 117, 101]) = true → v.toList = [116, 114, 117, 101] := fun h => by simpa using h
      have hn1 : (v.toList == [116, 114, 117, 101]) = false → ¬ v.toList = [116, 114, 117, 101] := fun h => by simpa using h
      have hp2 : (v.toList == [102, 97, 108, 115, 101]) = true → v.toList = [102, 97, 108, 115, 101] := fun h => by simpa using h
      have hn2 : (v.toList == [102, 97, 108, 115, 101]) = false → ¬ v.toList = [102, 97, 108, 115, 101] := fun h => by simpa using h
      by_cases e1 : v = vaTru
      · have hR := hid (hS v (if_pos (Or.inl e1)))
        rw [decide_eq_true e1] at hq1
        have hp := hp1 hq1
        clear e1 hS hN hq2 hp1 hn1 hp2 hn2
        go_enter Tryd.func59, Tryd.ntmps59
        go_wp2_with (first
          | (go_at_call 58; refine (cF _).mono ?_; rintro e w1 ⟨rfl, hw⟩; obtain rfl := hw.symm)
          | (go_at_call 69; refine (cV _).mono ?_; rintro e w1 ⟨rfl, hw⟩; obtain rfl := hw.symm))
        go_ret2
        exact ⟨ret_si (congrArg Prod.fst hR.out).symm (congrArg Prod.snd hR.out).symm, Below.refl _ _⟩
      · by_cases e2 : v = vaFls
        · have hR := hid (hS v (if_pos (Or.inr e2)))
          rw [decide_eq_false e1] at hq1
          rw [decide_eq_true e2] at hq2
          have g1 := hn1 hq1
          have g2 := hp2 hq2
          clear e1 e2 hS hN hp1 hn1 hp2 hn2
          go_enter Tryd.func59, Tryd.ntmps59
          go_wp2_with (first
            | (go_at_call 58; refine (cF _).mono ?_; rintro e w1 ⟨rfl, hw⟩; obtain rfl := hw.symm)
            | (go_at_call 69; refine (cV _).mono ?_; rintro e w1 ⟨rfl, hw⟩; obtain rfl := hw.symm))
          go_ret2
          exact ⟨ret_si (congrArg Prod.fst hR.out).symm (congrArg Prod.snd hR.out).symm, Below.refl _ _⟩
        · have hR := hid (hN (if_neg (fun z => z.elim e1 e2)))
          rw [decide_eq_false e1] at hq1
          rw [decide_eq_false e2] at hq2
          have g1 := hn1 hq1
          have g2 := hn2 hq2
          clear e1 e2 hS hN hp1 hn1 hp2 hn2
          go_enter Tryd.func59, Tryd.ntmps59
          go_wp2_with (first
            | (go_at_call 58; refine (cF _).mono ?_; rintro e w1 ⟨rfl, hw⟩; obtain rfl := hw.symm)
            | (go_at_call 69; refine (cV _).mono ?_; rintro e w1 ⟨rfl, hw⟩; obtain rfl := hw.symm))
          go_ret2
          exact ⟨ret_si (congrArg Prod.fst hR.out).symm (congrArg Prod.snd hR.out).symm, Below.refl _ _⟩
    · rw [if_neg (by decide), if_pos rfl] at hN
      have hS' := fun s h => hS s (by rw [if_neg (by decide), if_pos rfl]; exact h)
      have cP := fun w => w_rparse v 10 w hv (by decide) (by decide)
      have hpb := prs_bd v
      by_cases e0 : (prs (L v) 10).2 = 0
      · have hR := hid (hS' _ (if_pos e0))
        have cS := fun w => w_rshow (prs (L v) 10).1 10 w hpb.1 hpb.2 (by decide) (by decide)
        rw [e0] at cP
        clear e0 hN hS hS'
        rw [show shE 10 = 0 from rfl] at cS
        obtain ⟨P, hP⟩ : ∃ P, (prs (L v) 10).1 = P := ⟨_, rfl⟩
        rw [hP] at cP cS hR
        obtain ⟨T, hTt⟩ : ∃ T, shT P 10 = T := ⟨_, rfl⟩
        rw [hTt] at cS hR
        clear hP hTt hpb
        go_enter Tryd.func59, Tryd.ntmps59
        go_wp2_with (first
          | (go_at_call 58; refine (cF _).mono ?_; rintro e w1 ⟨rfl, hw⟩; obtain rfl := hw.symm)
          | (go_at_call 69; refine (cV _).mono ?_; rintro e w1 ⟨rfl, hw⟩; obtain rfl := hw.symm)
          | (go_at_call 70; refine (cP _).mono ?_; rintro e w2 ⟨rfl, b2⟩)
          | (go_at_call 71; refine (cS _).mono ?_; rintro e w1 ⟨rfl, hw⟩; obtain rfl := hw.symm))
        go_ret2
        exact ⟨ret_si (congrArg Prod.fst hR.out).symm (congrArg Prod.snd hR.out).symm, b2⟩
      · have hR := hid (hN (if_neg e0))
        obtain ⟨⟨P, E⟩, hP⟩ : ∃ P, prs (L v) 10 = P := ⟨_, rfl⟩
        rw [hP] at cP e0
        simp only at cP e0
        clear hP hpb hN hS hS'
        go_enter Tryd.func59, Tryd.ntmps59
        go_wp2_with (first
          | (go_at_call 58; refine (cF _).mono ?_; rintro e w1 ⟨rfl, hw⟩; obtain rfl := hw.symm)
          | (go_at_call 69; refine (cV _).mono ?_; rintro e w1 ⟨rfl, hw⟩; obtain rfl := hw.symm)
          | (go_at_call 70; refine (cP _).mono ?_; rintro e w2 ⟨rfl, b2⟩))
        go_ret2
        exact ⟨ret_si (congrArg Prod.fst hR.out).symm (congrArg Prod.snd hR.out).symm, b2⟩
    · rw [if_neg (by decide), if_neg (by decide)] at hN
      have hS' := fun s h => hS s (by rw [if_neg (by decide), if_neg (by decide)]; exact h)
      have HS := fun h => hid (hS' v (if_pos h))
      have HN := fun h => hid (hN (if_neg h))
      clear hS hN hS'
      have hvz : v.size ≤ 9223372036854775807 := by unfold maxLen at hv; omega
      go_enter Tryd.func59, Tryd.ntmps59
      go_wp2_with (first
        | (go_at_call 58; refine (cF _).mono ?_; rintro e w1 ⟨rfl, hw⟩; obtain rfl := hw.symm)
        | (go_at_call 69; refine (cV _).mono ?_; rintro e w1 ⟨rfl, hw⟩; obtain rfl := hw.symm))
      go_loopw [14] (fun I wx => ∃ j : Nat, (j : Int) ≤ v.size ∧ I = .int .i64 j ∧ Hid (∀ c ∈ (L v).take j, 32 ≤ c ∧ c ≤ 126) ∧ wx = w) (fun I _ => (v.size - intOf I).toNat)
      case atStart => exact ⟨0, by omega, rfl, hid (fun c hc => by simp at hc), rfl⟩
      case round =>
        obtain ⟨j, hj, rfl, hm, hw0⟩ := hrel
        obtain rfl := hw0.symm
        by_cases hlt : (j : Int) < v.size
        · have hjs : j < v.size := by omega
          have htk := L_take v j hjs
          have hmem : (v[j].toNat : Int) ∈ L v := by rw [← L_get v j hjs]; exact List.getElem_mem _
          by_cases c1 : (v[j].toNat : Int) < 32
          · have hR := HN (fun z => by have := z.1 _ hmem; omega)
            clear htk hmem HN HS hm
            go_wp2_with fail
            go_ret2
            exact ⟨ret_si (congrArg Prod.fst hR.out).symm (congrArg Prod.snd hR.out).symm, Below.refl _ _⟩
          · by_cases c2 : 126 < (v[j].toNat : Int)
            · have hR := HN (fun z => by have := z.1 _ hmem; omega)
              clear htk hmem HN HS hm
              go_wp2_with fail
              go_ret2
              exact ⟨ret_si (congrArg Prod.fst hR.out).symm (congrArg Prod.snd hR.out).symm, Below.refl _ _⟩
            · have hm2 : Hid (∀ c ∈ (L v).take (j + 1), 32 ≤ c ∧ c ≤ 126) := by
                intro c hc
                rw [htk] at hc
                rcases List.mem_append.1 hc with hc | hc
                · exact hm.out c hc
                · rw [List.mem_singleton.1 hc]; omega
              clear htk hmem HN HS hm
              go_wp2_with fail
              go_roundw
              case rel => exact ⟨j + 1, by omega, by go_num, hm2, trivial⟩
              case measure => simp [intOf]; omega
        · have hall : ∀ c ∈ L v, 32 ≤ c ∧ c ≤ 126 := by
            have := hm.out
            rw [List.take_of_length_le (by rw [L_len]; omega)] at this
            exact this
          by_cases h128 : (v.size : Int) ≤ 128
          · have hR := HS ⟨hall, by omega⟩
            clear HN HS hm hall
            go_wp2_with fail
            go_ret2
            exact ⟨ret_si (congrArg Prod.fst hR.out).symm (congrArg Prod.snd hR.out).symm, Below.refl _ _⟩
          · have hR := HN (fun z => h128 (by have := z.2; omega))
            clear HN HS hm hall
            go_wp2_with fail
            go_ret2
            exact ⟨ret_si (congrArg Prod.fst hR.out).symm (congrArg Prod.snd hR.out).symm, Below.refl _ _⟩

/-
  Right and Literal of the document's answer return the plain functions, for all texts.
-/
/-- blanks ahead -/
def rgL (l : List Int) (width : Int) : List Int := List.replicate (width.toNat - l.length) 32 ++ l
def rgT (s : ByteArray) (width : Int) : ByteArray := if 255 < width then ⟨#[]⟩ else toB (rgL (L s) width)
def rgE (width : Int) : Int := if 255 < width then 1 else 0
theorem blank_L : L ⟨#[32]⟩ = [32] := by decide
theorem rg_step (t : ByteArray) (j : Nat) (h : L t = List.replicate j 32) : L (t ++ ⟨#[32]⟩) = List.replicate (j + 1) 32 := by
  rw [L_app, h, blank_L, List.replicate_succ']
theorem rg_size (t : ByteArray) (j : Nat) (h : L t = List.replicate j 32) : t.size = j := by
  rw [← L_len, h]; simp
theorem rg_end (s t : ByteArray) (j : Nat) (width : Int) (h : L t = List.replicate j 32) (hj : j = width.toNat - s.size) : t ++ s = toB (rgL (L s) width) := by
  apply L_eq
  rw [L_app, h, hj]
  unfold rgL
  rw [L_len]

/-- the base of a letter ahead of the number sign; 0 where there is none -/
def litB (c : Int) : Int := if sm c = 104 then 16 else if sm c = 111 then 8 else if sm c = 98 then 2 else if sm c = 100 then 10 else 0
/-- what Literal answers -/
def litR (l : List Int) (b : Int) : Int × Bool := ((prs l b).1, (prs l b).2 == 0)
def lit (l : List Int) : Int × Bool :=
  if 2 < l.length ∧ l[1]? = some 35 then (if litB (l.headD 0) = 0 then (0, false) else litR (l.drop 2) (litB (l.headD 0))) else litR l 10
theorem lit_plain (s : ByteArray) (h : ¬ (2 < s.size ∧ (L s)[1]? = some 35)) : lit (L s) = litR (L s) 10 := by
  unfold lit; rw [L_len, if_neg h]
theorem lit_sign (s : ByteArray) (h : 2 < s.size) (h1 : (s[1].toNat : Int) = 35) : lit (L s) = if litB (s[0].toNat : Int) = 0 then (0, false) else litR ((L s).drop 2) (litB (s[0].toNat : Int)) := by
  have e1 : (L s)[1]? = some 35 := by rw [List.getElem?_eq_getElem (by rw [L_len]; omega), L_get s 1 (by omega), h1]
  have e0 : (L s).headD 0 = (s[0].toNat : Int) := by
    rw [List.headD_eq_head?_getD, List.head?_eq_getElem?, List.getElem?_eq_getElem (by rw [L_len]; omega), L_get s 0 (by omega)]; rfl
  unfold lit; rw [L_len, if_pos ⟨h, e1⟩, e0]

/-
  The contracts of the library that this program leans on, laid at its numbers by the kit's own tools, in plain words.
-/
open Go.Shelf
def lays103_ren : Go.Shelf.Ren := ⟨fun | 103 => 85 | 210 => 92 | 206 => 96 | n => n, fun | 9 => 9 | 4 => 4 | 24 => 114 | 3 => 3 | n => n, fun | n => n⟩
theorem lays103 : Go.Proofs.Lays.n103 Tryd.prog lays103_ren := {
  mixed := by kernel_rfl
  f103 := Tryd.func85.trans (congrArg some (by kernel_rfl))
  f206 := Tryd.func96.trans (congrArg some (by kernel_rfl))
  f210 := Tryd.func92.trans (congrArg some (by kernel_rfl))
  t3 := Tryd.underlying3
  a3 := Tryd.isAgg3
  z3 := Tryd.sizeOf3
  v3 := Tryd.zeroValue3
  t4 := Tryd.underlying4
  a4 := Tryd.isAgg4
  z4 := Tryd.sizeOf4
  v4 := Tryd.zeroValue4
  t9 := Tryd.underlying9
  a9 := Tryd.isAgg9
  z9 := Tryd.sizeOf9
  v9 := Tryd.zeroValue9
  t24 := Tryd.underlying114
  a24 := Tryd.isAgg114
  z24 := Tryd.sizeOf114
  v24 := Tryd.zeroValue114 }
open Go.RowKit in
theorem strings_CutPrefix (s p : ByteArray) (w : World) :
    Calls Tryd.prog 85 #[.string s, .string p] w fun e w' => e = .returned (.tuple #[.string ⟨(Lib.trimPrefix s.data.toList p.data.toList).toArray⟩, .bool (Lib.hasPrefix s.data.toList p.data.toList)]) ∧ w' = w := Any.strings_CutPrefix lays103 s p w

end Go.Proofs.YtaiimfdcbdfbdabDoor
