/-
  Fetch, Store, Text, Put, Move, Fill, Compare, Allot of package mem: each answers its plain function, for all memories and numbers.
-/
import Derived.Test.YtdhhmldcablbgaaMs1
import Derived.Test.YtdhhmldcablbgaaPmn
namespace Go.Proofs.Ytdhhmldcablbgaa
open Go.ChangeShapes Go.WideShapes Go.ChangeAt Go.RowKit
set_option linter.unusedVariables false
set_option linter.unusedSimpArgs false

theorem or8 (y b : Int) (y0 : 0 ≤ y) (y1 : y < 16777216) (b0 : 0 ≤ b) (b1 : b < 256) : bits .or .u32 (y * 256) b = y * 256 + b := by
  rw [u32_or _ _ (by omega) (by omega) b0 (by omega), nat_join8 _ _ (by omega) (by omega)]
  omega
theorem beV_lt : ∀ (n : Nat) (l : List Int), l.length = n → bytesL l → 0 ≤ beV l ∧ beV l < 256 ^ n
  | 0, l, h, _ => by
    have : l = [] := List.eq_nil_of_length_eq_zero h
    subst this
    simp [beV]
  | n + 1, l, h, hb => by
    have hne : l ≠ [] := by intro h0; rw [h0] at h; simp at h
    have hb2 : bytesL l.dropLast := fun x hx => hb x ((List.dropLast_sublist l).subset hx)
    have ih := beV_lt n l.dropLast (by simp; omega) hb2
    have hl := hb _ (List.getLast_mem hne)
    rw [← List.dropLast_concat_getLast hne, beV_snoc, Int.pow_succ]
    obtain ⟨p, hp⟩ : ∃ p, (256 : Int) ^ n = p := ⟨_, rfl⟩
    rw [hp] at ih ⊢
    omega
theorem beV_lt24 (l : List Int) (h : l.length ≤ 3) (hb : bytesL l) : 0 ≤ beV l ∧ beV l < 16777216 := by
  have h1 := beV_lt l.length l rfl hb
  have h2 : l.length = 0 ∨ l.length = 1 ∨ l.length = 2 ∨ l.length = 3 := by omega
  rcases h2 with h2 | h2 | h2 | h2
  all_goals rw [h2] at h1
  all_goals omega

set_option maxHeartbeats 1000000 in
theorem w_mfetch (v : Value) (xs : List Int) (a s : Int) (w : World) (h : Rd .u8 w v xs) (hB : bytesL xs) (hz : xs.length ≤ 140737488355328) (a0 : 0 ≤ a) (a1 : a < 4294967296) (s0 : 0 ≤ s) (s1 : s < 4294967296) :
    Calls Try.prog 11 #[v, .int .u32 a, .int .u32 s] w fun e w' => e = .returned (.tuple #[.int .u32 (fetF xs a s).1, .int .i64 (fetF xs a s).2]) ∧ Below w.heap.size w w' := by
  by_cases hw : wrongF xs.length a s = 0
  · obtain ⟨hs, hm, hl, hr⟩ := wrong_ok hw
    have cw := w_number_ok v xs a s w h hz a0 hw
    have e : fetF xs a s = (beV ((xs.drop a.toNat).take s.toNat), 0) := by unfold fetF; rw [if_pos hw]
    rw [e]
    obtain ⟨rp, _⟩ := rd_cut3 h uB zB a s a0 s0 (by omega)
    obtain ⟨u, hu⟩ : ∃ u, cut3 v a.toNat s.toNat = u := ⟨_, rfl⟩
    have hA : (((xs.drop a.toNat).take s.toNat).length : Int) = s := by simp; omega
    have hAB := bytes_take (bytes_drop hB a.toNat) s.toNat
    obtain ⟨A, hAA⟩ : ∃ A, (xs.drop a.toNat).take s.toNat = A := ⟨_, rfl⟩
    rw [hu] at cw rp
    rw [hAA] at hA rp hAB ⊢
    have hlen := rd_len rp uB (P := Try.prog)
    obtain ⟨R, hR⟩ : ∃ R, beV A = R := ⟨_, rfl⟩
    have HR := hid hR
    show Calls _ _ _ _ fun e w' => e = .returned (.tuple #[.int .u32 (beV A), .int .i64 0]) ∧ _
    rw [hR]
    have s4 : s ≤ 4 := by omega
    clear e hw hm hu hAA hR hs h hB hl hr
    go_enter Try.func11, Try.ntmps11
    go_wp2_with (go_at_call 28; refine cw.mono ?_; rintro e w1 ⟨rfl, rfl⟩)
    go_loopw [10, 22] (fun V I wx => ∃ (k : Nat), (k : Int) ≤ s ∧ I = .int .i64 k ∧ V = .int .u32 (beV (A.take k)) ∧ Below w1.heap.size w1 wx) (fun _ I _ => (s - intOf I).toNat)
    case atStart => exact ⟨0, by omega, rfl, rfl, Below.refl _ _⟩
    case round =>
      obtain ⟨k, hk, rfl, rfl, hb⟩ := hrel
      by_cases hlt : (k : Int) < s
      · obtain ⟨ad, b, r1, c1, l1, u1, g1⟩ := mem_at (rp.below hb) hAB k (by omega) (by omega)
        have hy := beV_lt24 (A.take k) (by simp; omega) (bytes_take hAB k)
        have hst : Hid (beV (A.take (k + 1)) = beV (A.take k) * 256 + b) := by
          show _ = _
          rw [List.take_succ_eq_append_getElem (show k < A.length by omega), beV_snoc]
          rw [Int.toNat_natCast, List.getD_eq_getElem?_getD, List.getElem?_eq_getElem (show k < A.length by omega)] at g1
          simp at g1
          rw [g1]
        obtain ⟨y, hyy⟩ : ∃ y, beV (A.take k) = y := ⟨_, rfl⟩
        rw [hyy] at hy hst ⊢
        obtain ⟨y0, y1⟩ := hy
        have ho := or8 y b y0 y1 l1 u1
        clear g1 hyy
        go_wp2_with fail
        go_roundw
        case rel => exact ⟨k + 1, by omega, by go_num, by rw [hst.out], hb⟩
        case measure => simp [intOf]; omega
      · have e : Hid (R = beV (A.take k)) := by
          show _ = _
          rw [← HR.out, List.take_of_length_le (by omega)]
        go_wp2_with fail
        go_ret2
        rw [e.out]
        exact ⟨rfl, hb⟩
  · obtain ⟨E, hE⟩ : ∃ E, wrongF xs.length a s = E := ⟨_, rfl⟩
    have cw := w_number_bad v xs a s w h hz a0 a1 s0 s1 hw
    have e : fetF xs a s = (0, E) := by unfold fetF; rw [if_neg hw, hE]
    rw [e]
    rw [hE] at cw hw
    have hb : (E != 0) = true := by simpa using hw
    clear e hE hw
    go_enter Try.func11, Try.ntmps11
    go_wp2_with (go_at_call 28; refine cw.mono ?_; rintro e w1 ⟨rfl, rfl⟩)
    go_rounds 1
    go_ret2
    exact ⟨rfl, Below.refl _ _⟩

theorem w_mtext (v : Value) (xs : List Int) (a n : Int) (w : World) (h : Rd .u8 w v xs) (hB : bytesL xs) (hz : xs.length ≤ 140737488355328) (a0 : 0 ≤ a) (a1 : a < 4294967296) (n0 : 0 ≤ n) (n1 : n < 4294967296) :
    Calls Try.prog 16 #[v, .int .u32 a, .int .u32 n] w fun e w' => e = .returned (.tuple #[.string (strOfNums (texF xs a n).1), .int .i64 (texF xs a n).2]) ∧ Below w.heap.size w w' := by
  cases hi : inF xs.length a n
  · have e : texF xs a n = ([], 9) := by unfold texF; rw [hi]; rfl
    rw [e]
    have c1 := w_stretch_out v xs a n w h hz a0 a1 n0 (by omega) hi
    have cs := rd_strT (Rd_nil (k := .u8) (w := w))
    obtain ⟨T, hT⟩ : ∃ T, strOfNums [] = T := ⟨_, rfl⟩
    show Calls _ _ _ _ fun e w' => e = .returned (.tuple #[.string (strOfNums []), .int .i64 9]) ∧ _
    rw [hT] at cs ⊢
    clear e hT
    go_enter Try.func16, Try.ntmps16
    go_wp2_with (go_at_call 31; refine c1.mono ?_; rintro e w1 ⟨rfl, rfl⟩)
    go_ret2
    exact ⟨rfl, Below.refl _ _⟩
  · obtain ⟨A, hA⟩ : ∃ A, (xs.drop a.toNat).take n.toNat = A := ⟨_, rfl⟩
    have e : texF xs a n = (A, 0) := by unfold texF; rw [hi, hA]; rfl
    rw [e]
    have c1 := w_stretch_in v xs a n w h hz a0 n0 hi
    simp [inF] at hi
    obtain ⟨ra, _⟩ := rd_cut3 h uB zB a n a0 n0 (by omega)
    rw [hA] at ra
    have cs := rd_strT ra
    obtain ⟨T, hT⟩ : ∃ T, strOfNums A = T := ⟨_, rfl⟩
    show Calls _ _ _ _ fun e w' => e = .returned (.tuple #[.string (strOfNums A), .int .i64 0]) ∧ _
    rw [hT] at cs ⊢
    obtain ⟨u, hu⟩ : ∃ u, cut3 v a.toNat n.toNat = u := ⟨_, rfl⟩
    rw [hu] at c1 cs
    clear e hA hT hu ra
    go_enter Try.func16, Try.ntmps16
    go_wp2_with (go_at_call 31; refine c1.mono ?_; rintro e w1 ⟨rfl, rfl⟩)
    go_ret2
    exact ⟨rfl, Below.refl _ _⟩

theorem w_mput (v : Value) (xs : List Int) (a : Int) (T : ByteArray) (w : World) (h : Rd .u8 w v xs) (hB : bytesL xs) (hz : xs.length ≤ 140737488355328) (a0 : 0 ≤ a) (a1 : a < 4294967296) (hT : T.size ≤ maxLen) :
    Calls Try.prog 18 #[v, .int .u32 a, .string T] w fun e w' => ∃ v1, e = .returned (.tuple #[v1, .int .i64 (putF xs a (LB T)).2]) ∧ Rd .u8 w' v1 (putF xs a (LB T)).1 ∧ Below w.heap.size w w' := by
  unfold maxLen at hT
  cases hi : inF xs.length a T.size
  · have e : putF xs a (LB T) = ([], 9) := by unfold putF; rw [LB_len, hi]; rfl
    rw [e]
    have c1 := w_opened_out v xs a T.size w h hz a0 a1 (by omega) (by omega) hi
    have cp := fun ty w => run_copy_nowhere (P := Try.prog) w 22 9 ty 5 Try.underlying22 sz8 T
    clear e
    go_enter Try.func18, Try.ntmps18
    go_wp2_with (go_at_call 30; refine c1.mono ?_; rintro e w1 ⟨rfl, rfl⟩)
    go_ret2
    exact ⟨_, rfl, Rd_nil, Below.refl _ _⟩
  · have e : putF xs a (LB T) = (xs.take a.toNat ++ LB T ++ xs.drop (a.toNat + T.size), 0) := by
      unfold putF
      rw [LB_len, if_pos hi]
    rw [e]
    have c1 := w_opened_in v xs a T.size w h hz a0 (by omega) hi
    simp [inF] at hi
    obtain ⟨h1, h2⟩ := hi
    obtain ⟨F, hF⟩ : ∃ F, xs.take a.toNat ++ LB T ++ xs.drop (a.toNat + T.size) = F := ⟨_, rfl⟩
    have hFl : F.length = xs.length := by
      rw [← hF, ← LB_len T]
      refine lay_len xs (LB T) a.toNat ?_
      rw [LB_len]
      omega
    rw [hF]
    have HF := hid hF
    clear e hF
    rw [Int.toNat_natCast] at c1
    go_enter Try.func18, Try.ntmps18
    go_wp2_with (go_at_call 30; refine c1.mono ?_; rintro e w1 ⟨vp, rfl, hp, hb, hbe⟩; obtain ⟨w2, hcp, hb2, hbe2⟩ := run_copy_str 22 9 5 Try.underlying22 sz8 hp T (Nat.le_refl _) hb (by omega) hbe (Nat.le_refl _); rw [HF.out] at hb2)
    go_ret2
    refine ⟨_, rfl, ?_, hbe2⟩
    have := hb2.rd (by unfold maxLen; omega)
    rwa [hFl] at this
end Go.Proofs.Ytdhhmldcablbgaa
