/-
  Sum, Make, Check of the document's answer for layer 14: what they return, for all bytes.
-/
import Derived.Test.YtfnjebmjaokalaaPh1
import Derived.Test.YtfnjebmjaokalaaRp2
namespace Go.Proofs.Ytfnjebmjaokalaa
open Go.ChangeShapes Go.WideShapes Go.ChangeAt Go.RowKit
set_option linter.unusedVariables false
set_option linter.unusedSimpArgs false

set_option maxHeartbeats 1000000 in
theorem w_rsum14 (v : Value) (xs : List Int) (w : World) (h : Rd .u8 w v xs) (hb : bytesL xs) (hz : xs.length ≤ 140737488355328) :
    Calls Try.prog 12 #[v] w fun e w' => e = .returned (.int .i64 (sumF xs)) ∧ w' = w := by
  have hlen := rd_len h uB (P := Try.prog)
  go_enter Try.func12, Try.ntmps12
  go_wp2_with fail
  go_loopw [3, 4] (fun U I wx => ∃ k : Nat, (k : Int) ≤ xs.length ∧ I = .int .i64 k ∧ U = .int .i64 (sumF (xs.take k)) ∧ wx = w) (fun _ I _ => (xs.length - intOf I).toNat)
  case atStart => exact ⟨0, by omega, rfl, rfl, rfl⟩
  case round =>
    obtain ⟨k, hk, rfl, rfl, rfl⟩ := hrel
    by_cases hlt : (k : Int) < xs.length
    · obtain ⟨ad, b, q1, q2, q3, q4, q5⟩ := mem_at h hb k (by omega) (by omega)
      have hkk : k < xs.length := by omega
      have hsm := sum_bd (xs.take k)
      have hnx : Hid (sumF (xs.take (k + 1)) = (sumF (xs.take k) + b) % 65536) := by
        show _ = _
        rw [List.take_succ_eq_append_getElem hkk, sum_snoc]
        congr 2
        rw [← q5, List.getD_eq_getElem?_getD]
        simp [hkk]
      obtain ⟨a, ha⟩ : ∃ a, sumF (xs.take k) = a := ⟨_, rfl⟩
      rw [ha] at hsm hnx ⊢
      obtain ⟨m0, m1⟩ := hsm
      have hm : (a + b).tmod 65536 = (a + b) % 65536 := Int.tmod_eq_emod_of_nonneg (by omega)
      clear ha q5
      go_wp2_with fail
      go_roundw
      case rel => exact ⟨k + 1, by omega, by go_num, by rw [hnx.out], trivial⟩
      case measure => simp [intOf]; omega
    · have e : Hid (xs.take k = xs) := List.take_of_length_le (by omega)
      have hsm := sum_bd (xs.take k)
      obtain ⟨m0, m1⟩ := hsm
      go_wp2_with fail
      go_ret
      rw [e.out]
      exact ⟨rfl, rfl⟩

set_option maxHeartbeats 2000000 in
theorem w_rmake14 (v : Value) (xs : List Int) (wide : Bool) (w : World) (h : Rd .u8 w v xs) (hb : bytesL xs) (hz : xs.length ≤ 140737488355328) :
    Calls Try.prog 9 #[v, .bool wide] w fun e w' => ∃ v', e = .returned (.tuple #[v', .int .i64 (makF xs wide).2]) ∧ Own8 w.heap.size w' v' (makF xs wide).1 ∧ Below w.heap.size w w' := by
  have hlen := rd_len h uB (P := Try.prog)
  by_cases hl : (8184 : Int) < xs.length
  · have e : makF xs wide = ([], 3) := by unfold makF; rw [if_pos (by omega)]
    rw [e]
    clear e
    go_enter Try.func9, Try.ntmps9
    go_wp2_with fail
    go_ret2
    exact ⟨_, rfl, World.ownsRow_nil _ _ _ _, Below.refl _ _⟩
  · have e : makF xs wide = (hdF xs wide ++ xs, 0) := by unfold makF; rw [if_neg (by omega)]
    rw [e]
    clear e
    obtain ⟨i0, hi, hz0, hz1, hz2⟩ := info_parts infoU8
    have cS := w_rsum14 v xs w h hb hz
    obtain ⟨m0, m1⟩ := sum_bd xs
    have cE := fun w => w_rencint (8 + (xs.length : Int)) w (by omega) (by omega)
    have hH : Hid (hdF xs wide = [mkF wide, 8, sumF xs / 256, sumF xs % 256] ++ beB 4 (8 + (xs.length : Int))) := rfl
    have hE4 := beB_len 4 (8 + (xs.length : Int))
    obtain ⟨H, hHe⟩ : ∃ H, hdF xs wide = H := ⟨_, rfl⟩
    obtain ⟨E, hEe⟩ : ∃ E, beB 4 (8 + (xs.length : Int)) = E := ⟨_, rfl⟩
    obtain ⟨s, hs⟩ : ∃ s, sumF xs = s := ⟨_, rfl⟩
    rw [hs] at cS hH m0 m1
    rw [hEe] at cE hH hE4
    rw [hHe] at hH ⊢
    clear hs hHe hEe
    have w1 : IntKind.u8.wrap (s / 256) = s / 256 := by rw [IntKind.wrap_u8]; omega
    have w2 : IntKind.u8.wrap (s % 256) = s % 256 := by rw [IntKind.wrap_u8]; omega
    have t1 : s.tdiv 256 = s / 256 := Int.tdiv_eq_ediv_of_nonneg m0
    have t2 : s.tmod 256 = s % 256 := Int.tmod_eq_emod_of_nonneg m0
    have w3 : IntKind.u32.wrap (8 + (xs.length : Int)) = 8 + xs.length := by rw [IntKind.wrap_u32]; omega
    have o0 : ∀ M : Int, Own8 w.heap.size (w.alloc (.cells #[.int .u8 M, .int .u8 8, .int .u8 (s / 256), .int .u8 (s % 256)] 5)) (.slice (some ⟨w.heap.size, 0, none⟩) 4 4) [M, 8, s / 256, s % 256] := fun M => ⟨by simp, .inr ⟨w.heap.size, 4, _, rfl, Nat.le_refl _, heap_alloc_new w _, by simp, by decide, rfl, rfl⟩⟩
    have fr : ∀ M : Int, ∀ a, (w.alloc (.cells #[.int .u8 M, .int .u8 8, .int .u8 (s / 256), .int .u8 (s % 256)] 5)).frozen? ⟨w.heap.size, a, none⟩ = false := fun M a => (o0 M).frozenAt a
    cases wide
    · go_enter Try.func9, Try.ntmps9
      go_wp2_with (first
        | (go_at_call 12; refine cS.mono ?_; rintro e q0 ⟨rfl, hw⟩; obtain rfl := hw.symm)
        | (go_at_call 17; refine (cE _).mono ?_; rintro e q1 ⟨v1, rfl, o1, b1⟩; have o0' : Own8 w.heap.size q1 _ [253, 8, s / 256, s % 256] := own_below (o0 253) b1; have b01 := below_trans (box_below w _) b1)
        | (at_builtin; refine wpList_append_rd (k := .u8) rfl _ _ 22 rfl w.heap.size 5 i0 1 Try.underlying22 hi hz0 hz1 hz2 v2 ([253, 8, s / 256, s % 256] ++ E) rfl o2 v xs rfl (h.below b2) (by unfold maxLen; simp only [List.length_append, List.length_cons, List.length_nil]; omega) (by simp only [List.length_append, List.length_cons, List.length_nil]; omega) b2.size ?_; intro v3 w3 o3 g3; have b3 := below_grown b2 g3 (fun k hk => (o2.lt k hk).1))
        | (at_builtin; refine wpList_append_rd (k := .u8) rfl _ _ 22 rfl w.heap.size 5 i0 1 Try.underlying22 hi hz0 hz1 hz2 _ [253, 8, s / 256, s % 256] rfl o0' v1 E rfl (Rd_own o1).1 (by unfold maxLen; simp only [List.length_append, List.length_cons, List.length_nil]; omega) (by simp only [List.length_append, List.length_cons, List.length_nil]; omega) b01.size ?_; intro v2 w2 o2 g2; have b2 := below_grown b01 g2 (fun k hk => (o0'.lt k hk).1)))
      go_ret2
      refine ⟨v3, rfl, ?_, b3⟩
      rw [hH.out]
      exact o3
    · go_enter Try.func9, Try.ntmps9
      go_wp2_with (first
        | (go_at_call 12; refine cS.mono ?_; rintro e q0 ⟨rfl, hw⟩; obtain rfl := hw.symm)
        | (go_at_call 17; refine (cE _).mono ?_; rintro e q1 ⟨v1, rfl, o1, b1⟩; have o0' : Own8 w.heap.size q1 _ [241, 8, s / 256, s % 256] := own_below (o0 241) b1; have b01 := below_trans (box_below w _) b1)
        | (at_builtin; refine wpList_append_rd (k := .u8) rfl _ _ 22 rfl w.heap.size 5 i0 1 Try.underlying22 hi hz0 hz1 hz2 v2 ([241, 8, s / 256, s % 256] ++ E) rfl o2 v xs rfl (h.below b2) (by unfold maxLen; simp only [List.length_append, List.length_cons, List.length_nil]; omega) (by simp only [List.length_append, List.length_cons, List.length_nil]; omega) b2.size ?_; intro v3 w3 o3 g3; have b3 := below_grown b2 g3 (fun k hk => (o2.lt k hk).1))
        | (at_builtin; refine wpList_append_rd (k := .u8) rfl _ _ 22 rfl w.heap.size 5 i0 1 Try.underlying22 hi hz0 hz1 hz2 _ [241, 8, s / 256, s % 256] rfl o0' v1 E rfl (Rd_own o1).1 (by unfold maxLen; simp only [List.length_append, List.length_cons, List.length_nil]; omega) (by simp only [List.length_append, List.length_cons, List.length_nil]; omega) b01.size ?_; intro v2 w2 o2 g2; have b2 := below_grown b01 g2 (fun k hk => (o0'.lt k hk).1)))
      go_ret2
      refine ⟨v3, rfl, ?_, b3⟩
      rw [hH.out]
      exact o3

set_option maxHeartbeats 2000000 in
theorem w_rcheck14 (v : Value) (xs : List Int) (w : World) (h : Rd .u8 w v xs) (hb : bytesL xs) (hz : xs.length ≤ 140737488355328) :
    Calls Try.prog 15 #[v] w fun e w' => ∃ v', e = .returned (.tuple #[v', .bool (chkF xs).2.1, .int .i64 (chkF xs).2.2]) ∧ Rd .u8 w' v' (chkF xs).1 ∧ Below w.heap.size w w' := by
  have hlen := rd_len h uB (P := Try.prog)
  by_cases h8 : (xs.length : Int) < 8
  · have e : chkF xs = ([], false, 17) := by unfold chkF chkB; rw [decide_eq_false (show ¬ (8 ≤ xs.length ∧ xs.length ≤ 8192) by omega)]; rfl
    rw [e]
    clear e
    go_enter Try.func15, Try.ntmps15
    go_wp2_with fail
    go_ret3
    exact ⟨_, rfl, Rd_nil, Below.refl _ _⟩
  by_cases h9 : (8192 : Int) < xs.length
  · have e : chkF xs = ([], false, 17) := by unfold chkF chkB; rw [decide_eq_false (show ¬ (8 ≤ xs.length ∧ xs.length ≤ 8192) by omega)]; rfl
    rw [e]
    clear e
    go_enter Try.func15, Try.ntmps15
    go_wp2_with fail
    go_ret3
    exact ⟨_, rfl, Rd_nil, Below.refl _ _⟩
  obtain ⟨va, ra, _, _, ca⟩ := rd_cutI h uB zB 4 xs.length (by omega) (by omega) (by omega)
  have ca' := ca rfl
  rw [show (4 : Int).toNat = 4 from rfl, List.take_of_length_le (by simp; omega)] at ra
  have cD := w_rdecint va (xs.drop 4) w w ra (Below.refl _ _) (bytes_drop hb _) (by simp; omega)
  have eD : deIF (xs.drop 4) = (szF xs, (xs.drop 4).drop 4, 0) := by unfold deIF; rw [if_neg (by simp; omega)]; rfl
  rw [eD] at cD
  simp only at cD
  have hsz := sz_bd xs hb
  obtain ⟨z0, z1⟩ := hsz
  clear eD ca
  by_cases hs8 : szF xs < 8
  · have e : chkF xs = ([], false, 17) := by
      have : chkB xs = false := by unfold chkB; rw [decide_eq_false (show ¬ (8 ≤ szF xs ∧ szF xs ≤ xs.length) by omega)]; simp
      unfold chkF; rw [this]; rfl
    rw [e]
    obtain ⟨S, hS⟩ : ∃ S, szF xs = S := ⟨_, rfl⟩
    rw [hS] at cD hs8 z0 z1
    clear e hS
    go_enter Try.func15, Try.ntmps15
    go_wp2_with (go_at_call 21; refine cD.mono ?_; rintro e w1 ⟨v1, rfl, r1, b1⟩)
    go_ret3
    exact ⟨_, rfl, Rd_nil, b1⟩
  by_cases hsl : (xs.length : Int) < szF xs
  · have e : chkF xs = ([], false, 17) := by
      have : chkB xs = false := by unfold chkB; rw [decide_eq_false (show ¬ (8 ≤ szF xs ∧ szF xs ≤ xs.length) by omega)]; simp
      unfold chkF; rw [this]; rfl
    rw [e]
    obtain ⟨S, hS⟩ : ∃ S, szF xs = S := ⟨_, rfl⟩
    rw [hS] at cD hs8 hsl z0 z1
    clear e hS
    go_enter Try.func15, Try.ntmps15
    go_wp2_with (go_at_call 21; refine cD.mono ?_; rintro e w1 ⟨v1, rfl, r1, b1⟩)
    go_ret3
    exact ⟨_, rfl, Rd_nil, b1⟩
  have hmd := chk_made xs hb (by omega) (by omega) (by omega) (by omega)
  obtain ⟨vc, rc, cc, _⟩ := rd_cutI h uB zB 8 (szF xs) (by omega) (by omega) (by omega)
  have rc' : Rd .u8 w vc (bdF xs) := rc
  obtain ⟨vt, rt, _, ct, _⟩ := rd_cutI h uB zB 0 (szF xs) (by omega) (by omega) (by omega)
  have ct' := ct rfl
  rw [show (0 : Int).toNat = 0 from rfl, List.drop_zero, show (szF xs - 0).toNat = (szF xs).toNat by omega] at rt
  have hbl : (bdF xs).length ≤ 8184 := by simp only [bdF, List.length_take, List.length_drop]; omega
  obtain ⟨ad, b0, q1, q2, q3, q4, q5⟩ := mem_at h hb 0 (by omega) (by omega)
  rw [show (0 : Int).toNat = 0 from rfl] at q5
  have dq : decide (b0 = 241) = (b0 == 241) := by by_cases h : b0 = 241 <;> simp [h]
  have cM := fun w (r : Rd .u8 w vc (bdF xs)) => w_rmake14 vc _ (b0 == 241) w r (bd_bytes xs hb) (by omega)
  have eM : makF (bdF xs) (b0 == 241) = (hdF (bdF xs) (b0 == 241) ++ bdF xs, 0) := by unfold makF; rw [if_neg (by omega)]
  rw [eM] at cM
  simp only at cM
  have hck : chkF xs = if chkB xs = true then (bdF xs, (b0 == 241), 0) else ([], false, 17) := by unfold chkF; rw [q5, dq]
  rw [hck]
  rw [q5, dq] at hmd
  have hdr : (hdF (bdF xs) (b0 == 241) ++ bdF xs).drop 8 = bdF xs := List.drop_left' (hd_len _ _)
  have hOl : (hdF (bdF xs) (b0 == 241) ++ bdF xs).length = 8 + (bdF xs).length := by rw [List.length_append, hd_len]
  have hOb : bytesL (hdF (bdF xs) (b0 == 241) ++ bdF xs) := bytes_app (hd_bytes _ _) (bd_bytes xs hb)
  have hTb : bytesL (xs.take (szF xs).toNat) := bytes_take hb _
  obtain ⟨S, hS⟩ : ∃ S, szF xs = S := ⟨_, rfl⟩
  obtain ⟨B, hB⟩ : ∃ B, bdF xs = B := ⟨_, rfl⟩
  rw [hB] at cM rc' hbl hmd hdr hOl hOb ⊢
  rw [hS] at cD hs8 hsl z0 z1 cc ct' rt hmd hTb
  obtain ⟨O, hO⟩ : ∃ O, hdF B (b0 == 241) ++ B = O := ⟨_, rfl⟩
  obtain ⟨T, hT⟩ : ∃ T, xs.take S.toNat = T := ⟨_, rfl⟩
  rw [hO] at cM hmd hdr hOl hOb
  rw [hT] at rt hmd hTb
  have hst := nums_eq O T hOb hTb
  have HO := hid hOl
  have HD := hid hdr
  have HM := hid hmd
  clear hS hB hO hT hck eM q5 dq rc hmd hdr hOl ct
  by_cases hOT : O = T
  · have hk : chkB xs = true := HM.out.1 hOT
    rw [if_pos hk]
    subst hOT
    clear hk HM
    go_enter Try.func15, Try.ntmps15
    go_wp2_with (first
      | (go_at_call 21; refine cD.mono ?_; rintro e w1 ⟨v1, rfl, r1, b1⟩; have q2' := below_cell b1 q2)
      | (go_at_call 9; refine (cM _ (rc'.below b1)).mono ?_; rintro e w2 ⟨v2, rfl, o2, b2⟩; have r2 := (Rd_own o2).1; have b12 := below_trans b1 b2; have b2d : Below w2.heap.size w2 w2.drew := below_drewN (Below.refl _ _) 1; have s2 := rd_strT (r2.below b2d); have t2 := rd_strT (rt.below (below_trans b12 b2d)); obtain ⟨v5, r5, _, _, c5⟩ := rd_cutI r2 uB zB 8 O.length (by omega) (by have := HO.out; omega) (by omega); have c5' := c5 rfl; rw [show (8 : Int).toNat = 8 from rfl, HD.out, List.take_of_length_le (by have := HO.out; omega)] at r5; clear c5))
    go_region
    go_wp2_with fail
    go_ret3
    exact ⟨v5, rfl, r5.below b2d, below_trans b12 b2d⟩
  · have hk : ¬ chkB xs = true := fun hk => hOT (HM.out.2 hk)
    rw [if_neg hk]
    have hne : ((strOfNums O).toList == (strOfNums T).toList) = false := by rw [str_beq, decide_eq_false_iff_not, hst]; exact hOT
    have hne2 : ((strOfNums O).toList != (strOfNums T).toList) = true := by simp [bne, hne]
    clear hk HM hst hOT
    go_enter Try.func15, Try.ntmps15
    go_wp2_with (first
      | (go_at_call 21; refine cD.mono ?_; rintro e w1 ⟨v1, rfl, r1, b1⟩; have q2' := below_cell b1 q2)
      | (go_at_call 9; refine (cM _ (rc'.below b1)).mono ?_; rintro e w2 ⟨v2, rfl, o2, b2⟩; have r2 := (Rd_own o2).1; have b12 := below_trans b1 b2; have b2d : Below w2.heap.size w2 w2.drew := below_drewN (Below.refl _ _) 1; have s2 := rd_strT (r2.below b2d); have t2 := rd_strT (rt.below (below_trans b12 b2d)); obtain ⟨v5, r5, _, _, c5⟩ := rd_cutI r2 uB zB 8 O.length (by omega) (by have := HO.out; omega) (by omega); have c5' := c5 rfl; rw [show (8 : Int).toNat = 8 from rfl, HD.out, List.take_of_length_le (by have := HO.out; omega)] at r5; clear c5))
    go_region
    go_wp2_with fail
    go_ret3
    exact ⟨_, rfl, Rd_nil, below_trans b12 b2d⟩
end Go.Proofs.Ytfnjebmjaokalaa
