/-
  Texts of one proof, laid one behind the other: Rv5 Va4 Ow.
-/
import Derived.Test.YtaiimfdcbdfbdabDoorB9
import Derived.Laws.OwnMore
namespace Go.Proofs.YtaiimfdcbdfbdabDoor
open Go.ChangeShapes Go.WideShapes Go.ChangeAt Go.RowKit
set_option linter.unusedVariables false
set_option linter.unusedSimpArgs false

/-
  Set of the document's answer for layer 19.
-/
theorem vaNs_get (k : Nat) (hk : k < 9) (h : k < (vaNs 9).length) : (vaNs 9)[k] = (vaT k).1 := by simp [vaNs]
theorem va_gs {l : List Stt} {last : Int} (h0 : -1 ≤ last) (h : vaG last l = true) : ∀ p ∈ l, p.1.size ≤ 12 ∧ p.2.size ≤ 128 := by
  intro p hp
  obtain ⟨h1, h2, _⟩ := va_mem h0 h p hp
  obtain ⟨h3, h4⟩ := va_found h1
  have := (va_size _ h3).1
  rw [h4] at this
  exact ⟨this, va_fsize h2⟩
theorem va_gS {l : List Stt} {last : Int} (h0 : -1 ≤ last) (h : vaG last l = true) : ∀ p ∈ l, gS p := by
  intro p hp
  have := va_gs h0 h p hp
  unfold gS maxLen
  omega
theorem own_baseT {base base' : Nat} {w : World} {v : Value} {out : List Stt} (h : OwT base w v out) (hb : base' ≤ base) : OwT base' w v out := by
  obtain ⟨hl, h⟩ := h
  refine ⟨hl, ?_⟩
  rcases h with h | ⟨b, cap, cur, rfl, hb2, hg, hc, hm, hs, ht⟩
  · exact Or.inl h
  · exact Or.inr ⟨b, cap, cur, rfl, Nat.le_trans hb hb2, hg, hc, hm, hs, ht⟩

/-
  Right, Get, Names, Set of the landed package vars.
-/
set_option maxRecDepth 100000

theorem vaG_cons (last : Int) (A V : ByteArray) (l : List Stt) : vaG last ((A, V) :: l) = (fwF last A V && vaG (vaF A) l) := by
  simp only [vaG, fwF, kpF, Bool.and_assoc]
theorem va_small {l : List Stt} (h : vaG (-1) l = true) : ∀ p ∈ l, p.2.size ≤ 281474976710656 := fun p hp => by have := (va_gs (by decide) h p hp).2; omega

set_option maxHeartbeats 2000000 in
set_option maxRecDepth 100000 in
theorem w_pright19 (v : Value) (l : List Stt) (w : World) (hT : Tab w) (h : SlR 2 stR w v l) :
    Calls Tryd.prog 29 #[v] w fun e w' => e = .returned (.bool (vaG (-1) l)) ∧ Below w.heap.size w w' := by
  have hlen := slr_len h uSt (P := Tryd.prog)
  have hmx := slr_max h
  unfold maxLen at hmx
  go_enter Tryd.func29, Tryd.ntmps29
  go_wp2_with fail
  go_loopw [3, 10] (fun La I wx => ∃ (k : Nat) (last : Int), k ≤ l.length ∧ I = .int .i64 k ∧ La = .int .i64 last ∧ -1 ≤ last ∧ last < 9 ∧ Hid (vaG (-1) l = vaG last (l.drop k)) ∧ Below w.heap.size w wx) (fun _ I _ => (l.length - intOf I).toNat)
  case atStart => exact ⟨0, -1, by omega, rfl, rfl, by omega, by omega, hid rfl, Below.refl _ _⟩
  case round =>
    obtain ⟨k, last, hk, rfl, rfl, hl0, hl9, hm, hg⟩ := hrel
    by_cases hlt : (k : Int) < l.length
    · obtain ⟨zb, zo, A, V, z1, z2, z3, z4, z5, z6⟩ := st_at (h.below hg stR_below) k (by omega)
      have hd : l.drop k = (A, V) :: l.drop (k + 1) := by rw [List.drop_eq_getElem_cons (by omega), z4]
      have hm2 := hm.out
      rw [hd, vaG_cons] at hm2
      have hb := va_lt A
      have bx := box_below wr (.cells #[.string A, .string V] 39)
      have cW := w_pfollow19 last A V _ (hT.below (below_trans hg bx)) hl0 hl9 z6
      generalize fwF last A V = F at cW hm2
      cases F
      · rw [Bool.false_and] at hm2
        have hm3 := hid hm2
        clear hm hm2 hd z4
        go_wp2_with (go_at_call 45; refine cW.mono ?_; rintro e w1 ⟨rfl, b1⟩)
        go_ret
        exact ⟨ret_b hm3.out.symm, below_trans hg (below_trans bx b1)⟩
      · rw [Bool.true_and] at hm2
        have hm3 := hid hm2
        simp only [cond_true] at cW
        clear hm hm2 hd z4
        generalize vaF A = K at *
        go_wp2_with (go_at_call 45; refine cW.mono ?_; rintro e w1 ⟨rfl, b1⟩)
        go_roundw
        case rel => exact ⟨k + 1, K, by omega, by go_num, rfl, by omega, by omega, hm3, below_trans hg (below_trans bx b1)⟩
        case measure => simp [intOf]; omega
    · have hm2 := hm.out
      rw [List.drop_of_length_le (by omega)] at hm2
      have hm3 : Hid (vaG (-1) l = true) := hm2
      clear hm hm2 h
      go_wp2_with fail
      go_ret
      exact ⟨ret_b hm3.out.symm, hg⟩

set_option maxHeartbeats 1000000 in
set_option maxRecDepth 100000 in
theorem w_pget19 (v : Value) (l : List Stt) (nm : ByteArray) (w : World) (hT : Tab w) (h : SlR 2 stR w v l) :
    Calls Tryd.prog 18 #[v, .string nm] w fun e w' => e = .returned (.tuple #[.string (vaGt l nm).1, .int .i64 (vaGt l nm).2]) ∧ Below w.heap.size w w' := by
  have cR := w_pright19 v l w hT h
  have cF := fun w hT => w_pplaceOf19 nm w hT
  have hb := va_lt nm
  unfold vaGt
  cases hR : vaG (-1) l
  · rw [hR] at cR
    simp only [Bool.false_eq_true, if_false]
    clear hR cF hb
    go_enter Tryd.func18, Tryd.ntmps18
    go_wp2_with (go_at_call 29; refine cR.mono ?_; rintro e w1 ⟨rfl, b1⟩)
    go_ret2
    exact ⟨rfl, b1⟩
  · rw [hR] at cR
    simp only [if_true]
    by_cases h0 : vaF nm < 0
    · rw [if_pos h0]
      have h1 : vaF nm = -1 := by omega
      rw [h1] at cF
      clear hR h0 h1 hb
      go_enter Tryd.func18, Tryd.ntmps18
      go_wp2_with (first
        | (go_at_call 29; refine cR.mono ?_; rintro e w1 ⟨rfl, b1⟩)
        | (go_at_call 32; refine (cF _ (hT.below b1)).mono ?_; rintro e w2 ⟨rfl, b2⟩))
      go_ret2
      exact ⟨rfl, below_trans b1 b2⟩
    · rw [if_neg h0]
      obtain ⟨h1, h2⟩ := va_found (show 0 ≤ vaF nm by omega)
      obtain ⟨k, hk⟩ : ∃ k : Nat, vaF nm = k := ⟨(vaF nm).toNat, by omega⟩
      rw [hk] at cF h1 h2
      simp only [Int.toNat_natCast] at h1 h2
      have hk9 : (k : Int) < 9 := by omega
      have cV := fun w h => w_pin19 k h1 v l w h (va_small hR)
      rw [h2] at cV
      obtain ⟨Z, hZ⟩ : ∃ Z, vaV l nm = Z := ⟨_, rfl⟩
      rw [hZ]
      simp only [hZ] at cV
      have hTT := fun w hT => tab_at (w := w) hT k h1
      rw [h2] at hTT
      clear hR hZ h0 hk h2 hb
      go_enter Tryd.func18, Tryd.ntmps18
      go_wp2_with (first
        | (go_at_call 29; refine cR.mono ?_; rintro e w1 ⟨rfl, b1⟩)
        | (go_at_call 32; refine (cF _ (hT.below b1)).mono ?_; rintro e w2 ⟨rfl, b2⟩; have b12 := below_trans b1 b2; obtain ⟨t1, t2, t3⟩ := hTT w2 (hT.below b12))
        | (go_at_call 31; refine (cV _ (h.below b12 stR_below)).mono ?_; rintro e w3 ⟨rfl, b3⟩))
      go_ret2
      exact ⟨rfl, below_trans b12 b3⟩

set_option maxHeartbeats 1000000 in
set_option maxRecDepth 100000 in
theorem w_pnames19 (w : World) (hT : Tab w) :
    Calls Tryd.prog 17 #[] w fun e w' => ∃ v', e = .returned v' ∧ SlR 1 strR w' v' (vaNs 9) ∧ Below w.heap.size w w' := by
  obtain ⟨i4, hi4, hz4, hs4, hb4⟩ := info_ss
  have bp := fun (W : World) (s : ByteArray) => box_below W (.cells #[.string s] 9)
  have hrng : Hid (w.rangeAt 0 0 tabV) := fun j v hv => by rw [Nat.zero_add]; exact hT j v hv
  have hidx := hid tab_idx
  have hsz := hid tab_size
  obtain ⟨A, hA⟩ : ∃ A, tabV = A := ⟨_, rfl⟩
  rw [hA] at hrng hidx hsz
  clear hT hA
  go_enter Tryd.func17, Tryd.ntmps17
  go_upto_region 2 with (fail)
  go_wp2_with (refine wpList_load_mid rfl 61 (.global 0) rfl 0 0 rfl A _ hrng.out Tryd.underlying61 rfl hsz.out ?_)
  go_loopw [1, 5] (fun O I wx => ∃ k : Nat, k ≤ 9 ∧ I = .int .i64 k ∧ OwS w.heap.size wx O (vaNs k) ∧ Below w.heap.size w wx) (fun _ I _ => (9 - intOf I).toNat)
  case atStart => exact ⟨0, by omega, rfl, ows_nil _ _, Below.refl _ _⟩
  case round =>
    obtain ⟨k, hk, rfl, ho, hg⟩ := hrel
    by_cases hlt : (k : Int) < 9
    · have hidxk := hidx.out k (by omega)
      have hns := hid (vaNs_succ k)
      have hl := vaNs_len k
      obtain ⟨R, hR⟩ : ∃ R, vaNs k = R := ⟨_, rfl⟩
      rw [hR] at ho hns hl
      obtain ⟨T1, hT1⟩ : ∃ t, (vaT k).1 = t := ⟨_, rfl⟩
      obtain ⟨T2, hT2⟩ : ∃ t, kdF k = t := ⟨_, rfl⟩
      obtain ⟨T3, hT3⟩ : ∃ t, (vaT k).2.2 = t := ⟨_, rfl⟩
      rw [hT1] at hidxk hns
      rw [hT2, hT3] at hidxk
      have hRl : R.length ≤ 9 := by omega
      clear hT1 hT2 hT3 hR hl
      have bx := box_below wr (.cells #[.string T1, .int .i64 T2, .string T3] 60)
      have hgb := below_trans hg bx
      have ob := own_belowS ho bx
      have oo := own_belowS ob (bp (wr.alloc (.cells #[.string T1, .int .i64 T2, .string T3] 60)) T1)
      have ha := alloc_row (wr.alloc (.cells #[.string T1, .int .i64 T2, .string T3] 60)) (ssC T1) 9
      rw [size_al] at ha
      have z0 := box_cell wr #[.string T1, .int .i64 T2, .string T3] 60 0 _ rfl
      go_wp2_with (at_builtin; refine wpList_append_row rfl _ _ 41 rfl w.heap.size 9 i4 _ 1 16 Tryd.underlying41 hi4 hz4 hs4 hb4 rfl (by decide) _ R.length _ rfl oo (wr.heap.size + 1) (ssC T1) rfl rfl ha (ss_one _) (by unfold maxLen; omega) (by omega) (by rw [size_al]; have := hgb.size; omega) ?_; intro v7 w7 o7 g7; have h7 := below_grown (below_trans hgb (bp (wr.alloc (.cells #[.string T1, .int .i64 T2, .string T3] 60)) T1)) g7 (fun k hk => (oo.lt k hk).1))
      go_roundw
      case rel => exact ⟨k + 1, by omega, by go_num, by rw [hns.out]; simpa [OwS] using o7, h7⟩
      case measure => simp [intOf]; omega
    · obtain rfl : k = 9 := by omega
      go_wp2_with fail
      go_ret
      exact ⟨_, rfl, ho.read vaNs_size, hg⟩

set_option maxHeartbeats 4000000 in
set_option maxRecDepth 100000 in
theorem w_pset19 (v : Value) (l : List Stt) (nm s : ByteArray) (w : World) (hT : Tab w) (h : SlR 2 stR w v l) (hs : s.size ≤ maxLen) :
    Calls Tryd.prog 16 #[v, .string nm, .string s] w fun e w' => ∃ v', e = .returned (.tuple #[v', .int .i64 (vaS l nm s).2]) ∧ SlR 2 stR w' v' (vaS l nm s).1 ∧ Below w.heap.size w w' := by
  have cR := w_pright19 v l w hT h
  have cM := fun w hT => w_pform19 nm s w hT hs
  have hgs := fun h1 h2 => va_gS (by decide) (va_right (l := l) (nm := nm) (v := s) h1 h2)
  unfold vaS
  cases hR : vaG (-1) l
  · rw [hR] at cR
    simp only [Bool.false_eq_true, if_false]
    clear hR cM hgs
    go_enter Tryd.func16, Tryd.ntmps16
    go_wp2_with (go_at_call 29; refine cR.mono ?_; rintro e w1 ⟨rfl, b1⟩)
    go_ret2
    exact ⟨_, rfl, (owt_nil 0 w1).read (fun p hp => by simp at hp), b1⟩
  · rw [hR] at cR
    simp only [if_true]
    obtain ⟨⟨S, E⟩, hM⟩ : ∃ m, vaM nm s = m := ⟨_, rfl⟩
    rw [hM] at cM hgs ⊢
    simp only at cM hgs ⊢
    clear hM
    by_cases hE : E = 0
    · subst hE
      rw [if_pos rfl]
      have hGS := hid (hgs hR rfl)
      clear hgs
      have hsm := va_small hR
      have cV0 := fun k hk w h => w_pin19 k hk v l w h hsm
      clear hR
      obtain ⟨i4, hi4, hz4, hs4, hb4⟩ := info_st
      have bp := fun (W : World) (a b : ByteArray) => box_below W (.cells #[.string a, .string b] 39)
      have hrng0 : Hid (∀ W, Tab W → W.rangeAt 0 0 tabV) := fun W hT j v hv => by rw [Nat.zero_add]; exact hT j v hv
      have hidx := hid tab_idx
      have hsz := hid tab_size
      obtain ⟨A, hA⟩ : ∃ A, tabV = A := ⟨_, rfl⟩
      rw [hA] at hrng0 hidx hsz
      clear hA
      go_enter Tryd.func16, Tryd.ntmps16
      go_upto_region 7 with (first
        | (go_at_call 29; refine cR.mono ?_; rintro e w1 ⟨rfl, b1⟩)
        | (go_at_call 30; refine (cM _ (hT.below b1)).mono ?_; rintro e w2 ⟨rfl, b2⟩; have b12 := below_trans b1 b2)
        | fail)
      have hrng := hid (hrng0.out w2 (hT.below b12))
      clear hrng0
      go_wp2_with (refine wpList_load_mid rfl 61 (.global 0) rfl 0 0 rfl A _ hrng.out Tryd.underlying61 rfl hsz.out ?_)
      clear hrng hsz
      go_loopw [10, 27] (fun O I wx => ∃ k : Nat, k ≤ 9 ∧ I = .int .i64 k ∧ OwT w2.heap.size wx O (vaP (vaU l nm S) k) ∧ Below w2.heap.size w2 wx) (fun _ I _ => (9 - intOf I).toNat)
      case atStart => exact ⟨0, by omega, rfl, owt_nil _ _, Below.refl _ _⟩
      case round =>
        obtain ⟨k, hk, rfl, ho, hg⟩ := hrel
        by_cases hlt : (k : Int) < 9
        · have hk9 : k < 9 := by omega
          have hidxk := hidx.out k hk9
          have b0g := below_trans b12 hg
          have hns : Hid (vaP (vaU l nm S) (k + 1) = vaP (vaU l nm S) k ++ (if (if (vaT k).1 = nm then S else vaV l (vaT k).1) = (vaT k).2.2 then [] else [((vaT k).1, if (vaT k).1 = nm then S else vaV l (vaT k).1)])) := rfl
          have hln := va_len (vaU l nm S) k
          have cV := fun w h => cV0 k hk9 w h
          have hq := str_beq (vaT k).1 nm
          obtain ⟨R, hRe⟩ : ∃ R, vaP (vaU l nm S) k = R := ⟨_, rfl⟩
          rw [hRe] at ho hns hln
          obtain ⟨T1, hT1⟩ : ∃ t, (vaT k).1 = t := ⟨_, rfl⟩
          obtain ⟨T2, hT2⟩ : ∃ t, kdF k = t := ⟨_, rfl⟩
          obtain ⟨T3, hT3⟩ : ∃ t, (vaT k).2.2 = t := ⟨_, rfl⟩
          rw [hT1, hT3] at hns hidxk
          rw [hT2] at hidxk
          rw [hT1] at hq
          simp only [hT1, hT2, hT3] at cV
          obtain ⟨X, hX⟩ : ∃ X, vaV l T1 = X := ⟨_, rfl⟩
          rw [hX] at hns
          simp only [hX] at cV
          clear hT1 hT2 hT3 hX hRe cV0
          have bx := box_below wr (.cells #[.string T1, .int .i64 T2, .string T3] 60)
          have z0 := box_cell wr #[.string T1, .int .i64 T2, .string T3] 60 0 _ rfl
          have z2 := box_cell wr #[.string T1, .int .i64 T2, .string T3] 60 2 _ rfl
          by_cases hnn : T1 = nm
          · rw [decide_eq_true hnn] at hq
            have hnl : T1.toList = nm.toList := by rw [hnn]
            rw [if_pos hnn] at hns
            have hd := str_beq S T3
            by_cases hdd : S = T3
            · rw [decide_eq_true hdd] at hd
              rw [if_pos hdd] at hns
              clear hnn hdd hnl
              go_wp2_with (first
                | (go_at_call 31; refine (cV _ (h.below (below_trans b0g bx) stR_below)).mono ?_; rintro e w7 ⟨rfl, b7⟩; have y0 := below_cell b7 z0; have y2 := below_cell b7 z2; have ho7 := own_belowT (own_belowT ho bx) b7; have hg7 := below_trans hg (below_trans bx b7)))
              go_roundw
              case rel => exact ⟨k + 1, by omega, by go_num, by rw [hns.out, List.append_nil]; exact ho7, hg7⟩
              case measure => simp [intOf]; omega
            · rw [decide_eq_false hdd] at hd
              rw [if_neg hdd] at hns
              clear hnn hdd hnl
              go_wp2_with (first
                | (go_at_call 31; refine (cV _ (h.below (below_trans b0g bx) stR_below)).mono ?_; rintro e w7 ⟨rfl, b7⟩; have y0 := below_cell b7 z0; have y2 := below_cell b7 z2; have ho7 := own_belowT (own_belowT ho bx) b7; have hg7 := below_trans hg (below_trans bx b7))
                | (at_builtin; refine wpList_append_row rfl _ _ 23 rfl w2.heap.size 39 i4 _ 2 32 Tryd.underlying23 hi4 hz4 hs4 hb4 rfl (by decide) _ R.length _ rfl (own_belowT ho7 (bp w7 T1 S)) w7.heap.size (stC (T1, S)) rfl rfl (alloc_row w7 (stC (T1, S)) 39) (st_one _) (by unfold maxLen; omega) (by omega) (by rw [size_al]; have := hg7.size; omega) ?_; intro v8 w8 o8 g8; have h8 := below_grown (below_trans hg7 (bp w7 T1 S)) g8 (fun k hk => ((own_belowT ho7 (bp w7 T1 S)).lt k hk).1)))
              go_roundw
              case rel => exact ⟨k + 1, by omega, by go_num, by rw [hns.out]; simpa [OwT] using o8, h8⟩
              case measure => simp [intOf]; omega
          · rw [decide_eq_false hnn] at hq
            rw [if_neg hnn] at hns
            have hd := str_beq X T3
            by_cases hdd : X = T3
            · rw [decide_eq_true hdd] at hd
              rw [if_pos hdd] at hns
              clear hnn hdd
              go_wp2_with (first
                | (go_at_call 31; refine (cV _ (h.below (below_trans b0g bx) stR_below)).mono ?_; rintro e w7 ⟨rfl, b7⟩; have y0 := below_cell b7 z0; have y2 := below_cell b7 z2; have ho7 := own_belowT (own_belowT ho bx) b7; have hg7 := below_trans hg (below_trans bx b7)))
              go_roundw
              case rel => exact ⟨k + 1, by omega, by go_num, by rw [hns.out, List.append_nil]; exact ho7, hg7⟩
              case measure => simp [intOf]; omega
            · rw [decide_eq_false hdd] at hd
              rw [if_neg hdd] at hns
              clear hnn hdd
              go_wp2_with (first
                | (go_at_call 31; refine (cV _ (h.below (below_trans b0g bx) stR_below)).mono ?_; rintro e w7 ⟨rfl, b7⟩; have y0 := below_cell b7 z0; have y2 := below_cell b7 z2; have ho7 := own_belowT (own_belowT ho bx) b7; have hg7 := below_trans hg (below_trans bx b7))
                | (at_builtin; refine wpList_append_row rfl _ _ 23 rfl w2.heap.size 39 i4 _ 2 32 Tryd.underlying23 hi4 hz4 hs4 hb4 rfl (by decide) _ R.length _ rfl (own_belowT ho7 (bp w7 T1 X)) w7.heap.size (stC (T1, X)) rfl rfl (alloc_row w7 (stC (T1, X)) 39) (st_one _) (by unfold maxLen; omega) (by omega) (by rw [size_al]; have := hg7.size; omega) ?_; intro v8 w8 o8 g8; have h8 := below_grown (below_trans hg7 (bp w7 T1 X)) g8 (fun k hk => ((own_belowT ho7 (bp w7 T1 X)).lt k hk).1)))
              go_roundw
              case rel => exact ⟨k + 1, by omega, by go_num, by rw [hns.out]; simpa [OwT] using o8, h8⟩
              case measure => simp [intOf]; omega
        · obtain rfl : k = 9 := by omega
          go_wp2_with fail
          go_ret2
          exact ⟨_, rfl, ho.read hGS.out, below_trans b12 hg⟩
    · rw [if_neg hE]
      clear hR hgs
      go_enter Tryd.func16, Tryd.ntmps16
      go_wp2_with (first
        | (go_at_call 29; refine cR.mono ?_; rintro e w1 ⟨rfl, b1⟩)
        | (go_at_call 30; refine (cM _ (hT.below b1)).mono ?_; rintro e w2 ⟨rfl, b2⟩; have b12 := below_trans b1 b2))
      go_ret2
      exact ⟨_, rfl, (owt_nil 0 w2).read (fun p hp => by simp at hp), b12⟩

/-
  Rows that the call has built, whose cells may be slices of the call's own themselves: what stands when another row grows or is written, by the kinds of the blocks. No Go text in sight.
-/
/-- all old blocks stand but perhaps one of kind T -/
def Kept (T : TypeId) (w w' : World) : Prop := ∃ row, w.grownBy w' row ∧ ∀ g, row = some g → ∃ cur fr, w.heap[g]? = some (.cells cur T fr)
theorem grown_none {w w' : World} (h : Below w.heap.size w w') : w.grownBy w' none := ⟨h.os, h.tape, h.output, h.size, fun k hk _ => h.block k hk⟩
theorem Kept.below {T : TypeId} {w w' : World} (h : Below w.heap.size w w') : Kept T w w' := ⟨none, grown_none h, fun g hg => by cases hg⟩
theorem Kept.own {base : Nat} {e : TypeId} {sz : Nat} {w w' : World} {v : Value} {n : Nat} {cs : List Value} (o : w.ownsRow base e sz v n cs) (g : w.grownBy w' v.ownBlock) : Kept e w w' := by
  refine ⟨_, g, fun k hk => ?_⟩
  obtain ⟨_, o⟩ := o
  rcases o with ⟨rfl, _⟩ | ⟨k', cap, cur, rfl, _, h1, _⟩
  · simp [Value.ownBlock] at hk
  · simp [Value.ownBlock] at hk
    subst hk
    exact ⟨cur, _, h1⟩
theorem Kept.stands {b : Nat} {cs : Array Value} {T : TypeId} {w w' : World} (h : Stands w b cs T) (g : w.grownBy w' (some b)) : Kept T w w' :=
  ⟨_, g, fun k hk => by cases hk; exact ⟨cs, _, h⟩⟩
/-- what does not lie in blocks of kind T -/
def Apt {α : Type} (T : TypeId) (O : World → List Value → α → Prop) : Prop := ∀ w w' cs x, Kept T w w' → O w cs x → O w' cs x
theorem own_kept {T : TypeId} {w w' : World} (k : Kept T w w') {base : Nat} {e : TypeId} {sz : Nat} {v : Value} {n : Nat} {cs : List Value} (hne : ¬ e = T) (o : w.ownsRow base e sz v n cs) : w'.ownsRow base e sz v n cs := by
  obtain ⟨row, g, hr⟩ := k
  obtain ⟨hl, o⟩ := o
  refine ⟨hl, ?_⟩
  rcases o with o | ⟨b, cap, cur, rfl, hb, h1, o⟩
  · exact Or.inl o
  · refine Or.inr ⟨b, cap, cur, rfl, hb, ?_, o⟩
    rw [g.block b (Array.getElem?_eq_some_iff.1 h1).1 (fun e0 => ?_)]
    · exact h1
    · obtain ⟨cur', fr, h2⟩ := hr b e0.symm
      rw [h1] at h2
      simp at h2
      exact hne h2.2.1
theorem stands_kept {T : TypeId} {w w' : World} (k : Kept T w w') {b : Nat} {cs : Array Value} {e : TypeId} (hne : ¬ e = T) (h : Stands w b cs e) : Stands w' b cs e := by
  obtain ⟨row, g, hr⟩ := k
  unfold Stands at h ⊢
  rw [g.block b (Array.getElem?_eq_some_iff.1 h).1 (fun e0 => ?_)]
  · exact h
  · obtain ⟨cur', fr, h2⟩ := hr b e0.symm
    rw [h] at h2
    simp at h2
    exact hne h2.2.1
/-- rows of sz cells of kind e, each as O says -/
def OwnR {α : Type} (e : TypeId) (sz : Nat) (O : World → List Value → α → Prop) (base : Nat) (w : World) (v : Value) (xs : List α) : Prop :=
  ∃ rows : List (List Value), rows.length = xs.length ∧ (∀ r ∈ rows, r.length = sz) ∧ w.ownsRow base e sz v xs.length rows.flatten ∧ ∀ i (h : i < xs.length), O w (rows.getD i []) xs[i]
theorem OwnR.nil {α : Type} (e : TypeId) (sz : Nat) (O : World → List Value → α → Prop) (base : Nat) (w : World) : OwnR e sz O base w (.slice none 0 0) ([] : List α) := ⟨[], rfl, by simp, World.ownsRow_nil _ _ _ _, fun i hi => by simp at hi⟩
theorem OwnR.row {α : Type} {e : TypeId} {sz : Nat} {O : World → List Value → α → Prop} {base : Nat} {w : World} {v : Value} {xs : List α} (h : OwnR e sz O base w v xs) : ∃ cs, w.ownsRow base e sz v xs.length cs := by
  obtain ⟨rows, _, _, h3, _⟩ := h
  exact ⟨_, h3⟩
theorem OwnR.read {α : Type} {e : TypeId} {sz : Nat} {O R : World → List Value → α → Prop} {base : Nat} {w : World} {v : Value} {xs : List α} (hsz : 0 < sz) (h : OwnR e sz O base w v xs) (hR : ∀ cs x, O w cs x → R w cs x) : SlR sz R w v xs := by
  obtain ⟨rows, h1, h2, h3, h4⟩ := h
  have h5 : SlR sz (fun _ cs (r : List Value) => cs = r) w v rows := slr_rows (n := xs.length) (e := e) (base := base) id h2 hsz (by simpa [List.flatMap_id] using h3) (fun _ _ => rfl)
  obtain ⟨rows', k1, k2, k3⟩ := h5
  have e0 : rows' = rows := by
    apply List.ext_getElem k2
    intro i hi hj
    have := k3 i hj
    rw [List.getD_eq_getElem?_getD, List.getElem?_eq_getElem hi] at this
    simpa using this
  subst e0
  exact ⟨rows', k1, h1, fun i hi => hR _ _ (h4 i hi)⟩
theorem OwnR.kept {α : Type} {T e : TypeId} {sz : Nat} {O : World → List Value → α → Prop} {base : Nat} {w w' : World} {v : Value} {xs : List α} (h : OwnR e sz O base w v xs) (k : Kept T w w') (hne : ¬ e = T) (ha : Apt T O) : OwnR e sz O base w' v xs := by
  obtain ⟨rows, h1, h2, h3, h4⟩ := h
  exact ⟨rows, h1, h2, own_kept k hne h3, fun i hi => ha _ _ _ _ k (h4 i hi)⟩
theorem OwnR.apt {α : Type} {T e : TypeId} {sz : Nat} {O : World → List Value → α → Prop} {base : Nat} (hne : ¬ e = T) (ha : Apt T O) : ∀ w w' v xs, Kept T w w' → OwnR e sz O base w v xs → OwnR e sz O base w' v xs := fun w w' v xs k h => h.kept k hne ha
/-- behind a call that leaves all that is old -/
theorem OwnR.below {α : Type} {e : TypeId} {sz : Nat} {O : World → List Value → α → Prop} {base : Nat} {w w' : World} {v : Value} {xs : List α} (h : OwnR e sz O base w v xs) (g : Below w.heap.size w w') (hO : ∀ cs x, O w cs x → O w' cs x) : OwnR e sz O base w' v xs := by
  obtain ⟨rows, h1, h2, ⟨hl, h3⟩, h4⟩ := h
  refine ⟨rows, h1, h2, ⟨hl, ?_⟩, fun i hi => hO _ _ (h4 i hi)⟩
  rcases h3 with h | ⟨b, cap, cur, rfl, hb, hg, hc⟩
  · exact Or.inl h
  · refine Or.inr ⟨b, cap, cur, rfl, hb, ?_, hc⟩
    rw [g.block b (Array.getElem?_eq_some_iff.1 hg).1]
    exact hg
theorem OwnR.le {α : Type} {e : TypeId} {sz : Nat} {O O' : World → List Value → α → Prop} {base base' : Nat} {w : World} {v : Value} {xs : List α} (hb : base' ≤ base) (h : OwnR e sz O base w v xs) (hO : ∀ cs x, O w cs x → O' w cs x) : OwnR e sz O' base' w v xs := by
  obtain ⟨rows, h1, h2, h3, h4⟩ := h
  exact ⟨rows, h1, h2, own_le hb h3, fun i hi => hO _ _ (h4 i hi)⟩
/-- a row more -/
theorem OwnR.snoc {α : Type} {e : TypeId} {sz : Nat} {O : World → List Value → α → Prop} {base : Nat} {w w' : World} {U v' : Value} {xs : List α} {x : α} {row : List Value} {rows : List (List Value)} (ha : Apt e O) (h1 : rows.length = xs.length) (h2 : ∀ r ∈ rows, r.length = sz) (h3 : w.ownsRow base e sz U xs.length rows.flatten) (h4 : ∀ i (h : i < xs.length), O w (rows.getD i []) xs[i])
    (hr : row.length = sz) (hx : O w row x) (o : w'.ownsRow base e sz v' (xs.length + 1) (rows.flatten ++ row)) (g : w.grownBy w' U.ownBlock) : OwnR e sz O base w' v' (xs ++ [x]) := by
  have k := Kept.own h3 g
  refine ⟨rows ++ [row], by simp [h1], fun r hm => ?_, by simpa using o, fun i hi => ?_⟩
  · rcases List.mem_append.1 hm with hm | hm
    · exact h2 r hm
    · simp at hm; subst hm; exact hr
  · by_cases hlt : i < xs.length
    · rw [List.getD_eq_getElem?_getD, List.getElem?_append_left (by omega), List.getElem_append_left hlt, ← List.getD_eq_getElem?_getD]
      exact ha _ _ _ _ k (h4 i hlt)
    · have hi2 : i = xs.length := by simp at hi; omega
      subst hi2
      rw [List.getD_eq_getElem?_getD, List.getElem?_append_right (by omega), h1]
      simp
      exact ha _ _ _ _ k hx
theorem flat_set {α : Type} : ∀ (rows : List (List α)) (sz i j : Nat) (u : α), (∀ r ∈ rows, r.length = sz) → i < rows.length → j < sz → rows.flatten.set (i * sz + j) u = (rows.set i ((rows.getD i []).set j u)).flatten
  | [], sz, i, j, u, _, hi, _ => by simp at hi
  | r :: rows, sz, 0, j, u, h, hi, hj => by
    have hr := h r (by simp)
    simp only [List.flatten_cons, Nat.zero_mul, Nat.zero_add, List.set_cons_zero, List.getD_cons_zero]
    rw [List.set_append_left _ _ (by omega)]
  | r :: rows, sz, i + 1, j, u, h, hi, hj => by
    have hr := h r (by simp)
    have ih := flat_set rows sz i j u (fun x hx => h x (by simp [hx])) (by simpa using hi) hj
    simp only [List.flatten_cons, List.set_cons_succ, List.getD_cons_succ]
    rw [List.set_append_right _ _ (by rw [hr, Nat.add_mul]; omega), hr, show (i + 1) * sz + j - sz = i * sz + j by rw [Nat.add_mul]; omega, ih]
/-- a cell of a row written -/
theorem OwnR.set {α : Type} {e : TypeId} {sz : Nat} {O : World → List Value → α → Prop} {base : Nat} {w : World} {g n cap : Nat} {xs : List α} {rows : List (List Value)} (ha : Apt e O) (h1 : rows.length = xs.length) (h2 : ∀ r ∈ rows, r.length = sz) (h3 : w.ownsRow base e sz (.slice (some ⟨g, 0, none⟩) n cap) xs.length rows.flatten) (h4 : ∀ i (h : i < xs.length), O w (rows.getD i []) xs[i])
    (i j : Nat) (hi : i < xs.length) (hj : j < sz) (u : Value) (x : α) (hx : O (w.setCell ⟨g, i * sz + j, none⟩ u) ((rows.getD i []).set j u) x) : OwnR e sz O base (w.setCell ⟨g, i * sz + j, none⟩ u) (.slice (some ⟨g, 0, none⟩) n cap) (xs.set i x) ∧ Kept e w (w.setCell ⟨g, i * sz + j, none⟩ u) := by
  have hn : n = xs.length := by
    obtain ⟨_, h3⟩ := h3
    rcases h3 with ⟨h, _⟩ | ⟨g', cap', cur, h, _⟩
    · simp at h
    · simp at h; exact h.2.1
  subst hn
  obtain ⟨s1, s2⟩ := h3.stored (i * sz + j) u
  have k : Kept e w (w.setCell ⟨g, i * sz + j, none⟩ u) := Kept.own (v := .slice (some ⟨g, 0, none⟩) xs.length cap) h3 (by simpa [Value.ownBlock] using s2)
  rw [flat_set rows sz i j u h2 (by omega) hj] at s1
  refine ⟨⟨rows.set i ((rows.getD i []).set j u), by simp [h1], fun r hm => ?_, by simpa using s1, fun m hm => ?_⟩, k⟩
  · rcases List.mem_or_eq_of_mem_set hm with hm | rfl
    · exact h2 r hm
    · rw [List.length_set, List.getD_eq_getElem?_getD, List.getElem?_eq_getElem (by omega)]
      exact h2 _ (List.getElem_mem _)
  · rw [List.length_set] at hm
    rw [List.getElem_set]
    by_cases him : i = m
    · subst him
      rw [if_pos rfl, List.getD_eq_getElem?_getD, List.getElem?_set_self (by omega)]
      exact hx
    · rw [if_neg him, List.getD_eq_getElem?_getD, List.getElem?_set_ne him, ← List.getD_eq_getElem?_getD]
      exact ha _ _ _ _ k (h4 m hm)

end Go.Proofs.YtaiimfdcbdfbdabDoor
