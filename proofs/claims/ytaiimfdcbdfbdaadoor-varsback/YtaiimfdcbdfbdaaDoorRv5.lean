/-
  Set of the document's answer for layer 19.
-/
import Derived.Test.YtaiimfdcbdfbdaaDoorRv4
namespace Go.Proofs.YtaiimfdcbdfbdaaDoor
open Go.ChangeShapes Go.WideShapes Go.ChangeAt Go.RowKit
set_option linter.unusedVariables false
set_option linter.unusedSimpArgs false

theorem vaNs_get (k : Nat) (hk : k < 9) (h : k < (vaNs 9).length) : (vaNs 9)[k] = (vaT k).1 := by simp [vaNs]
theorem va_gs {l : List Stt} {last : Int} (h0 : -1 ≤ last) (h : vaG last l = true) : ∀ p ∈ l, p.1.size ≤ 12 ∧ p.2.size ≤ 128 := by
  intro p hp
  obtain ⟨h1, h2, _⟩ := va_mem h0 h p hp
  obtain ⟨h3, h4⟩ := va_found h1
  have := (va_size _ h3).1
  rw [h4] at this
  exact ⟨this, va_fsize h2⟩
theorem va_gS {l : List Stt} {last : Int} (h0 : -1 ≤ last) (h : vaG last l = true) : ∀ p ∈ l, gS p := by
  intro p hp
  have := va_gs h0 h p hp
  unfold gS maxLen
  omega
theorem own_baseT {base base' : Nat} {w : World} {v : Value} {out : List Stt} (h : OwT base w v out) (hb : base' ≤ base) : OwT base' w v out := by
  obtain ⟨hl, h⟩ := h
  refine ⟨hl, ?_⟩
  rcases h with h | ⟨b, cap, cur, rfl, hb2, hg, hc, hm, hs, ht⟩
  · exact Or.inl h
  · exact Or.inr ⟨b, cap, cur, rfl, Nat.le_trans hb hb2, hg, hc, hm, hs, ht⟩

set_option maxHeartbeats 2000000 in
set_option maxRecDepth 10000 in
theorem w_rset19 (v : Value) (l : List Stt) (nm s : ByteArray) (w : World) (h : SlR 2 stR w v l) (hs : s.size ≤ maxLen) :
    Calls Tryd.prog 18 #[v, .string nm, .string s] w fun e w' => ∃ v', e = .returned (.tuple #[v', .int .i64 (vaS l nm s).2]) ∧ OwT w.heap.size w' v' (vaS l nm s).1 ∧ Below w.heap.size w w' := by
  have cR := w_rright v l w h
  have cM := fun w => w_rform nm s w hs
  unfold vaS
  cases hR : vaG (-1) l
  · rw [hR] at cR
    simp only [Bool.false_eq_true, if_false]
    clear hR cM
    go_enter Tryd.func18, Tryd.ntmps18
    go_wp2_with (go_at_call 23; refine cR.mono ?_; rintro e w1 ⟨rfl, b1⟩)
    go_ret2
    exact ⟨_, rfl, owt_nil _ _, b1⟩
  · rw [hR] at cR
    simp only [if_true]
    obtain ⟨⟨S, E⟩, hM⟩ : ∃ m, vaM nm s = m := ⟨_, rfl⟩
    rw [hM] at cM ⊢
    simp only at cM ⊢
    clear hM
    by_cases hE : E = 0
    · subst hE
      rw [if_pos rfl]
      clear hR
      obtain ⟨i4, hi4, hz4, hs4, hb4⟩ := info_st
      have bp := fun (W : World) (a b : ByteArray) => box_below W (.cells #[.string a, .string b] 46)
      go_enter Tryd.func18, Tryd.ntmps18
      go_wp2_with (first
        | (go_at_call 23; refine cR.mono ?_; rintro e w1 ⟨rfl, b1⟩)
        | (go_at_call 11; refine (cM _).mono ?_; rintro e w2 ⟨rfl, b2⟩; have b12 := below_trans b1 b2)
        | (go_at_call 15; refine (w_rnames _).mono ?_; rintro e wN ⟨vN, rfl, oN, b3⟩; have b13 := below_trans b12 b3; have rN := oN.read vaNs_size; have hlN := slr_len rN uSs (P := Tryd.prog); rw [vaNs_len] at hlN))
      go_loopw [10, 12] (fun O I wx => ∃ k : Nat, k ≤ 9 ∧ I = .int .i64 k ∧ OwT wN.heap.size wx O (vaP (vaU l nm S) k) ∧ Below wN.heap.size wN wx) (fun _ I _ => (9 - intOf I).toNat)
      case atStart => exact ⟨0, by omega, rfl, owt_nil _ _, Below.refl _ _⟩
      case round =>
        obtain ⟨k, hk, rfl, ho, hg⟩ := hrel
        by_cases hlt : (k : Int) < 9
        · have hk9 : k < 9 := by omega
          obtain ⟨ad, c, j1, j2, j3, _⟩ := slr_idx (rN.below hg (fun _ _ h => h)) uSs zSs k (by omega) (by rw [vaNs_len]; omega)
          replace j3 : c = Value.string (vaT k).1 := by simpa [vaNs] using j3
          have b0g := below_trans b13 hg
          have hns : Hid (vaP (vaU l nm S) (k + 1) = vaP (vaU l nm S) k ++ (if (if (vaT k).1 = nm then S else vaV l (vaT k).1) = (vaT k).2.2 then [] else [((vaT k).1, if (vaT k).1 = nm then S else vaV l (vaT k).1)])) := rfl
          have hln := va_len (vaU l nm S) k
          have cV := fun w h => w_rvalue19 v l (vaT k).1 w h
          have cD := w_rdefault (vaT k).1
          rw [vaD_ok (by rw [va_nm k hk9]; omega), va_nm k hk9, Int.toNat_natCast] at cD
          have hq := str_beq (vaT k).1 nm
          obtain ⟨R, hRe⟩ : ∃ R, vaP (vaU l nm S) k = R := ⟨_, rfl⟩
          rw [hRe] at ho hns hln
          obtain ⟨⟨T1, T2, T3⟩, hT⟩ : ∃ t, vaT k = t := ⟨_, rfl⟩
          rw [hT] at hns cV cD hq j3
          simp only at hns cV cD hq j3
          obtain ⟨X, hX⟩ : ∃ X, vaV l T1 = X := ⟨_, rfl⟩
          rw [hX] at hns
          simp only [hX] at cV
          subst j3
          clear hT hX hRe
          by_cases hnn : T1 = nm
          · rw [decide_eq_true hnn] at hq
            have hnl : T1.toList = nm.toList := by rw [hnn]
            rw [if_pos hnn] at hns
            have hd := str_beq S T3
            by_cases hdd : S = T3
            · rw [decide_eq_true hdd] at hd
              rw [if_pos hdd] at hns
              clear hnn hdd hnl
              go_wp2_with (first
                | (go_at_call 36; refine (cV _ (h.below b0g stR_below)).mono ?_; rintro e w7 ⟨rfl, hw⟩; obtain rfl := hw.symm)
                | (go_at_call 13; refine (cD _).mono ?_; rintro e w8 ⟨rfl, hw⟩; obtain rfl := hw.symm))
              go_roundw
              case rel => exact ⟨k + 1, by omega, by go_num, by rw [hns.out, List.append_nil]; exact ho, hg⟩
              case measure => simp [intOf]; omega
            · rw [decide_eq_false hdd] at hd
              rw [if_neg hdd] at hns
              clear hnn hdd hnl
              go_wp2_with (first
                | (go_at_call 36; refine (cV _ (h.below b0g stR_below)).mono ?_; rintro e w7 ⟨rfl, hw⟩; obtain rfl := hw.symm)
                | (go_at_call 13; refine (cD _).mono ?_; rintro e w8 ⟨rfl, hw⟩; obtain rfl := hw.symm)
                | (at_builtin; refine wpList_append_row rfl _ _ 30 rfl wN.heap.size 46 i4 _ 2 32 Tryd.underlying30 hi4 hz4 hs4 hb4 rfl (by decide) _ R.length _ rfl (own_belowT ho (bp wr T1 S)) wr.heap.size (stC (T1, S)) rfl rfl (alloc_row wr (stC (T1, S)) 46) (st_one _) (by unfold maxLen; omega) (by omega) (by rw [size_al]; have := hg.size; omega) ?_; intro v7 w7 o7 g7; have h7 := below_grown (below_trans hg (bp wr T1 S)) g7 (fun k hk => ((own_belowT ho (bp wr T1 S)).lt k hk).1)))
              go_roundw
              case rel => exact ⟨k + 1, by omega, by go_num, by rw [hns.out]; simpa [OwT] using o7, h7⟩
              case measure => simp [intOf]; omega
          · rw [decide_eq_false hnn] at hq
            rw [if_neg hnn] at hns
            have hd := str_beq X T3
            by_cases hdd : X = T3
            · rw [decide_eq_true hdd] at hd
              rw [if_pos hdd] at hns
              clear hnn hdd
              go_wp2_with (first
                | (go_at_call 36; refine (cV _ (h.below b0g stR_below)).mono ?_; rintro e w7 ⟨rfl, hw⟩; obtain rfl := hw.symm)
                | (go_at_call 13; refine (cD _).mono ?_; rintro e w8 ⟨rfl, hw⟩; obtain rfl := hw.symm))
              go_roundw
              case rel => exact ⟨k + 1, by omega, by go_num, by rw [hns.out, List.append_nil]; exact ho, hg⟩
              case measure => simp [intOf]; omega
            · rw [decide_eq_false hdd] at hd
              rw [if_neg hdd] at hns
              clear hnn hdd
              go_wp2_with (first
                | (go_at_call 36; refine (cV _ (h.below b0g stR_below)).mono ?_; rintro e w7 ⟨rfl, hw⟩; obtain rfl := hw.symm)
                | (go_at_call 13; refine (cD _).mono ?_; rintro e w8 ⟨rfl, hw⟩; obtain rfl := hw.symm)
                | (at_builtin; refine wpList_append_row rfl _ _ 30 rfl wN.heap.size 46 i4 _ 2 32 Tryd.underlying30 hi4 hz4 hs4 hb4 rfl (by decide) _ R.length _ rfl (own_belowT ho (bp wr T1 X)) wr.heap.size (stC (T1, X)) rfl rfl (alloc_row wr (stC (T1, X)) 46) (st_one _) (by unfold maxLen; omega) (by omega) (by rw [size_al]; have := hg.size; omega) ?_; intro v7 w7 o7 g7; have h7 := below_grown (below_trans hg (bp wr T1 X)) g7 (fun k hk => ((own_belowT ho (bp wr T1 X)).lt k hk).1)))
              go_roundw
              case rel => exact ⟨k + 1, by omega, by go_num, by rw [hns.out]; simpa [OwT] using o7, h7⟩
              case measure => simp [intOf]; omega
        · obtain rfl : k = 9 := by omega
          go_wp2_with fail
          go_ret2
          exact ⟨_, rfl, own_baseT ho b13.size, below_trans b13 hg⟩
    · rw [if_neg hE]
      clear hR
      go_enter Tryd.func18, Tryd.ntmps18
      go_wp2_with (first
        | (go_at_call 23; refine cR.mono ?_; rintro e w1 ⟨rfl, b1⟩)
        | (go_at_call 11; refine (cM _).mono ?_; rintro e w2 ⟨rfl, b2⟩; have b12 := below_trans b1 b2))
      go_ret2
      exact ⟨_, rfl, owt_nil _ _, b12⟩
end Go.Proofs.YtaiimfdcbdfbdaaDoor
