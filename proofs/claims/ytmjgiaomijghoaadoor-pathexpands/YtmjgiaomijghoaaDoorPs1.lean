/-
  Names, numbers, texts and rows of bytes, as package prop answers them.
-/
import Derived.Test.YtmjgiaomijghoaaDoorPlp
import Derived.Test.YtmjgiaomijghoaaDoorRp5
import Derived.Laws.BitsAllLaws
namespace Go.Proofs.YtmjgiaomijghoaaDoor
open Go.ChangeShapes Go.WideShapes Go.ChangeAt Go.RowKit
set_option linter.unusedVariables false
set_option linter.unusedSimpArgs false

theorem barred : L ⟨#[47, 92, 58, 91, 93, 64]⟩ = [47, 92, 58, 91, 93, 64] := by decide +kernel
theorem atB_bar {c i : Int} (h : AtB (L ⟨#[47, 92, 58, 91, 93, 64]⟩) c i) (h0 : 33 ≤ c) (h1 : c ≤ 126) (h2 : ¬ (65 ≤ c ∧ c ≤ 90)) : decide (i < 0) = nmC c := by
  rw [barred] at h
  rcases h with ⟨rfl, h⟩ | ⟨k, rfl, hk, he, h⟩
  · have a := h 47 (by simp); have b := h 92 (by simp); have d := h 58 (by simp); have e := h 91 (by simp); have f := h 93 (by simp); have g := h 64 (by simp)
    unfold nmC
    simp
    omega
  · have hm : c ∈ ([47, 92, 58, 91, 93, 64] : List Int) := by rw [he]; simp
    have hc : c = 47 ∨ c = 92 ∨ c = 58 ∨ c = 91 ∨ c = 93 ∨ c = 64 := by simpa using hm
    have e : nmC c = false := by
      unfold nmC
      rw [decide_eq_false_iff_not]
      omega
    rw [e, decide_eq_false_iff_not]
    omega

set_option maxHeartbeats 1000000 in
set_option maxRecDepth 100000 in
theorem w_inn (c : Int) (w : World) (h0 : 0 ≤ c) (h1 : c < 256) : Calls Tryd.prog 57 #[.int .u8 c] w fun e w' => e = .returned (.bool (nmC c)) ∧ Below w.heap.size w w' := by
  rcases (show c < 33 ∨ 126 < c ∨ (65 ≤ c ∧ c ≤ 90) ∨ (33 ≤ c ∧ c < 65) ∨ (90 < c ∧ c ≤ 126) by omega) with h | h | ⟨h, g⟩ | ⟨h, g⟩ | ⟨h, g⟩
  · have e : nmC c = false := by unfold nmC; simp; omega
    rw [e]
    clear e
    go_enter Tryd.func57, Tryd.ntmps57
    go_wp2_with fail
    go_ret
    exact ⟨rfl, Below.refl _ _⟩
  · have e : nmC c = false := by unfold nmC; simp; omega
    rw [e]
    clear e
    go_enter Tryd.func57, Tryd.ntmps57
    go_wp2_with fail
    go_ret
    exact ⟨rfl, Below.refl _ _⟩
  · have e : nmC c = false := by unfold nmC; simp; omega
    rw [e]
    clear e
    go_enter Tryd.func57, Tryd.ntmps57
    go_wp2_with fail
    go_ret
    exact ⟨rfl, Below.refl _ _⟩
  · go_enter Tryd.func57, Tryd.ntmps57
    go_wp2_with (go_at_call 62; refine (w_sib _ c _ h0 h1).mono ?_; rintro e w1 ⟨i, rfl, hi, rfl⟩; have H := hid (atB_bar hi (by omega) (by omega) (by omega)); clear hi)
    go_ret
    exact ⟨ret_b (by first | exact H.out | (rw [← H.out, decide_eq_false (show ¬ c ≤ 90 by omega)]; rfl)), Below.refl _ _⟩
  · go_enter Tryd.func57, Tryd.ntmps57
    go_wp2_with (go_at_call 62; refine (w_sib _ c _ h0 h1).mono ?_; rintro e w1 ⟨i, rfl, hi, rfl⟩; have H := hid (atB_bar hi (by omega) (by omega) (by omega)); clear hi)
    go_ret
    exact ⟨ret_b (by first | exact H.out | (rw [← H.out, decide_eq_false (show ¬ c ≤ 90 by omega)]; rfl)), Below.refl _ _⟩

set_option maxHeartbeats 1000000 in
set_option maxRecDepth 100000 in
theorem w_pnamed (s : ByteArray) (w : World) (hs : s.size ≤ maxLen) :
    Calls Tryd.prog 39 #[.string s] w fun e w' => e = .returned (.bool (nmF (L s))) ∧ Below w.heap.size w w' := by
  have hs2 := hs
  unfold maxLen at hs2
  by_cases h0 : s.size = 0
  · have hs : s = ⟨#[]⟩ := by
      apply ByteArray.ext
      exact Array.eq_empty_of_size_eq_zero h0
    subst hs
    go_enter Tryd.func39, Tryd.ntmps39
    go_wp2_with fail
    go_ret
    exact ⟨rfl, Below.refl _ _⟩
  · have hemp : s.toList.isEmpty = false := by
      rw [← decide_eq_emptyBytes]
      exact decide_eq_false (fun h => h0 (by rw [h]; rfl))
    by_cases h31 : (31 : Int) < s.size
    · have e : nmF (L s) = false := by unfold nmF; rw [L_len, show decide (1 ≤ s.size ∧ s.size ≤ 31) = false by simp; omega]; rfl
      rw [e]
      clear e
      go_enter Tryd.func39, Tryd.ntmps39
      go_wp2_with fail
      go_ret
      exact ⟨rfl, Below.refl _ _⟩
    · go_enter Tryd.func39, Tryd.ntmps39
      go_wp2_with fail
      go_loopw [13] (fun I wx => ∃ (k : Nat), (k : Int) ≤ s.size ∧ I = .int .i64 k ∧ Hid (((L s).take k).all nmC = true) ∧ Below w.heap.size w wx) (fun I _ => (s.size - intOf I).toNat)
      case atStart => exact ⟨0, by omega, rfl, hid rfl, Below.refl _ _⟩
      case round =>
        obtain ⟨k, hk, rfl, ha, hb⟩ := hrel
        by_cases hlt : (k : Int) < s.size
        · have hkk : k < s.size := by omega
          obtain ⟨c, hc⟩ : ∃ c, (s[k].toNat : Int) = c := ⟨_, rfl⟩
          have hcb := L_bd s k hkk
          rw [hc] at hcb
          obtain ⟨c0, c1⟩ := hcb
          have hLd : Hid (L s = (L s).take k ++ c :: (L s).drop (k + 1)) := by
            show _ = _
            rw [← hc, ← L_drop s k hkk, List.take_append_drop]
          have hLt : Hid ((L s).take (k + 1) = (L s).take k ++ [c]) := by show _ = _; rw [← hc]; exact L_take s k hkk
          have hrun := run_at (w := wr) s k hkk hs
          rw [hc] at hrun
          have cn := w_inn c wr c0 c1
          cases hcc : nmC c
          · have hf : Hid (nmF (L s) = false) := by show _ = _; rw [hLd.out]; exact nm_mid _ _ _ hcc
            rw [hcc] at cn
            clear hcc hLd hLt hc
            go_wp2_with (go_at_call 57; refine cn.mono ?_; rintro e w1 ⟨rfl, b1⟩)
            go_ret
            exact ⟨ret_b hf.out.symm, below_trans hb b1⟩
          · have ha2 : Hid (((L s).take (k + 1)).all nmC = true) := by
              show _ = _
              rw [hLt.out, List.all_append, ha.out]
              simp [hcc]
            rw [hcc] at cn
            clear hcc hLd hLt hc
            go_wp2_with (go_at_call 57; refine cn.mono ?_; rintro e w1 ⟨rfl, b1⟩)
            go_roundw
            case rel => exact ⟨k + 1, by omega, by go_num, ha2, below_trans hb b1⟩
            case measure => simp [intOf]; omega
        · have hall := ha.out
          rw [List.take_of_length_le (by rw [L_len]; omega)] at hall
          have hf : Hid (nmF (L s) = true) := by show _ = _; unfold nmF; rw [hall, L_len]; simp; omega
          clear hall
          obtain rfl : k = s.size := by omega
          go_wp2_with fail
          go_ret
          exact ⟨ret_b hf.out.symm, hb⟩

/-- bytes of a text -/
theorem rd_conv (w : World) (s : ByteArray) (hs : s.size ≤ maxLen) : Rd .u8 (Lib.bytesWorld w 5 s) (.slice (some ⟨w.heap.size, 0, none⟩) s.size (grownCap w s.size 0 5)) (L s) := by
  rcases Nat.eq_zero_or_pos s.size with h0 | h0
  · refine Or.inl ⟨_, _, by rw [h0], (fun h => by cases h), List.eq_nil_of_length_eq_zero (by rw [L_len]; exact h0)⟩
  · refine Or.inr ⟨w.heap.size, 0, _, by rw [L_len], by rw [L_len]; exact h0, by rw [L_len]; exact grownCap_ge _ _ _ _, grownCap_le_maxLen _ _ _ _ hs, fun i hi => ?_⟩
    rw [L_len] at hi
    rw [Nat.zero_add, Lib.bytesWorld_cell w 5 s i hi, L_getD s i hi, List.getD_eq_getElem?_getD, List.getElem?_eq_getElem (by rw [L_len]; exact hi), L_get s i hi]
    rfl
theorem byt0 : bytesL [0] := by
  intro x hx
  simp at hx
  omega
/-- two slices of bytes in a list that is written out -/
theorem slr_two (w : World) (a b : Value) (xa xb : List Int) (T : TypeId) (ha : Rd .u8 w a xa) (hxa : bytesL xa) (hb : Rd .u8 w b xb) (hxb : bytesL xb) : SlR 1 bytR (w.alloc (.cells #[a, b] T)) (.slice (some ⟨w.heap.size, 0, none⟩) 2 2) [xa, xb] := by
  have hg := box_below w (.cells #[a, b] T)
  refine ⟨[[a], [b]], Or.inr ⟨w.heap.size, 0, 2, rfl, by simp, by simp, by decide, fun i hi => ?_⟩, rfl, fun i hi => ?_⟩
  · have : i = 0 ∨ i = 1 := by simp at hi; omega
    rcases this with rfl | rfl
    · refine ⟨rfl, fun j hj => ?_⟩
      obtain rfl : j = 0 := by omega
      rw [World.cell?_alloc_new]
      rfl
    · refine ⟨rfl, fun j hj => ?_⟩
      obtain rfl : j = 0 := by omega
      rw [World.cell?_alloc_new]
      rfl
  · have : i = 0 ∨ i = 1 := by simp at hi; omega
    rcases this with rfl | rfl
    · exact ⟨a, rfl, ha.below hg, hxa⟩
    · exact ⟨b, rfl, hb.below hg, hxb⟩
theorem atB_zero {l : List Int} {i : Int} (h : AtB l 0 i) : (i < 0 ∧ l.all (fun c => decide (¬ c = 0)) = true) ∨ (0 ≤ i ∧ l.all (fun c => decide (¬ c = 0)) = false) := by
  rcases h with ⟨rfl, h⟩ | ⟨k, rfl, hk, he, h⟩
  · refine Or.inl ⟨by decide, ?_⟩
    rw [List.all_eq_true]
    intro x hx
    simpa using h x hx
  · refine Or.inr ⟨by omega, ?_⟩
    rw [he]
    simp
end Go.Proofs.YtmjgiaomijghoaaDoor
