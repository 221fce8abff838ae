/-
  Names, numbers, texts and rows of bytes, as package prop answers them.
-/
import Derived.Test.YtamhcpejebonmaaDoorPlp
import Derived.Test.YtamhcpejebonmaaDoorRp5
import Derived.Laws.BitsAllLaws
namespace Go.Proofs.YtamhcpejebonmaaDoor
open Go.ChangeShapes Go.WideShapes Go.ChangeAt Go.RowKit
set_option linter.unusedVariables false
set_option linter.unusedSimpArgs false

theorem barred : L ⟨#[47, 92, 58, 91, 93, 64]⟩ = [47, 92, 58, 91, 93, 64] := by decide +kernel
theorem atB_bar {c i : Int} (h : AtB (L ⟨#[47, 92, 58, 91, 93, 64]⟩) c i) (h0 : 33 ≤ c) (h1 : c ≤ 126) (h2 : ¬ (65 ≤ c ∧ c ≤ 90)) : decide (i < 0) = nmC c := by
  rw [barred] at h
  rcases h with ⟨rfl, h⟩ | ⟨k, rfl, hk, he, h⟩
  · have a := h 47 (by simp); have b := h 92 (by simp); have d := h 58 (by simp); have e := h 91 (by simp); have f := h 93 (by simp); have g := h 64 (by simp)
    unfold nmC
    simp
    omega
  · have hm : c ∈ ([47, 92, 58, 91, 93, 64] : List Int) := by rw [he]; simp
    have hc : c = 47 ∨ c = 92 ∨ c = 58 ∨ c = 91 ∨ c = 93 ∨ c = 64 := by simpa using hm
    have e : nmC c = false := by
      unfold nmC
      rw [decide_eq_false_iff_not]
      omega
    rw [e, decide_eq_false_iff_not]
    omega

set_option maxHeartbeats 1000000 in
set_option maxRecDepth 100000 in
theorem w_inn (c : Int) (w : World) (h0 : 0 ≤ c) (h1 : c < 256) : Calls Tryd.prog 34 #[.int .u8 c] w fun e w' => e = .returned (.bool (nmC c)) ∧ Below w.heap.size w w' := by
  rcases (show c < 33 ∨ 126 < c ∨ (65 ≤ c ∧ c ≤ 90) ∨ (33 ≤ c ∧ c < 65) ∨ (90 < c ∧ c ≤ 126) by omega) with h | h | ⟨h, g⟩ | ⟨h, g⟩ | ⟨h, g⟩
  · have e : nmC c = false := by unfold nmC; simp; omega
    rw [e]
    clear e
    go_enter Tryd.func34, Tryd.ntmps34
    go_wp2_with fail
    go_ret
    exact ⟨rfl, Below.refl _ _⟩
  · have e : nmC c = false := by unfold nmC; simp; omega
    rw [e]
    clear e
    go_enter Tryd.func34, Tryd.ntmps34
    go_wp2_with fail
    go_ret
    exact ⟨rfl, Below.refl _ _⟩
  · have e : nmC c = false := by unfold nmC; simp; omega
    rw [e]
    clear e
    go_enter Tryd.func34, Tryd.ntmps34
    go_wp2_with fail
    go_ret
    exact ⟨rfl, Below.refl _ _⟩
  · go_enter Tryd.func34, Tryd.ntmps34
    go_wp2_with (go_at_call 40; refine (w_sib _ c _ h0 h1).mono ?_; rintro e w1 ⟨i, rfl, hi, rfl⟩; have H := hid (atB_bar hi (by omega) (by omega) (by omega)); clear hi)
    go_ret
    exact ⟨ret_b (by first | exact H.out | (rw [← H.out, decide_eq_false (show ¬ c ≤ 90 by omega)]; rfl)), Below.refl _ _⟩
  · go_enter Tryd.func34, Tryd.ntmps34
    go_wp2_with (go_at_call 40; refine (w_sib _ c _ h0 h1).mono ?_; rintro e w1 ⟨i, rfl, hi, rfl⟩; have H := hid (atB_bar hi (by omega) (by omega) (by omega)); clear hi)
    go_ret
    exact ⟨ret_b (by first | exact H.out | (rw [← H.out, decide_eq_false (show ¬ c ≤ 90 by omega)]; rfl)), Below.refl _ _⟩

set_option maxHeartbeats 1000000 in
set_option maxRecDepth 100000 in
theorem w_pnamed (s : ByteArray) (w : World) (hs : s.size ≤ maxLen) :
    Calls Tryd.prog 10 #[.string s] w fun e w' => e = .returned (.bool (nmF (L s))) ∧ Below w.heap.size w w' := by
  have hs2 := hs
  unfold maxLen at hs2
  by_cases h0 : s.size = 0
  · have hs : s = ⟨#[]⟩ := by
      apply ByteArray.ext
      exact Array.eq_empty_of_size_eq_zero h0
    subst hs
    go_enter Tryd.func10, Tryd.ntmps10
    go_wp2_with fail
    go_ret
    exact ⟨rfl, Below.refl _ _⟩
  · have hemp : s.toList.isEmpty = false := by
      rw [← decide_eq_emptyBytes]
      exact decide_eq_false (fun h => h0 (by rw [h]; rfl))
    by_cases h31 : (31 : Int) < s.size
    · have e : nmF (L s) = false := by unfold nmF; rw [L_len, show decide (1 ≤ s.size ∧ s.size ≤ 31) = false by simp; omega]; rfl
      rw [e]
      clear e
      go_enter Tryd.func10, Tryd.ntmps10
      go_wp2_with fail
      go_ret
      exact ⟨rfl, Below.refl _ _⟩
    · go_enter Tryd.func10, Tryd.ntmps10
      go_wp2_with fail
      go_loopw [13] (fun I wx => ∃ (k : Nat), (k : Int) ≤ s.size ∧ I = .int .i64 k ∧ Hid (((L s).take k).all nmC = true) ∧ Below w.heap.size w wx) (fun I _ => (s.size - intOf I).toNat)
      case atStart => exact ⟨0, by omega, rfl, hid rfl, Below.refl _ _⟩
      case round =>
        obtain ⟨k, hk, rfl, ha, hb⟩ := hrel
        by_cases hlt : (k : Int) < s.size
        · have hkk : k < s.size := by omega
          obtain ⟨c, hc⟩ : ∃ c, (s[k].toNat : Int) = c := ⟨_, rfl⟩
          have hcb := L_bd s k hkk
          rw [hc] at hcb
          obtain ⟨c0, c1⟩ := hcb
          have hLd : Hid (L s = (L s).take k ++ c :: (L s).drop (k + 1)) := by
            show _ = _
            rw [← hc, ← L_drop s k hkk, List.take_append_drop]
          have hLt : Hid ((L s).take (k + 1) = (L s).take k ++ [c]) := by show _ = _; rw [← hc]; exact L_take s k hkk
          have hrun := run_at (w := wr) s k hkk hs
          rw [hc] at hrun
          have cn := w_inn c wr c0 c1
          cases hcc : nmC c
          · have hf : Hid (nmF (L s) = false) := by show _ = _; rw [hLd.out]; exact nm_mid _ _ _ hcc
            rw [hcc] at cn
            clear hcc hLd hLt hc
            go_wp2_with (go_at_call 34; refine cn.mono ?_; rintro e w1 ⟨rfl, b1⟩)
            go_ret
            exact ⟨ret_b hf.out.symm, below_trans hb b1⟩
          · have ha2 : Hid (((L s).take (k + 1)).all nmC = true) := by
              show _ = _
              rw [hLt.out, List.all_append, ha.out]
              simp [hcc]
            rw [hcc] at cn
            clear hcc hLd hLt hc
            go_wp2_with (go_at_call 34; refine cn.mono ?_; rintro e w1 ⟨rfl, b1⟩)
            go_roundw
            case rel => exact ⟨k + 1, by omega, by go_num, ha2, below_trans hb b1⟩
            case measure => simp [intOf]; omega
        · have hall := ha.out
          rw [List.take_of_length_le (by rw [L_len]; omega)] at hall
          have hf : Hid (nmF (L s) = true) := by show _ = _; unfold nmF; rw [hall, L_len]; simp; omega
          clear hall
          obtain rfl : k = s.size := by omega
          go_wp2_with fail
          go_ret
          exact ⟨ret_b hf.out.symm, hb⟩

set_option maxHeartbeats 1000000 in
set_option maxRecDepth 100000 in
theorem w_pencint (n : Int) (w : World) (h0 : 0 ≤ n) (h1 : n < 4294967296) :
    Calls Tryd.prog 20 #[.int .u32 n] w fun e w' => ∃ v, e = .returned v ∧ Rd .u8 w' v (beB 4 n) ∧ Below w.heap.size w w' := by
  have e : beB 4 n = [n / 16777216, n / 65536 % 256, n / 256 % 256, n % 256] := by simp [beB]; omega
  rw [e]
  go_enter Tryd.func20, Tryd.ntmps20
  go_wp2_with fail
  go_ret
  exact ⟨_, rfl, rd_lit w [n / 16777216, n / 65536 % 256, n / 256 % 256, n % 256] 5 (by simp) (by simp [maxLen]), box_below _ _⟩

set_option maxHeartbeats 1000000 in
set_option maxRecDepth 100000 in
theorem w_pjoin (v : Value) (ps : List (List Int)) (w : World) (h : SlR 1 bytR w v ps) :
    Calls Tryd.prog 22 #[v] w fun e w' => ∃ v1, e = .returned (.tuple #[v1, .int .i64 (joiF ps).2]) ∧ Rd .u8 w' v1 (joiF ps).1 ∧ Below w.heap.size w w' := by
  have hla := slr_len h uBB (P := Tryd.prog)
  have hma := slr_max h
  unfold maxLen at hma
  obtain ⟨i0, hi, hz0, hz1, hz2⟩ := info_parts infoU8
  obtain ⟨A, E, hAE⟩ : ∃ A E, joiF ps = (A, E) := ⟨_, _, rfl⟩
  have HAE := hid hAE
  rw [hAE]
  show Calls _ _ _ _ fun e w' => ∃ v, e = .returned (.tuple #[v, .int .i64 E]) ∧ Rd .u8 w' v A ∧ _
  clear hAE
  go_enter Tryd.func22, Tryd.ntmps22
  go_wp2_with fail
  go_loopw [4, 9] (fun U I wx => ∃ (k : Nat) (ys : List Int), (k : Int) ≤ ps.length ∧ I = .int .i64 k ∧ Hid (ys = (ps.take k).flatten) ∧ (ys.length : Int) ≤ 256 ∧ Own8 w.heap.size wx U ys ∧ Below w.heap.size w wx) (fun _ I _ => (ps.length - intOf I).toNat)
  case atStart => exact ⟨0, [], by omega, rfl, hid (by simp), by simp, World.ownsRow_nil _ _ _ _, Below.refl _ _⟩
  case round =>
    obtain ⟨k, ys, hk, rfl, hys, hyl, ho, hb⟩ := hrel
    have hlo := rd_len (Rd_own ho).1 uB (P := Tryd.prog)
    by_cases hlt : (k : Int) < ps.length
    · have hkk : k < ps.length := by omega
      obtain ⟨ad, c, r1, c1, rc, bc⟩ := byt_at (h.below hb (bytR_below hb)) k hkk
      have hlc := rd_len rc uB (P := Tryd.prog)
      obtain ⟨X, hX⟩ : ∃ X, ps[k] = X := ⟨_, rfl⟩
      have HX := hid hX
      rw [hX] at rc hlc
      have hXm : X.length ≤ 9223372036854775807 := by
        rcases rc with ⟨_, _, _, _, rfl⟩ | ⟨_, _, cap, _, _, h1, h2, _⟩
        · simp
        · unfold maxLen at h2; omega
      clear hX bc
      by_cases hov : (256 : Int) - ys.length < X.length
      · have e : Hid (joiF ps = ([], 3)) := joi_over ps k hkk (by rw [HX.out, ← hys.out]; omega)
        go_wp2_with fail
        go_ret2
        obtain ⟨rfl, rfl⟩ := Prod.mk.inj (HAE.out.symm.trans e.out)
        exact ⟨_, rfl, Rd_nil, hb⟩
      · have hys2 : Hid (ys ++ X = (ps.take (k + 1)).flatten) := by show _ = _; rw [joi_step ps k hkk, HX.out, hys.out]
        go_wp2_with (at_builtin; refine wpList_append_rd (k := .u8) rfl _ _ 32 rfl w.heap.size 5 i0 1 Tryd.underlying32 hi hz0 hz1 hz2 _ ys rfl ho _ X rfl rc (by unfold maxLen; omega) (by omega) hb.size ?_; intro v4 w4 ho4 hg4)
        go_roundw
        case rel => exact ⟨k + 1, ys ++ X, by omega, by go_num, hys2, by rw [List.length_append]; omega, ho4, below_grown hb hg4 (fun k hk => (ho.lt k hk).1)⟩
        case measure => simp [intOf]; omega
    · have e : Hid (joiF ps = (ys, 0)) := by
        show _ = _
        have e1 : ys = ps.flatten := by rw [hys.out, List.take_of_length_le (by omega)]
        rw [e1]
        exact joi_all ps (by rw [← e1]; omega)
      go_wp2_with fail
      go_ret2
      obtain ⟨rfl, rfl⟩ := Prod.mk.inj (HAE.out.symm.trans e.out)
      exact ⟨_, rfl, (Rd_own ho).1, hb⟩

/-- bytes of a text -/
theorem rd_conv (w : World) (s : ByteArray) (hs : s.size ≤ maxLen) : Rd .u8 (Lib.bytesWorld w 5 s) (.slice (some ⟨w.heap.size, 0, none⟩) s.size (grownCap w s.size 0 5)) (L s) := by
  rcases Nat.eq_zero_or_pos s.size with h0 | h0
  · refine Or.inl ⟨_, _, by rw [h0], (fun h => by cases h), List.eq_nil_of_length_eq_zero (by rw [L_len]; exact h0)⟩
  · refine Or.inr ⟨w.heap.size, 0, _, by rw [L_len], by rw [L_len]; exact h0, by rw [L_len]; exact grownCap_ge _ _ _ _, grownCap_le_maxLen _ _ _ _ hs, fun i hi => ?_⟩
    rw [L_len] at hi
    rw [Nat.zero_add, Lib.bytesWorld_cell w 5 s i hi, L_getD s i hi, List.getD_eq_getElem?_getD, List.getElem?_eq_getElem (by rw [L_len]; exact hi), L_get s i hi]
    rfl
theorem byt0 : bytesL [0] := by
  intro x hx
  simp at hx
  omega
/-- two slices of bytes in a list that is written out -/
theorem slr_two (w : World) (a b : Value) (xa xb : List Int) (T : TypeId) (ha : Rd .u8 w a xa) (hxa : bytesL xa) (hb : Rd .u8 w b xb) (hxb : bytesL xb) : SlR 1 bytR (w.alloc (.cells #[a, b] T)) (.slice (some ⟨w.heap.size, 0, none⟩) 2 2) [xa, xb] := by
  have hg := box_below w (.cells #[a, b] T)
  refine ⟨[[a], [b]], Or.inr ⟨w.heap.size, 0, 2, rfl, by simp, by simp, by decide, fun i hi => ?_⟩, rfl, fun i hi => ?_⟩
  · have : i = 0 ∨ i = 1 := by simp at hi; omega
    rcases this with rfl | rfl
    · refine ⟨rfl, fun j hj => ?_⟩
      obtain rfl : j = 0 := by omega
      rw [World.cell?_alloc_new]
      rfl
    · refine ⟨rfl, fun j hj => ?_⟩
      obtain rfl : j = 0 := by omega
      rw [World.cell?_alloc_new]
      rfl
  · have : i = 0 ∨ i = 1 := by simp at hi; omega
    rcases this with rfl | rfl
    · exact ⟨a, rfl, ha.below hg, hxa⟩
    · exact ⟨b, rfl, hb.below hg, hxb⟩
theorem atB_zero {l : List Int} {i : Int} (h : AtB l 0 i) : (i < 0 ∧ l.all (fun c => decide (¬ c = 0)) = true) ∨ (0 ≤ i ∧ l.all (fun c => decide (¬ c = 0)) = false) := by
  rcases h with ⟨rfl, h⟩ | ⟨k, rfl, hk, he, h⟩
  · refine Or.inl ⟨by decide, ?_⟩
    rw [List.all_eq_true]
    intro x hx
    simpa using h x hx
  · refine Or.inr ⟨by omega, ?_⟩
    rw [he]
    simp

set_option maxHeartbeats 1000000 in
set_option maxRecDepth 100000 in
theorem w_penctext (s : ByteArray) (w : World) (hs : s.size ≤ maxLen) :
    Calls Tryd.prog 17 #[.string s] w fun e w' => ∃ v, e = .returned (.tuple #[v, .int .i64 (enTF (L s)).2]) ∧ Rd .u8 w' v (enTF (L s)).1 ∧ Below w.heap.size w w' := by
  have cz : ∀ w, Calls Tryd.prog 40 #[.string s, .int .u8 0] w fun e w' => ∃ i, e = .returned (.int .i64 i) ∧ ((i < 0 ∧ (L s).all (fun c => decide (¬ c = 0)) = true) ∨ (0 ≤ i ∧ (L s).all (fun c => decide (¬ c = 0)) = false)) ∧ w' = w := fun w =>
    (w_sib s 0 w (by decide) (by decide)).mono (by rintro e w' ⟨i, h1, h2, h3⟩; exact ⟨i, h1, atB_zero h2, h3⟩)
  cases hA : (L s).all (fun c => decide (¬ c = 0))
  · have e : enTF (L s) = ([], 15) := by unfold enTF; rw [hA, if_pos rfl]
    rw [e]
    rw [hA] at cz
    clear hA e
    go_enter Tryd.func17, Tryd.ntmps17
    go_wp2_with (go_at_call 40; refine (cz _).mono ?_; rintro e w1 ⟨i, rfl, hi, rfl⟩; have hi2 : 0 ≤ i := hi.elim (fun h => by cases h.2) (fun h => h.1))
    go_ret2
    exact ⟨_, rfl, Rd_nil, Below.refl _ _⟩
  · have e : enTF (L s) = joiF [L s, [0]] := by
      unfold enTF joiF
      rw [hA, if_neg (by decide)]
      simp only [List.flatten_cons, List.flatten_nil, List.append_nil, List.length_append, List.length_cons, List.length_nil]
      by_cases h : 256 ≤ (L s).length
      · rw [if_pos h, if_pos (by omega)]
      · rw [if_neg h, if_neg (by omega)]
    rw [e]
    rw [hA] at cz
    clear hA e
    have hcv := Lib.run_convert_string_bytes (P := Tryd.prog) w 9 32 5 s (u := .string) Tryd.underlying9 Tryd.underlying32 Tryd.underlying5
    have hr := rd_conv w s hs
    have hbel := Lib.bytesWorld_below w 5 s
    obtain ⟨g, hV⟩ : ∃ g, grownCap w s.size 0 5 = g := ⟨_, rfl⟩
    obtain ⟨W1, hW1⟩ : ∃ W1, Lib.bytesWorld w 5 s = W1 := ⟨_, rfl⟩
    rw [hV, hW1] at hcv
    rw [hV, hW1] at hr
    rw [hW1] at hbel
    clear hV hW1
    have hS : SlR 1 bytR ((W1.alloc (.cells #[.int .u8 0] 5)).alloc (.cells #[.slice (some ⟨w.heap.size, 0, none⟩) s.size g, .slice (some ⟨W1.heap.size, 0, none⟩) 1 1] 32)) (.slice (some ⟨W1.heap.size + 1, 0, none⟩) 2 2) [L s, [0]] := by
      have := slr_two (W1.alloc (.cells #[.int .u8 0] 5)) _ _ _ _ 32 (hr.below (box_below W1 (.cells #[.int .u8 0] 5))) (LB_bytes s) (rd_one W1 0 5) byt0
      rw [size_al] at this
      exact this
    have cj := w_pjoin _ _ _ hS
    obtain ⟨P, E, hJ⟩ : ∃ P E, joiF [L s, [0]] = (P, E) := ⟨_, _, rfl⟩
    rw [hJ] at cj
    rw [hJ]
    have hb3 := (box_below W1 (.cells #[.int .u8 0] 5)).alloc (box_below W1 (.cells #[.int .u8 0] 5)).size (.cells #[.slice (some ⟨w.heap.size, 0, none⟩) s.size g, .slice (some ⟨W1.heap.size, 0, none⟩) 1 1] 32)
    have hb4 := hid (below_trans hbel hb3)
    clear hS hJ hb3
    go_enter Tryd.func17, Tryd.ntmps17
    go_wp2_with (first
      | (go_at_call 40; refine (cz _).mono ?_; rintro e w1 ⟨i, rfl, hi, rfl⟩; have hi2 : i < 0 := hi.elim (fun h => h.1) (fun h => by cases h.2))
      | (go_at_call 22; refine cj.mono ?_; rintro e w2 ⟨v2, rfl, r2, b2⟩))
    go_ret2
    exact ⟨v2, rfl, r2, below_trans hb4.out b2⟩
end Go.Proofs.YtamhcpejebonmaaDoor
