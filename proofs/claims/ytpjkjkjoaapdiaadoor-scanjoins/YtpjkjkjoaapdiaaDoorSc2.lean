/-
  The small functions of package scan: kinds of bytes, the first byte of a kind, small letters, blanks left out, the ends of remarks and of shown texts.
-/
import Derived.Test.YtpjkjkjoaapdiaaDoorSc1
import Derived.Laws.AppendOwn
namespace Go.Proofs.YtpjkjkjoaapdiaaDoor
open Go.ChangeShapes Go.WideShapes Go.ChangeAt Go.RowKit
set_option linter.unusedVariables false
set_option linter.unusedSimpArgs false

theorem w_blank (c : Int) (w : World) (c0 : 0 ≤ c) (c1 : c < 256) :
    Calls Tryd.prog 25 #[.int .u8 c] w fun e w' => e = .returned (.bool (blC c)) ∧ w' = w := by
  unfold blC
  go_enter Tryd.func25, Tryd.ntmps25
  go_wp2_with fail
  go_ret
  exact ⟨rfl, rfl⟩

theorem w_solid (c : Int) (w : World) (c0 : 0 ≤ c) (c1 : c < 256) :
    Calls Tryd.prog 15 #[.int .u8 c] w fun e w' => e = .returned (.bool (soC c)) ∧ w' = w := by
  go_enter Tryd.func15, Tryd.ntmps15
  go_wp2_with (go_at_call 25; refine (w_blank c _ c0 c1).mono ?_; rintro e w1 ⟨rfl, rfl⟩)
  go_ret
  exact ⟨rfl, rfl⟩

theorem w_great (c : Int) (w : World) (c0 : 0 ≤ c) (c1 : c < 256) :
    Calls Tryd.prog 38 #[.int .u8 c] w fun e w' => e = .returned (.bool (grC c)) ∧ w' = w := by
  unfold grC
  go_enter Tryd.func38, Tryd.ntmps38
  go_wp2_with fail
  all_goals go_ret
  all_goals refine ⟨ret_b ?_, rfl⟩
  all_goals simp_all
  all_goals omega

theorem w_unlike (c : Int) (w : World) (c0 : 0 ≤ c) (c1 : c < 256) :
    Calls Tryd.prog 40 #[.int .u8 c] w fun e w' => e = .returned (.bool (unC c)) ∧ w' = w := by
  have e : unC c = (blC c || grC c) := rfl
  rw [e]
  cases h1 : blC c
  · have cb := w_blank c w c0 c1
    have cg := w_great c w c0 c1
    rw [h1] at cb
    go_enter Tryd.func40, Tryd.ntmps40
    go_wp2_with (first | (go_at_call 25; refine cb.mono ?_; rintro e w1 ⟨rfl, rfl⟩) | (go_at_call 38; refine cg.mono ?_; rintro e w1 ⟨rfl, rfl⟩))
    go_ret
    exact ⟨rfl, rfl⟩
  · have cb := w_blank c w c0 c1
    rw [h1] at cb
    go_enter Tryd.func40, Tryd.ntmps40
    go_wp2_with (go_at_call 25; refine cb.mono ?_; rintro e w1 ⟨rfl, rfl⟩)
    go_ret
    exact ⟨rfl, rfl⟩

set_option maxHeartbeats 1000000 in
theorem w_find_solid (s : ByteArray) (i : Nat) (w : World) (hs : s.size ≤ maxLen) (hi : i ≤ s.size) :
    Calls Tryd.prog 14 #[.string s, .int .i64 i, .func (.func 15) #[] #[]] w fun e w' => e = .returned (.int .i64 (fdF soC (L s) i)) ∧ w' = w := by
  have hs2 := hs
  unfold maxLen at hs2
  obtain ⟨R, hR⟩ : ∃ R, fdF soC (L s) i = R := ⟨_, rfl⟩
  rw [hR]
  have HR := hid hR
  clear hR
  go_enter Tryd.func14, Tryd.ntmps14
  go_wp2_with fail
  go_loop [12] (fun I => ∃ (k : Nat), (i : Int) + k ≤ s.size ∧ I = .int .i64 k ∧ Hid (fdF soC (L s) (i + k) = R)) (fun I => (s.size - intOf I).toNat)
  case atStart => exact ⟨0, by omega, rfl, HR⟩
  case round =>
    obtain ⟨k, hk, rfl, hn⟩ := hrel
    by_cases hlt : (i : Int) + k < s.size
    · obtain ⟨c, hr0, c0, c1, hc, _⟩ := str_byte s (i + k) (by omega) hs
      have hr : ∀ w, (Instr.index 9 (.string s) (.int .i64 ((i : Int) + k))).run Tryd.prog w = .ok (.int .u8 c) w := hr0
      have cc := fun w => w_solid c w c0 c1
      cases hp : soC c
      · have hn2 : Hid (fdF soC (L s) (i + (k + 1)) = R) := by show _ = _; rw [← hn.out, fd_on soC (L s) (i + k) (by rw [L_len]; omega) (by rw [hc]; exact hp)]; rfl
        rw [hp] at cc
        clear hc hp hr0
        go_wp2_with (go_at_call 15; refine (cc _).mono ?_; rintro e w1 ⟨rfl, rfl⟩)
        exact ⟨⟨k + 1, by omega, by go_num, hn2⟩, by simp [intOf]; omega⟩
      · have e : Hid (R = i + k) := by show _ = _; rw [← hn.out, fd_hit soC (L s) (i + k) (by rw [L_len]; omega) (by rw [hc]; exact hp)]
        rw [hp] at cc
        clear hc hp hr0
        go_wp2_with (go_at_call 15; refine (cc _).mono ?_; rintro e w1 ⟨rfl, rfl⟩)
        go_ret
        rw [e.out]
        exact ⟨rfl, rfl⟩
    · have e : Hid (R = s.size) := by show _ = _; rw [← hn.out, fd_end soC (L s) (i + k) (by rw [L_len]; omega)]; omega
      go_wp2_with fail
      go_ret
      rw [e.out]
      exact ⟨rfl, rfl⟩

set_option maxHeartbeats 1000000 in
theorem w_find_blank (s : ByteArray) (i : Nat) (w : World) (hs : s.size ≤ maxLen) (hi : i ≤ s.size) :
    Calls Tryd.prog 14 #[.string s, .int .i64 i, .func (.func 25) #[] #[]] w fun e w' => e = .returned (.int .i64 (fdF blC (L s) i)) ∧ w' = w := by
  have hs2 := hs
  unfold maxLen at hs2
  obtain ⟨R, hR⟩ : ∃ R, fdF blC (L s) i = R := ⟨_, rfl⟩
  rw [hR]
  have HR := hid hR
  clear hR
  go_enter Tryd.func14, Tryd.ntmps14
  go_wp2_with fail
  go_loop [12] (fun I => ∃ (k : Nat), (i : Int) + k ≤ s.size ∧ I = .int .i64 k ∧ Hid (fdF blC (L s) (i + k) = R)) (fun I => (s.size - intOf I).toNat)
  case atStart => exact ⟨0, by omega, rfl, HR⟩
  case round =>
    obtain ⟨k, hk, rfl, hn⟩ := hrel
    by_cases hlt : (i : Int) + k < s.size
    · obtain ⟨c, hr0, c0, c1, hc, _⟩ := str_byte s (i + k) (by omega) hs
      have hr : ∀ w, (Instr.index 9 (.string s) (.int .i64 ((i : Int) + k))).run Tryd.prog w = .ok (.int .u8 c) w := hr0
      have cc := fun w => w_blank c w c0 c1
      cases hp : blC c
      · have hn2 : Hid (fdF blC (L s) (i + (k + 1)) = R) := by show _ = _; rw [← hn.out, fd_on blC (L s) (i + k) (by rw [L_len]; omega) (by rw [hc]; exact hp)]; rfl
        rw [hp] at cc
        clear hc hp hr0
        go_wp2_with (go_at_call 25; refine (cc _).mono ?_; rintro e w1 ⟨rfl, rfl⟩)
        exact ⟨⟨k + 1, by omega, by go_num, hn2⟩, by simp [intOf]; omega⟩
      · have e : Hid (R = i + k) := by show _ = _; rw [← hn.out, fd_hit blC (L s) (i + k) (by rw [L_len]; omega) (by rw [hc]; exact hp)]
        rw [hp] at cc
        clear hc hp hr0
        go_wp2_with (go_at_call 25; refine (cc _).mono ?_; rintro e w1 ⟨rfl, rfl⟩)
        go_ret
        rw [e.out]
        exact ⟨rfl, rfl⟩
    · have e : Hid (R = s.size) := by show _ = _; rw [← hn.out, fd_end blC (L s) (i + k) (by rw [L_len]; omega)]; omega
      go_wp2_with fail
      go_ret
      rw [e.out]
      exact ⟨rfl, rfl⟩

set_option maxHeartbeats 1000000 in
theorem w_find_unlike (s : ByteArray) (i : Nat) (w : World) (hs : s.size ≤ maxLen) (hi : i ≤ s.size) :
    Calls Tryd.prog 14 #[.string s, .int .i64 i, .func (.func 40) #[] #[]] w fun e w' => e = .returned (.int .i64 (fdF unC (L s) i)) ∧ w' = w := by
  have hs2 := hs
  unfold maxLen at hs2
  obtain ⟨R, hR⟩ : ∃ R, fdF unC (L s) i = R := ⟨_, rfl⟩
  rw [hR]
  have HR := hid hR
  clear hR
  go_enter Tryd.func14, Tryd.ntmps14
  go_wp2_with fail
  go_loop [12] (fun I => ∃ (k : Nat), (i : Int) + k ≤ s.size ∧ I = .int .i64 k ∧ Hid (fdF unC (L s) (i + k) = R)) (fun I => (s.size - intOf I).toNat)
  case atStart => exact ⟨0, by omega, rfl, HR⟩
  case round =>
    obtain ⟨k, hk, rfl, hn⟩ := hrel
    by_cases hlt : (i : Int) + k < s.size
    · obtain ⟨c, hr0, c0, c1, hc, _⟩ := str_byte s (i + k) (by omega) hs
      have hr : ∀ w, (Instr.index 9 (.string s) (.int .i64 ((i : Int) + k))).run Tryd.prog w = .ok (.int .u8 c) w := hr0
      have cc := fun w => w_unlike c w c0 c1
      cases hp : unC c
      · have hn2 : Hid (fdF unC (L s) (i + (k + 1)) = R) := by show _ = _; rw [← hn.out, fd_on unC (L s) (i + k) (by rw [L_len]; omega) (by rw [hc]; exact hp)]; rfl
        rw [hp] at cc
        clear hc hp hr0
        go_wp2_with (go_at_call 40; refine (cc _).mono ?_; rintro e w1 ⟨rfl, rfl⟩)
        exact ⟨⟨k + 1, by omega, by go_num, hn2⟩, by simp [intOf]; omega⟩
      · have e : Hid (R = i + k) := by show _ = _; rw [← hn.out, fd_hit unC (L s) (i + k) (by rw [L_len]; omega) (by rw [hc]; exact hp)]
        rw [hp] at cc
        clear hc hp hr0
        go_wp2_with (go_at_call 40; refine (cc _).mono ?_; rintro e w1 ⟨rfl, rfl⟩)
        go_ret
        rw [e.out]
        exact ⟨rfl, rfl⟩
    · have e : Hid (R = s.size) := by show _ = _; rw [← hn.out, fd_end unC (L s) (i + k) (by rw [L_len]; omega)]; omega
      go_wp2_with fail
      go_ret
      rw [e.out]
      exact ⟨rfl, rfl⟩

/-- the row that a text's bytes were laid into -/
def BB (w : World) (b z : Nat) (ys : List Int) : Prop := ∃ cur : Array Value, w.heap[b]? = some (.cells cur 5 (z, z + 1)) ∧ cur.size = z ∧ ys.length ≤ z ∧ ∀ j, j < ys.length → cur[j]? = some (.int .u8 (ys.getD j 0))
theorem BB_new (w : World) (s : ByteArray) : BB (Lib.bytesWorld w 5 s) w.heap.size (Lib.bytesCells w 5 s).size (L s) := by
  refine ⟨_, Lib.bytesWorld_at_new w 5 s, rfl, ?_, fun j hj => ?_⟩
  · rw [L_len]
    unfold Lib.bytesCells
    simp
  · have hj2 : j < s.size := by rw [L_len] at hj; exact hj
    have e := Lib.bytesWorld_cell w 5 s j hj2
    simp only [World.cell?, Lib.bytesWorld_at_new, Option.bind_some] at e
    have e2 : (L s).getD j 0 = ((s.data.toList.getD j 0).toNat : Int) := by
      rw [List.getD_eq_getElem?_getD, List.getElem?_eq_getElem hj, L_get s j hj2, ← L_getD s j hj2]
      rfl
    rw [e2]
    simpa using e
theorem BB_cell {w : World} {b z : Nat} {ys : List Int} (h : BB w b z ys) (j : Nat) (hj : j < ys.length) : w.cell? ⟨b, j, none⟩ = some (.int .u8 (ys.getD j 0)) := by
  obtain ⟨cur, h1, h2, h3, h4⟩ := h
  simp [World.cell?, h1, h4 j hj]
theorem BB_free {w : World} {b z : Nat} {ys : List Int} (h : BB w b z ys) (j : Nat) (hj : j < ys.length) : w.frozen? ⟨b, j, none⟩ = false := by
  obtain ⟨cur, h1, h2, h3, h4⟩ := h
  simp [World.frozen?, h1]
  omega
theorem BB_set {w : World} {b z : Nat} {ys : List Int} (h : BB w b z ys) (j : Nat) (hj : j < ys.length) (y : Int) : BB (w.setCell ⟨b, j, none⟩ (.int .u8 y)) b z (ys.set j y) := by
  obtain ⟨cur, h1, h2, h3, h4⟩ := h
  have hb := (Array.getElem?_eq_some_iff.1 h1).1
  have e : w.heap[b] = .cells cur 5 (z, z + 1) := (Array.getElem?_eq_some_iff.1 h1).2
  refine ⟨cur.setIfInBounds j (.int .u8 y), ?_, by simpa using h2, by simpa using h3, fun i hi => ?_⟩
  · simp only [World.setCell]
    rw [Array.getElem?_modify, if_pos rfl, Array.getElem?_eq_getElem hb, e]
    rfl
  · rw [List.length_set] at hi
    rw [Array.getElem?_setIfInBounds]
    by_cases hij : j = i
    · subst hij
      rw [if_pos rfl, if_pos (by omega)]
      simp [List.getD_eq_getElem?_getD, hi]
    · rw [if_neg hij, h4 i hi]
      simp [List.getD_eq_getElem?_getD, List.getElem?_set, hij]
theorem BB_rd {w : World} {b z : Nat} {ys : List Int} (h : BB w b z ys) (c : Nat) (hc : ys.length ≤ c) (hm : c ≤ maxLen) : Rd .u8 w (.slice (some ⟨b, 0, none⟩) ys.length c) ys := by
  rcases Nat.eq_zero_or_pos ys.length with h0 | h0
  · left
    have : ys = [] := List.eq_nil_of_length_eq_zero h0
    subst this
    exact ⟨_, _, rfl, (fun h => by cases h), rfl⟩
  · right
    exact ⟨b, 0, c, rfl, h0, hc, hm, fun i hi => by simpa using BB_cell h i hi⟩
theorem sm_gr (c : Int) : sm c = if grC c = true then c + 32 else c := by
  unfold sm grC
  simp
theorem map_set_sm (l : List Int) (k : Nat) (h : k < l.length) (y : Int) (hy : sm l[k] = y) : ((l.take k).map sm ++ l.drop k).set k y = (l.take (k + 1)).map sm ++ l.drop (k + 1) := by
  have hk : ((l.take k).map sm).length = k := by simp; omega
  rw [List.set_append_right _ _ (by omega), hk, Nat.sub_self, List.drop_eq_getElem_cons h, List.set_cons_zero, List.take_succ_eq_append_getElem h, List.map_append]
  simp [hy]

set_option maxHeartbeats 2000000 in
theorem w_small (s : ByteArray) (w : World) (hs : s.size ≤ 140737488355328) :
    Calls Tryd.prog 30 #[.string s] w fun e w' => e = .returned (.string (strOfNums ((L s).map sm))) ∧ Below w.heap.size w w' := by
  have hm : s.size ≤ maxLen := by unfold maxLen; omega
  have hcv := Lib.run_convert_string_bytes (P := Tryd.prog) w 9 44 5 s (u := .string) Tryd.underlying9 Tryd.underlying44 Tryd.underlying5
  have hB0 := BB_new w s
  have hbel := Lib.bytesWorld_below w 5 s
  have hge := grownCap_ge w s.size 0 5
  have hle := grownCap_le_maxLen w s.size 0 5 hm
  obtain ⟨cap, hcap⟩ : ∃ cap, grownCap w s.size 0 5 = cap := ⟨_, rfl⟩
  rw [hcap] at hge hle hcv
  obtain ⟨z, hz⟩ : ∃ z, (Lib.bytesCells w 5 s).size = z := ⟨_, rfl⟩
  rw [hz] at hB0
  obtain ⟨W1, hW1⟩ : ∃ W1, W1 = Lib.bytesWorld w 5 s := ⟨_, rfl⟩
  rw [← hW1] at hcv hB0 hbel
  clear hW1 hz hcap
  obtain ⟨R, hR⟩ : ∃ R, strOfNums ((L s).map sm) = R := ⟨_, rfl⟩
  rw [hR]
  have HR := hid hR
  clear hR
  go_enter Tryd.func30, Tryd.ntmps30
  go_wp2_with fail
  go_loopw [9] (fun I wx => ∃ (k : Nat) (ys : List Int), (k : Int) ≤ s.size ∧ I = .int .i64 k ∧ Hid (ys = ((L s).take k).map sm ++ (L s).drop k) ∧ (ys.length : Int) = s.size ∧ BB wx w.heap.size z ys ∧ Below w.heap.size w wx) (fun I _ => (s.size - intOf I).toNat)
  case atStart => exact ⟨0, L s, by omega, rfl, hid (by simp), by rw [L_len], hB0, hbel⟩
  case round =>
    obtain ⟨k, ys, hk, rfl, hys, hyl, hB, hb⟩ := hrel
    have hyn : ys.length = s.size := by omega
    by_cases hlt : (k : Int) < s.size
    · have hkk : k < s.size := by omega
      have hkl : k < (L s).length := by rw [L_len]; omega
      have hkt : ((L s).take k).length = k := by rw [List.length_take]; omega
      have hcell := BB_cell hB k (by omega)
      have hfree := BB_free hB k (by omega)
      obtain ⟨c, c0, c1, hc⟩ : ∃ c : Int, 0 ≤ c ∧ c < 256 ∧ (L s)[k] = c := ⟨_, (LB_bytes s _ (List.getElem_mem hkl)).1, (LB_bytes s _ (List.getElem_mem hkl)).2, rfl⟩
      have hgd : ys.getD k 0 = c := by
        rw [hys.out, List.getD_eq_getElem?_getD, List.getElem?_append_right (by rw [List.length_map, hkt]; exact Nat.le_refl _), List.length_map, hkt, Nat.sub_self, List.getElem?_drop, Nat.add_zero, List.getElem?_eq_getElem hkl, hc]
        rfl
      rw [hgd] at hcell
      have hix : ∀ w', (Instr.indexAt 44 (.slice (some ⟨w.heap.size, 0, none⟩) s.size cap) (.int .i64 (k : Int))).run Tryd.prog w' = .ok (.pointer (some ⟨w.heap.size, k, none⟩)) w' := by
        obtain ⟨a, ha, hac⟩ := rd_idx (BB_rd hB cap (by omega) hle) uB zB (k : Int) (by omega) (by omega)
        intro w'
        rw [run_indexAt_slice (h := uB), if_pos ⟨by omega, by omega⟩, zB]
        simp only [Result.andThen, Int.toNat_natCast]
        congr 3
        unfold Addr.add
        split
        · rename_i hz; simp at hz; rw [hz]
        · simp
      have cg := fun w => w_great c w c0 c1
      have hsg := sm_gr c
      cases hg : grC c
      · rw [hg] at cg hsg
        have hys2 : Hid (ys = ((L s).take (k + 1)).map sm ++ (L s).drop (k + 1)) := by
          show _ = _
          rw [hys.out, List.take_succ_eq_append_getElem hkl, List.map_append, List.append_assoc, List.drop_eq_getElem_cons hkl, hc]
          simp [hsg]
        clear hc hgd hkl hkt hsg hg
        go_wp2_with (go_at_call 38; refine (cg _).mono ?_; rintro e w1 ⟨rfl, rfl⟩)
        go_roundw
        case rel => exact ⟨k + 1, ys, by omega, by go_num, hys2, hyl, hB, hb⟩
        case measure => simp [intOf]; omega
      · rw [hg] at cg hsg
        have hc90 : 65 ≤ c ∧ c ≤ 90 := by simpa [grC] using hg
        obtain ⟨c2, c3⟩ := hc90
        have hys2 : Hid (ys.set k (c + 32) = ((L s).take (k + 1)).map sm ++ (L s).drop (k + 1)) := by
          show _ = _
          rw [hys.out, map_set_sm (L s) k hkl (c + 32) (by rw [hc, hsg]; rfl)]
        have hB2 := BB_set hB k (by omega) (c + 32)
        have hb2 := hb.setCell (show w.heap.size ≤ (⟨w.heap.size, k, none⟩ : Addr).block from Nat.le_refl _) (.int .u8 (c + 32))
        clear hc hgd hkl hkt hsg hg
        go_wp2_with (go_at_call 38; refine (cg _).mono ?_; rintro e w1 ⟨rfl, rfl⟩)
        go_roundw
        case rel => exact ⟨k + 1, ys.set k (c + 32), by omega, by go_num, hys2, by rw [List.length_set]; exact hyl, hB2, hb2⟩
        case measure => simp [intOf]; omega
    · have e : Hid (R = strOfNums ys) := by
        show _ = _
        rw [← HR.out, hys.out, List.take_of_length_le (by rw [L_len]; omega), List.drop_of_length_le (by rw [L_len]; omega), List.append_nil]
      have cs := rd_strT (BB_rd hB cap (by omega) hle)
      rw [hyn] at cs
      obtain ⟨Y, hY⟩ : ∃ Y, strOfNums ys = Y := ⟨_, rfl⟩
      rw [hY] at cs e
      clear hY
      go_wp2_with fail
      go_ret
      rw [e.out]
      exact ⟨rfl, hb⟩

set_option maxHeartbeats 1000000 in
theorem w_noblanks (s : ByteArray) (w : World) (hs : s.size ≤ 140737488355328) :
    Calls Tryd.prog 45 #[.string s] w fun e w' => e = .returned (.string (strOfNums (filB (L s)))) ∧ Below w.heap.size w w' := by
  have hm : s.size ≤ maxLen := by unfold maxLen; omega
  obtain ⟨i0, hi, hz0, hz1, hz2⟩ := info_parts infoU8
  obtain ⟨R, hR⟩ : ∃ R, strOfNums (filB (L s)) = R := ⟨_, rfl⟩
  rw [hR]
  have HR := hid hR
  clear hR
  go_enter Tryd.func45, Tryd.ntmps45
  go_wp2_with fail
  go_loopw [3, 7] (fun U I wx => ∃ (k : Nat) (ys : List Int), (k : Int) ≤ s.size ∧ I = .int .i64 k ∧ Hid (ys = filB ((L s).take k)) ∧ (ys.length : Int) ≤ k ∧ Own8 w.heap.size wx U ys ∧ Below w.heap.size w wx) (fun _ I _ => (s.size - intOf I).toNat)
  case atStart => exact ⟨0, [], by omega, rfl, hid rfl, by simp, World.ownsRow_nil _ _ _ _, Below.refl _ _⟩
  case round =>
    obtain ⟨k, ys, hk, rfl, hys, hyl, ho, hb⟩ := hrel
    by_cases hlt : (k : Int) < s.size
    · have hkk : k < s.size := by omega
      obtain ⟨c, hr, c0, c1, hc, _⟩ := str_byte s k hkk hm
      have cc := fun w => w_solid c w c0 c1
      have hT : filB ((L s).take (k + 1)) = filB ((L s).take k) ++ if soC c = true then [c] else [] := by
        rw [List.take_succ_eq_append_getElem (by rw [L_len]; exact hkk), hc, filB_snoc]
      cases hp : soC c
      · have hys2 : Hid (ys = filB ((L s).take (k + 1))) := by show _ = _; rw [hT, hp, hys.out]; simp
        rw [hp] at cc
        clear hc hT hp
        go_wp2_with (go_at_call 15; refine (cc _).mono ?_; rintro e w1 ⟨rfl, rfl⟩)
        go_roundw
        case rel => exact ⟨k + 1, ys, by omega, by go_num, hys2, by omega, ho, hb⟩
        case measure => simp [intOf]; omega
      · have hys2 : Hid (ys ++ [c] = filB ((L s).take (k + 1))) := by show _ = _; rw [hT, hp, hys.out]; simp
        rw [hp] at cc
        have ho3 := World.ownsRow.alloc ho (.cells #[.int .u8 c] 5)
        have hb3 := hb.alloc hb.size (.cells #[.int .u8 c] 5)
        clear hc hT hp
        go_wp2_with (first
          | (go_at_call 15; refine (cc _).mono ?_; rintro e w1 ⟨rfl, rfl⟩)
          | (at_builtin; refine wpList_append_rd (k := .u8) rfl _ _ 44 rfl w.heap.size 5 i0 1 Tryd.underlying44 hi hz0 hz1 hz2 _ ys rfl ho3 _ [c] rfl (rd_one _ c 5) (by unfold maxLen; simp only [List.length_cons, List.length_nil]; omega) (by simp only [List.length_cons, List.length_nil]; omega) hb3.size ?_; intro v4 w4 ho4 hg4))
        go_roundw
        case rel => exact ⟨k + 1, ys ++ [c], by omega, by go_num, hys2, by simp; omega, ho4, below_grown hb3 hg4 (fun k hk => (World.ownsRow.lt ho k hk).1)⟩
        case measure => simp [intOf]; omega
    · have e : Hid (R = strOfNums ys) := by
        show _ = _
        rw [← HR.out, hys.out, List.take_of_length_le (by rw [L_len]; omega)]
      have cs := rd_strT (Rd_own ho).1
      obtain ⟨Y, hY⟩ : ∃ Y, strOfNums ys = Y := ⟨_, rfl⟩
      rw [hY] at cs e
      clear hY
      go_wp2_with fail
      go_ret
      rw [e.out]
      exact ⟨rfl, hb⟩

/-- the rest of a text, as a letter -/
theorem str_tail (s : ByteArray) (f : Nat) (h1 : f ≤ s.size) : ∃ T : ByteArray, (∀ w, (Instr.slice 9 (.string s) (some (.int .i64 (f : Int))) none none).run Tryd.prog w = .ok (.string T) w) ∧ L T = (L s).drop f ∧ T.size = s.size - f := by
  refine ⟨s.extract f s.size, fun w => ?_, L_from s f, ?_⟩
  · simp [Instr.slice, Instr.sliceBounds, run_underlying Tryd.underlying9, run_sliceBound, h1]
  · rw [← L_len, L_from, List.length_drop, L_len]

theorem w_lineEnd (s : ByteArray) (i : Nat) (w : World) (hs : s.size ≤ maxLen) (hi : i ≤ s.size) :
    Calls Tryd.prog 26 #[.string s, .int .i64 i] w fun e w' => ∃ b : Nat, e = .returned (.int .i64 b) ∧ (b = nxF (L s) i 10 + 1 ∧ b ≤ s.size ∨ nxF (L s) i 10 = s.size ∧ b = s.size) ∧ w' = w := by
  have hs2 := hs
  unfold maxLen at hs2
  obtain ⟨T, hT, hTL, hTs⟩ := str_tail s i hi
  have ci := fun w => w_sib T 10 w (by decide) (by decide)
  rw [hTL] at ci
  go_enter Tryd.func26, Tryd.ntmps26
  go_wp2_with (go_at_call 35; refine (ci _).mono ?_; rintro e w1 ⟨n, rfl, hn, rfl⟩; refine Hid.out ?_)
  have h := at_nx hn (by rw [L_len]; exact hi)
  rw [L_len] at h
  rcases h with ⟨rfl, h2⟩ | ⟨k, rfl, h2, h3⟩
  · refine hid ?_
    go_wp2_with fail
    go_ret
    exact ⟨s.size, rfl, Or.inr ⟨h2, rfl⟩, rfl⟩
  · refine hid ?_
    go_wp2_with fail
    go_ret
    exact ⟨i + k + 1, by go_num, Or.inl ⟨by rw [h2], by omega⟩, rfl⟩

theorem w_closed (s : ByteArray) (i : Nat) (w : World) (hs : s.size ≤ maxLen) (hi : i ≤ s.size) :
    Calls Tryd.prog 27 #[.string s, .int .i64 i] w fun e w' => ∃ (T : ByteArray) (b : Nat) (E : Int), e = .returned (.tuple #[.string T, .int .i64 b, .int .i64 E]) ∧ (E = 15 ∧ nxF (L s) i 41 = s.size ∨ E = 0 ∧ ∃ m : Nat, b = m + 1 ∧ nxF (L s) i 41 = m ∧ i ≤ m ∧ m < s.size ∧ L T = cutL (L s) i m ∧ T.size = m - i) ∧ w' = w := by
  have hs2 := hs
  unfold maxLen at hs2
  obtain ⟨T, hT, hTL, hTs⟩ := str_tail s i hi
  have ci := fun w => w_sib T 41 w (by decide) (by decide)
  rw [hTL] at ci
  go_enter Tryd.func27, Tryd.ntmps27
  go_wp2_with (go_at_call 35; refine (ci _).mono ?_; rintro e w1 ⟨n, rfl, hn, rfl⟩; refine Hid.out ?_)
  have h := at_nx hn (by rw [L_len]; exact hi)
  rw [L_len] at h
  rcases h with ⟨rfl, h2⟩ | ⟨k, rfl, h2, h3⟩
  · refine hid ?_
    go_wp2_with fail
    go_ret3
    exact ⟨_, 0, _, rfl, Or.inl ⟨rfl, h2⟩, rfl⟩
  · refine hid ?_
    obtain ⟨C, hC0, hCL, hCs⟩ := str_part s i (i + k) (by omega) (by omega)
    have hC : ∀ w, (Instr.slice 9 (.string s) (some (.int .i64 (i : Int))) (some (.int .i64 ((i : Int) + k))) none).run Tryd.prog w = .ok (.string C) w := hC0
    clear hC0
    go_wp2_with fail
    go_ret3
    exact ⟨C, i + k + 1, _, rfl, Or.inr ⟨rfl, i + k, rfl, h2, by omega, h3, hCL, hCs⟩, rfl⟩

set_option maxHeartbeats 1000000 in
theorem w_printed (s : ByteArray) (i : Nat) (w : World) (hs : s.size ≤ 140737488355328) (hi : i ≤ s.size) :
    Calls Tryd.prog 28 #[.string s, .int .i64 i] w fun e w' => ∃ (T : ByteArray) (b : Nat) (E : Int), e = .returned (.tuple #[.string T, .int .i64 b, .int .i64 E]) ∧ (E = 15 ∧ (i = s.size ∨ nxF (L s) (i + 1) 41 = s.size) ∨ i < s.size ∧ ∃ m : Nat, nxF (L s) (i + 1) 41 = m ∧ i + 1 ≤ m ∧ m < s.size ∧ (E = 3 ∧ 255 < m - i - 1 ∨ E = 0 ∧ m - i - 1 ≤ 255 ∧ b = m + 1 ∧ L T = cutL (L s) (i + 1) m)) ∧ Below w.heap.size w w' := by
  have hm : s.size ≤ maxLen := by unfold maxLen; omega
  by_cases he : i = s.size
  · have heb : ((i : Int) == s.size) = true := by simp; omega
    have HE := hid he
    clear he
    go_enter Tryd.func28, Tryd.ntmps28
    go_wp2_with fail
    go_ret3
    exact ⟨_, 0, _, rfl, Or.inl ⟨rfl, Or.inl HE.out⟩, Below.refl _ _⟩
  · have heb : ((i : Int) == s.size) = false := by simp; omega
    have cc : ∀ w, Calls Tryd.prog 27 #[.string s, .int .i64 ((i : Int) + 1)] w _ := fun w => w_closed s (i + 1) w hm (by omega)
    go_enter Tryd.func28, Tryd.ntmps28
    go_wp2_with (go_at_call 27; refine (cc _).mono ?_; rintro e w1 ⟨T, b, E, rfl, hq, rfl⟩; refine Hid.out ?_)
    rcases hq with ⟨rfl, h1⟩ | ⟨rfl, m, rfl, h1, h2, h3, h4, h5⟩
    · refine hid ?_
      have H1 := hid h1
      clear h1
      go_wp2_with fail
      go_ret3
      exact ⟨_, 0, _, rfl, Or.inl ⟨rfl, Or.inr H1.out⟩, Below.refl _ _⟩
    · refine hid ?_
      have H1 := hid h1
      have H4 := hid h4
      clear h1 h4
      by_cases h255 : (255 : Int) < T.size
      · go_wp2_with fail
        go_ret3
        exact ⟨_, 0, _, rfl, Or.inr ⟨by omega, m, H1.out, h2, h3, Or.inl ⟨rfl, by omega⟩⟩, Below.refl _ _⟩
      · have cl := fun w => w_clone T w (by omega)
        go_wp2_with (go_at_call 36; refine (cl _).mono ?_; rintro e w2 ⟨rfl, b2⟩)
        go_ret3
        exact ⟨T, m + 1, _, rfl, Or.inr ⟨by omega, m, H1.out, h2, h3, Or.inr ⟨rfl, by omega, rfl, H4.out⟩⟩, b2⟩
end Go.Proofs.YtpjkjkjoaapdiaaDoor
