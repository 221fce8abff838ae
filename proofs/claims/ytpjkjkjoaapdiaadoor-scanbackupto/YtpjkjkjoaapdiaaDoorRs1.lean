/-
  blank, next, small, Special, digits of the document's answer for tokens.
-/
import Derived.Test.YtpjkjkjoaapdiaaDoorRmm
import Derived.Test.YtpjkjkjoaapdiaaDoorRdg
import Derived.Test.YtpjkjkjoaapdiaaDoorPsq
namespace Go.Proofs.YtpjkjkjoaapdiaaDoor
open Go.ChangeShapes Go.WideShapes Go.ChangeAt Go.RowKit
set_option linter.unusedVariables false
set_option linter.unusedSimpArgs false

theorem L_LB (s : ByteArray) : L s = LB s := rfl
theorem toB_nums (l : List Int) : toB l = strOfNums l := rfl
theorem run_at {w : World} (s : ByteArray) (k : Nat) (h : k < s.size) (hm : s.size ≤ maxLen) : (Instr.index 9 (.string s) (.int .i64 (k : Int))).run Tryd.prog w = .ok (.int .u8 (s[k].toNat : Int)) w := by
  unfold maxLen at hm
  rw [run_index_string (h := Tryd.underlying9)]
  simp [h]
/-- the byte at a place of a text, as a letter -/
theorem str_byte (s : ByteArray) (k : Nat) (h : k < s.size) (hm : s.size ≤ maxLen) : ∃ c : Int, (∀ w, (Instr.index 9 (.string s) (.int .i64 (k : Int))).run Tryd.prog w = .ok (.int .u8 c) w) ∧ 0 ≤ c ∧ c < 256 ∧ (L s)[k]'(by rw [L_len]; exact h) = c ∧ (L s).drop k = c :: (L s).drop (k + 1) :=
  ⟨_, fun w => run_at s k h hm, (L_bd s k h).1, (L_bd s k h).2, L_get s k h, L_drop s k h⟩

theorem w_rblank (s : ByteArray) (k : Nat) (w : World) (hs : s.size ≤ maxLen) :
    Calls Tryd.prog 17 #[.string s, .int .i64 k] w fun e w' => e = .returned (.bool (blkF (L s) k)) ∧ w' = w := by
  have hs2 := hs
  unfold maxLen at hs2
  by_cases h : k < s.size
  · obtain ⟨c, hr, c0, c1, hc, _⟩ := str_byte s k h hs
    rw [blk_in (L s) k c (by rw [L_len]; exact h) hc]
    have hI : (k : Int) < s.size := by omega
    clear hc h
    go_enter Tryd.func17, Tryd.ntmps17
    go_wp2_with fail
    go_ret
    exact ⟨rfl, rfl⟩
  · rw [blk_out (L s) k (by rw [L_len]; exact h)]
    have hI : ¬ (k : Int) < s.size := by omega
    clear h
    go_enter Tryd.func17, Tryd.ntmps17
    go_wp2_with fail
    go_ret
    exact ⟨rfl, rfl⟩

set_option maxHeartbeats 1000000 in
theorem w_rnext (s : ByteArray) (i : Nat) (c : Int) (w : World) (hs : s.size ≤ maxLen) (hi : i ≤ s.size) (c0 : 0 ≤ c) (c1 : c < 256) :
    Calls Tryd.prog 20 #[.string s, .int .i64 i, .int .u8 c] w fun e w' => e = .returned (.int .i64 (nxF (L s) i c)) ∧ Below w.heap.size w w' := by
  have hs2 := hs
  unfold maxLen at hs2
  obtain ⟨R, hR⟩ : ∃ R, nxF (L s) i c = R := ⟨_, rfl⟩
  rw [hR]
  have HR := hid hR
  have hRl : (R : Int) ≤ s.size := by have := nx_le (L s) i c (by rw [L_len]; exact hi); rw [hR, L_len] at this; omega
  clear hR
  go_enter Tryd.func20, Tryd.ntmps20
  go_wp2_with fail
  go_loopw [1] (fun I wx => ∃ (k : Nat), (k : Int) ≤ s.size ∧ I = .int .i64 k ∧ Hid (nxF (L s) k c = R) ∧ Below w.heap.size w wx) (fun I _ => (s.size - intOf I).toNat)
  case atStart => exact ⟨i, by omega, rfl, HR, Below.refl _ _⟩
  case round =>
    obtain ⟨k, hk, rfl, hn, hb⟩ := hrel
    by_cases hlt : (k : Int) < s.size
    · obtain ⟨d, hr, d0, d1, hd, _⟩ := str_byte s k (by omega) hs
      by_cases hdc : d = c
      · have e : Hid (R = k) := by show _ = _; rw [← hn.out, nx_hit (L s) k c (by rw [L_len]; omega) (by rw [hd, hdc])]
        have hq : (d != c) = false := by simp [hdc]
        clear hd hdc
        go_wp2_with fail
        go_ret
        rw [e.out]
        exact ⟨rfl, hb⟩
      · have hn2 : Hid (nxF (L s) (k + 1) c = R) := by show _ = _; rw [← hn.out, nx_on (L s) k c (by rw [L_len]; omega) (by rw [hd]; exact hdc)]
        have hq : (d != c) = true := by simp [hdc]
        clear hd hdc
        go_wp2_with fail
        go_roundw
        case rel => exact ⟨k + 1, by omega, by go_num, hn2, hb⟩
        case measure => simp [intOf]; omega
    · have e : Hid (R = k) := by show _ = _; rw [← hn.out, nx_end (L s) k c (by rw [L_len]; omega)]
      go_wp2_with fail
      go_ret
      rw [e.out]
      exact ⟨rfl, hb⟩

/-- a row of bytes of the call's own -/
def Own8 (base : Nat) (w : World) (v : Value) (xs : List Int) : Prop := w.ownsRow base 5 1 v xs.length (xs.map (Value.int .u8))

set_option maxHeartbeats 1000000 in
theorem w_rsmallT (s : ByteArray) (w : World) (hs : s.size ≤ 140737488355328) :
    Calls Tryd.prog 19 #[.string s] w fun e w' => e = .returned (.string (strOfNums ((L s).map sm))) ∧ Below w.heap.size w w' := by
  have hm : s.size ≤ maxLen := by unfold maxLen; omega
  obtain ⟨i0, hi, hz0, hz1, hz2⟩ := info_parts infoU8
  obtain ⟨R, hR⟩ : ∃ R, strOfNums ((L s).map sm) = R := ⟨_, rfl⟩
  rw [hR]
  have HR := hid hR
  clear hR
  go_enter Tryd.func19, Tryd.ntmps19
  go_wp2_with fail
  go_loopw [3, 4] (fun U I wx => ∃ (k : Nat) (ys : List Int), (k : Int) ≤ s.size ∧ I = .int .i64 k ∧ Hid (ys = ((L s).take k).map sm) ∧ (ys.length : Int) = k ∧ Own8 w.heap.size wx U ys ∧ Below w.heap.size w wx) (fun _ I _ => (s.size - intOf I).toNat)
  case atStart => exact ⟨0, [], by omega, rfl, hid rfl, rfl, World.ownsRow_nil _ _ _ _, Below.refl _ _⟩
  case round =>
    obtain ⟨k, ys, hk, rfl, hys, hyl, ho, hb⟩ := hrel
    by_cases hlt : (k : Int) < s.size
    · have hkk : k < s.size := by omega
      obtain ⟨c, hr, c0, c1, hc, _⟩ := str_byte s k hkk hm
      have hys2 : Hid (ys ++ [sm c] = ((L s).take (k + 1)).map sm) := by
        show _ = _
        rw [List.take_succ_eq_append_getElem (by rw [L_len]; exact hkk), hc, List.map_append, hys.out]
        rfl
      have cs := fun w => w_rsmall c w c0 c1
      have hsb := sm_bd c c0 c1
      obtain ⟨x, hx⟩ : ∃ x, sm c = x := ⟨_, rfl⟩
      rw [hx] at hsb hys2
      simp only [hx] at cs
      obtain ⟨x0, x1⟩ := hsb
      have ho3 := World.ownsRow.alloc ho (.cells #[.int .u8 x] 5)
      have hb3 := hb.alloc hb.size (.cells #[.int .u8 x] 5)
      clear hc hx
      go_wp2_with (first
        | (go_at_call 31; refine (cs _).mono ?_; rintro e w1 ⟨rfl, rfl⟩)
        | (at_builtin; refine wpList_append_rd (k := .u8) rfl _ _ 44 rfl w.heap.size 5 i0 1 Tryd.underlying44 hi hz0 hz1 hz2 _ ys rfl ho3 _ [x] rfl (rd_one _ x 5) (by unfold maxLen; simp only [List.length_cons, List.length_nil]; omega) (by simp only [List.length_cons, List.length_nil]; omega) hb3.size ?_; intro v4 w4 ho4 hg4))
      go_roundw
      case rel => exact ⟨k + 1, ys ++ [x], by omega, by go_num, hys2, by simp; omega, ho4, below_grown hb3 hg4 (fun k hk => (ho3.lt k hk).1)⟩
      case measure => simp [intOf]; omega
    · have e : Hid (R = strOfNums ys) := by
        show _ = _
        rw [← HR.out, hys.out, List.take_of_length_le (by rw [L_len]; omega)]
      have cs := rd_strT (Rd_own ho).1
      obtain ⟨Y, hY⟩ : ∃ Y, strOfNums ys = Y := ⟨_, rfl⟩
      rw [hY] at cs e
      clear hY
      go_wp2_with fail
      go_ret
      rw [e.out]
      exact ⟨rfl, hb⟩

theorem L_toList (s : ByteArray) (l : List UInt8) : (s.toList = l) ↔ (L s = l.map fun c => (c.toNat : Int)) := by
  unfold L
  rw [ByteArray.toList_eq]
  constructor
  · intro h; rw [h]
  · intro h
    exact (List.map_inj_right (fun a b hab => UInt8.toNat_inj.1 (Int.ofNat.inj hab))).1 h
theorem spec_toList (s : ByteArray) : spec (L s) = (s.toList == [92] || s.toList == [40] || s.toList == [46, 40] || s.toList == [34] || s.toList == [46, 34]) := by
  have q : ∀ l : List UInt8, (s.toList == l) = decide (L s = l.map fun c => (c.toNat : Int)) := by
    intro l
    rw [Bool.eq_iff_iff, beq_iff_eq, decide_eq_true_eq]
    exact L_toList s l
  rw [q, q, q, q, q]
  unfold spec
  simp [or_assoc, Bool.or_assoc]

theorem w_rspecial (s : ByteArray) (w : World) :
    Calls Tryd.prog 18 #[.string s] w fun e w' => e = .returned (.bool (spec (L s))) ∧ w' = w := by
  have hS := hid (spec_toList s)
  go_enter Tryd.func18, Tryd.ntmps18
  go_wp2_with fail
  all_goals go_ret
  all_goals refine ⟨ret_b ?_, rfl⟩
  all_goals rw [hS.out]
  all_goals simp_all

set_option maxHeartbeats 1000000 in
theorem w_rdigits (s : ByteArray) (w : World) (hs : s.size ≤ 140737488355328) :
    Calls Tryd.prog 32 #[.string s] w fun e w' => ∃ v, e = .returned (.tuple #[v, .bool (hexG none (L s)).isSome]) ∧ (∀ b, hexG none (L s) = some b → Rd .u8 w' v b ∧ b.length ≤ s.size) ∧ Below w.heap.size w w' := by
  have hm : s.size ≤ maxLen := by unfold maxLen; omega
  obtain ⟨i0, hi, hz0, hz1, hz2⟩ := info_parts infoU8
  obtain ⟨O, hO⟩ : ∃ O, hexG none (L s) = O := ⟨_, rfl⟩
  rw [hO]
  have HO := hid hO
  clear hO
  go_enter Tryd.func32, Tryd.ntmps32
  go_wp2_with fail
  go_loopw [4, 5, 6, 7] (fun U N D I wx => ∃ (k : Nat) (ys : List Int) (n : Int) (o : Bool), (k : Int) ≤ s.size ∧ I = .int .i64 k ∧ N = .int .u32 n ∧ D = .bool o ∧ 0 ≤ n ∧ n < 16 ∧ Hid (O = (hexG (if o = true then some n else none) ((L s).drop k)).map (ys ++ ·)) ∧ (ys.length : Int) ≤ k ∧ Own8 w.heap.size wx U ys ∧ Below w.heap.size w wx) (fun _ _ _ I _ => (s.size - intOf I).toNat)
  case atStart => exact ⟨0, [], 0, false, by omega, rfl, rfl, rfl, by omega, by omega, hid (by show O = _; rw [List.drop_zero, ← HO.out]; simp), by simp, World.ownsRow_nil _ _ _ _, Below.refl _ _⟩
  case round =>
    obtain ⟨k, ys, n, o, hk, rfl, rfl, rfl, n0, n1, hin, hyl, ho, hb⟩ := hrel
    by_cases hlt : (k : Int) < s.size
    · have hkk : k < s.size := by omega
      obtain ⟨c, hr, c0, c1, hc, hd⟩ := str_byte s k hkk hm
      by_cases hbl : c ≤ 32
      · have hin2 : Hid (O = (hexG (if o = true then some n else none) ((L s).drop (k + 1))).map (ys ++ ·)) := by
          show _ = _
          rw [hin.out, hd]
          cases o <;> simp [hexG, hbl]
        clear hc hd
        go_wp2_with fail
        go_roundw
        case rel => exact ⟨k + 1, ys, n, o, by omega, by go_num, rfl, rfl, n0, n1, hin2, by omega, ho, hb⟩
        case measure => simp [intOf]; omega
      · have cv := fun w => w_rvalue c 16 w c0 c1 (by omega) (by omega)
        cases hD : isD c 16
        · have e : Hid (O = none) := by
            show _ = _
            rw [hin.out, hd]
            cases o <;> simp [hexG, hbl, hD]
          simp only [hD] at cv
          clear hc hd hD
          go_wp2_with (go_at_call 39; refine (cv _).mono ?_; rintro e w1 ⟨rfl, b1⟩)
          go_ret2
          rw [e.out]
          exact ⟨_, rfl, (fun b h => by cases h), below_trans hb b1⟩
        · have hv : 0 ≤ vl c 16 ∧ vl c 16 < 16 := by
            rcases vl_16 c with h | h
            · exact h
            · exact absurd ⟨c0, c1⟩ h
          obtain ⟨x, hx⟩ : ∃ x, vl c 16 = x := ⟨_, rfl⟩
          simp only [hD, hx] at cv
          rw [hx] at hv
          obtain ⟨x0, x1⟩ := hv
          cases o
          · have hin2 : Hid (O = (hexG (if true = true then some x else none) ((L s).drop (k + 1))).map (ys ++ ·)) := by
              show _ = _
              rw [hin.out, hd]
              simp [hexG, hbl, hD, hx]
            clear hc hd hD hx
            go_wp2_with (go_at_call 39; refine (cv _).mono ?_; rintro e w1 ⟨rfl, b1⟩)
            go_roundw
            case rel => exact ⟨k + 1, ys, x, true, by omega, by go_num, rfl, rfl, x0, x1, hin2, by omega, own_below ho b1, below_trans hb b1⟩
            case measure => simp [intOf]; omega
          · have hin2 : Hid (O = (hexG (if false = true then some x else none) ((L s).drop (k + 1))).map ((ys ++ [n * 16 + x]) ++ ·)) := by
              show _ = _
              rw [hin.out, hd]
              simp [hexG, hbl, hD, hx, Function.comp_def]
            obtain ⟨y, hy⟩ : ∃ y, n * 16 + x = y := ⟨_, rfl⟩
            rw [hy] at hin2
            have y0 : 0 ≤ y := by omega
            have y1 : y < 256 := by omega
            clear hc hd hD hx
            go_wp2_with (first
              | (go_at_call 39; refine (cv _).mono ?_; rintro e w1 ⟨rfl, b1⟩; have ho1 := own_below ho b1; have ho3 := World.ownsRow.alloc ho1 (.cells #[.int .u8 y] 5); have hb1 := below_trans hb b1; have hb3 := hb1.alloc hb1.size (.cells #[.int .u8 y] 5))
              | (at_builtin; refine wpList_append_rd (k := .u8) rfl _ _ 44 rfl w.heap.size 5 i0 1 Tryd.underlying44 hi hz0 hz1 hz2 _ ys rfl ho3 _ [y] rfl (rd_one _ y 5) (by unfold maxLen; simp only [List.length_cons, List.length_nil]; omega) (by simp only [List.length_cons, List.length_nil]; omega) hb3.size ?_; intro v4 w4 ho4 hg4))
            go_roundw
            case rel => exact ⟨k + 1, ys ++ [y], x, false, by omega, by go_num, rfl, rfl, x0, x1, hin2, by simp; omega, ho4, below_grown hb3 hg4 (fun k hk => (ho3.lt k hk).1)⟩
            case measure => simp [intOf]; omega
    · have e : Hid (O = if o = true then none else some ys) := by
        show _ = _
        rw [hin.out, List.drop_of_length_le (by rw [L_len]; omega)]
        cases o <;> simp [hexG]
      cases o
      · go_wp2_with fail
        go_ret2
        rw [e.out]
        exact ⟨_, rfl, (fun b h => by cases h; exact ⟨(Rd_own ho).1, by omega⟩), hb⟩
      · go_wp2_with fail
        go_ret2
        rw [e.out]
        exact ⟨_, rfl, (fun b h => by cases h), hb⟩
end Go.Proofs.YtpjkjkjoaapdiaaDoor
