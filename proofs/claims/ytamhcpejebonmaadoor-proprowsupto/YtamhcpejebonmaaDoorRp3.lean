/-
  Lists of texts compared; Join, Ints, Texts of the document's answer for properties.
-/
import Derived.Test.YtamhcpejebonmaaDoorRp2
import Derived.Test.YtamhcpejebonmaaDoorR3s
namespace Go.Proofs.YtamhcpejebonmaaDoor
open Go.ChangeShapes Go.WideShapes Go.ChangeAt Go.RowKit
set_option linter.unusedVariables false
set_option linter.unusedSimpArgs false

theorem uS : Tryd.prog.underlying 49 = some (.slice (Tryd.prog.elem 49)) := by kernel_rfl
theorem eS : Tryd.prog.elem 49 = 9 := by kernel_rfl
theorem zS (w : World) : (sizeOf (Tryd.prog.elem 49)).run Tryd.prog w = .ok 1 w := by rw [eS]; exact Tryd.sizeOf9 w
theorem infoStr : (Tryd.prog.info? 9).map (fun i => (i.zero, i.size, i.bytes)) = some (some (.string ⟨#[]⟩), 1, 16) := by kernel_rfl
theorem str_at {w : World} {v : Value} {xs : List ByteArray} (h : SlR 1 strR w v xs) (i : Nat) (h1 : i < xs.length) :
    ∃ (ad : Addr) (s : ByteArray), (∀ w', (Instr.indexAt 49 v (.int .i64 (i : Int))).run Tryd.prog w' = .ok (.pointer (some ad)) w') ∧ w.cell? ad = some (.string s) ∧ s.size ≤ maxLen ∧ xs[i] = s := by
  obtain ⟨ad, c, h2, h3, h4, h5⟩ := slr_idx h uS zS i (by omega) (by omega)
  simp at h4
  exact ⟨ad, _, h2, by rw [h3, h4]; rfl, h5, rfl⟩
theorem strR_below {w w' : World} (cs : List Value) (s : ByteArray) (h : strR w cs s) : strR w' cs s := h

theorem sameS_take (xs ys : List ByteArray) (k : Nat) (h1 : k < xs.length) (h2 : k < ys.length) (h : xs.take k = ys.take k) (e : xs[k] = ys[k]) : xs.take (k + 1) = ys.take (k + 1) := by
  rw [List.take_succ_eq_append_getElem h1, List.take_succ_eq_append_getElem h2, h, e]

set_option maxHeartbeats 1000000 in
set_option maxRecDepth 100000 in
theorem w_lsame (va vb : Value) (xs ys : List ByteArray) (w : World) (ha : SlR 1 strR w va xs) (hb : SlR 1 strR w vb ys) :
    Calls Tryd.prog 33 #[va, vb] w fun e w' => e = .returned (.bool (decide (xs = ys))) ∧ Below w.heap.size w w' := by
  have hla := slr_len ha uS (P := Tryd.prog)
  have hlb := slr_len hb uS (P := Tryd.prog)
  have hma := slr_max ha
  have hmb := slr_max hb
  unfold maxLen at hma hmb
  by_cases hl : xs.length = ys.length
  · have hn : ((xs.length : Int) != (ys.length : Int)) = false := by simp [hl]
    have Hl := hid hl
    clear hl
    go_enter Tryd.func33, Tryd.ntmps33
    go_wp2_with fail
    go_loopw [5] (fun i wx => ∃ k : Nat, (k : Int) ≤ xs.length ∧ i = .int .i64 k ∧ Hid (xs.take k = ys.take k) ∧ Below w.heap.size w wx) (fun i _ => (xs.length - intOf i).toNat)
    case atStart => exact ⟨0, by omega, rfl, hid (by simp), Below.refl _ _⟩
    case round =>
      obtain ⟨k, hk, rfl, ht, hg⟩ := hrel
      by_cases hlt : (k : Int) < xs.length
      · have hka : k < xs.length := by omega
        have hkb : k < ys.length := by have := Hl.out; omega
        obtain ⟨ad1, s1, r1, c1, m1, e1⟩ := str_at (ha.below hg strR_below) k hka
        obtain ⟨ad2, s2, r2, c2, m2, e2⟩ := str_at (hb.below hg strR_below) k hkb
        have he := str_beq s1 s2
        by_cases hxy : s1 = s2
        · have ht2 : Hid (xs.take (k + 1) = ys.take (k + 1)) := sameS_take xs ys k hka hkb ht.out (by rw [e1, e2, hxy])
          have hq : (s1.toList == s2.toList) = true := by simp [he, hxy]
          clear e1 e2 hxy he
          go_wp2_with fail
          go_quiet (fail)
          go_wp2_with fail
          go_roundw
          case rel => exact ⟨k + 1, by omega, by go_num, ht2, below_drewN hg _⟩
          case measure => simp [intOf]; omega
        · have hf : Hid (decide (xs = ys) = false) := by
            show _ = _
            simp
            intro h
            subst h
            exact hxy (e1.symm.trans e2)
          have hq : (s1.toList == s2.toList) = false := by simp [he, hxy]
          clear e1 e2 hxy he
          go_wp2_with fail
          go_quiet (fail)
          go_wp2_with fail
          go_ret
          exact ⟨ret_b hf.out.symm, below_drewN hg _⟩
      · have hf : Hid (decide (xs = ys) = true) := by
          show _ = _
          have h1 : xs.take k = xs := List.take_of_length_le (by omega)
          have h2 : ys.take k = ys := List.take_of_length_le (by have := Hl.out; omega)
          have := ht.out
          rw [h1, h2] at this
          simp [this]
        go_wp2_with fail
        go_ret
        exact ⟨ret_b hf.out.symm, hg⟩
  · have hf : Hid (decide (xs = ys) = false) := by show _ = _; simp; intro h; exact hl (by rw [h])
    have hn : ((xs.length : Int) != (ys.length : Int)) = true := by simp; omega
    clear hl
    go_enter Tryd.func33, Tryd.ntmps33
    go_wp2_with fail
    go_ret
    exact ⟨ret_b hf.out.symm, Below.refl _ _⟩

theorem uBB : Tryd.prog.underlying 38 = some (.slice (Tryd.prog.elem 38)) := by kernel_rfl
theorem eBB : Tryd.prog.elem 38 = 32 := by kernel_rfl
theorem zBB (w : World) : (sizeOf (Tryd.prog.elem 38)).run Tryd.prog w = .ok 1 w := by rw [eBB]; exact Tryd.sizeOf32 w
theorem byt_at {w : World} {v : Value} {xs : List (List Int)} (h : SlR 1 bytR w v xs) (i : Nat) (h1 : i < xs.length) :
    ∃ (ad : Addr) (c : Value), (∀ w', (Instr.indexAt 38 v (.int .i64 (i : Int))).run Tryd.prog w' = .ok (.pointer (some ad)) w') ∧ w.cell? ad = some c ∧ Rd .u8 w c xs[i] ∧ bytesL xs[i] := by
  obtain ⟨ad, c, h2, h3, v', h4, h5, h6⟩ := slr_idx h uBB zBB i (by omega) (by omega)
  simp at h4
  subst h4
  exact ⟨ad, _, h2, h3, h5, h6⟩

theorem joi_step (ps : List (List Int)) (k : Nat) (h : k < ps.length) : (ps.take (k + 1)).flatten = (ps.take k).flatten ++ ps[k] := by
  rw [List.take_succ_eq_append_getElem h, List.flatten_append, List.flatten_cons, List.flatten_nil, List.append_nil]
theorem joi_over (ps : List (List Int)) (k : Nat) (h : k < ps.length) (hl : 256 < (ps.take k).flatten.length + ps[k].length) : joiF ps = ([], 3) := by
  unfold joiF
  rw [if_pos]
  have : ps.flatten = (ps.take (k + 1)).flatten ++ (ps.drop (k + 1)).flatten := by rw [← List.flatten_append, List.take_append_drop]
  rw [this, joi_step ps k h]
  simp only [List.length_append]
  omega
theorem joi_all (ps : List (List Int)) (hl : ps.flatten.length ≤ 256) : joiF ps = (ps.flatten, 0) := by
  unfold joiF
  rw [if_neg (by omega)]

set_option maxHeartbeats 1000000 in
set_option maxRecDepth 100000 in
theorem w_rjoin (v : Value) (ps : List (List Int)) (w : World) (h : SlR 1 bytR w v ps) :
    Calls Tryd.prog 23 #[v] w fun e w' => ∃ v1, e = .returned (.tuple #[v1, .int .i64 (joiF ps).2]) ∧ Rd .u8 w' v1 (joiF ps).1 ∧ Below w.heap.size w w' := by
  have hla := slr_len h uBB (P := Tryd.prog)
  have hma := slr_max h
  unfold maxLen at hma
  obtain ⟨i0, hi, hz0, hz1, hz2⟩ := info_parts infoU8
  obtain ⟨A, E, hAE⟩ : ∃ A E, joiF ps = (A, E) := ⟨_, _, rfl⟩
  have HAE := hid hAE
  rw [hAE]
  show Calls _ _ _ _ fun e w' => ∃ v, e = .returned (.tuple #[v, .int .i64 E]) ∧ Rd .u8 w' v A ∧ _
  clear hAE
  go_enter Tryd.func23, Tryd.ntmps23
  go_wp2_with fail
  go_loopw [4, 5] (fun U I wx => ∃ (k : Nat) (ys : List Int), (k : Int) ≤ ps.length ∧ I = .int .i64 k ∧ Hid (ys = (ps.take k).flatten) ∧ (ys.length : Int) ≤ 256 ∧ Own8 w.heap.size wx U ys ∧ Below w.heap.size w wx) (fun _ I _ => (ps.length - intOf I).toNat)
  case atStart => exact ⟨0, [], by omega, rfl, hid (by simp), by simp, World.ownsRow_nil _ _ _ _, Below.refl _ _⟩
  case round =>
    obtain ⟨k, ys, hk, rfl, hys, hyl, ho, hb⟩ := hrel
    have hlo := rd_len (Rd_own ho).1 uB (P := Tryd.prog)
    by_cases hlt : (k : Int) < ps.length
    · have hkk : k < ps.length := by omega
      obtain ⟨ad, c, r1, c1, rc, bc⟩ := byt_at (h.below hb (bytR_below hb)) k hkk
      have hlc := rd_len rc uB (P := Tryd.prog)
      obtain ⟨X, hX⟩ : ∃ X, ps[k] = X := ⟨_, rfl⟩
      have HX := hid hX
      rw [hX] at rc hlc
      have hXm : X.length ≤ 9223372036854775807 := by
        rcases rc with ⟨_, _, _, _, rfl⟩ | ⟨_, _, cap, _, _, h1, h2, _⟩
        · simp
        · unfold maxLen at h2; omega
      clear hX bc
      by_cases hov : (256 : Int) - ys.length < X.length
      · have e : Hid (joiF ps = ([], 3)) := joi_over ps k hkk (by rw [HX.out, ← hys.out]; omega)
        go_wp2_with fail
        go_ret2
        obtain ⟨rfl, rfl⟩ := Prod.mk.inj (HAE.out.symm.trans e.out)
        exact ⟨_, rfl, Rd_nil, hb⟩
      · have hys2 : Hid (ys ++ X = (ps.take (k + 1)).flatten) := by show _ = _; rw [joi_step ps k hkk, HX.out, hys.out]
        go_wp2_with (at_builtin; refine wpList_append_rd (k := .u8) rfl _ _ 32 rfl w.heap.size 5 i0 1 Tryd.underlying32 hi hz0 hz1 hz2 _ ys rfl ho _ X rfl rc (by unfold maxLen; omega) (by omega) hb.size ?_; intro v4 w4 ho4 hg4)
        go_roundw
        case rel => exact ⟨k + 1, ys ++ X, by omega, by go_num, hys2, by rw [List.length_append]; omega, ho4, below_grown hb hg4 (fun k hk => (ho.lt k hk).1)⟩
        case measure => simp [intOf]; omega
    · have e : Hid (joiF ps = (ys, 0)) := by
        show _ = _
        have e1 : ys = ps.flatten := by rw [hys.out, List.take_of_length_le (by omega)]
        rw [e1]
        exact joi_all ps (by rw [← e1]; omega)
      go_wp2_with fail
      go_ret2
      obtain ⟨rfl, rfl⟩ := Prod.mk.inj (HAE.out.symm.trans e.out)
      exact ⟨_, rfl, (Rd_own ho).1, hb⟩
end Go.Proofs.YtamhcpejebonmaaDoor
