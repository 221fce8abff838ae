/-
  Lists of texts compared; Join, Ints, Texts of the document's answer for properties.
-/
import Derived.Test.YtamhcpejebonmabDoorRp2
import Derived.Test.YtamhcpejebonmabDoorR3s
namespace Go.Proofs.YtamhcpejebonmabDoor
open Go.ChangeShapes Go.WideShapes Go.ChangeAt Go.RowKit
set_option linter.unusedVariables false
set_option linter.unusedSimpArgs false

theorem uS : Tryd.prog.underlying 23 = some (.slice (Tryd.prog.elem 23)) := by kernel_rfl
theorem eS : Tryd.prog.elem 23 = 9 := by kernel_rfl
theorem zS (w : World) : (sizeOf (Tryd.prog.elem 23)).run Tryd.prog w = .ok 1 w := by rw [eS]; exact Tryd.sizeOf9 w
theorem infoStr : (Tryd.prog.info? 9).map (fun i => (i.zero, i.size, i.bytes)) = some (some (.string ⟨#[]⟩), 1, 16) := by kernel_rfl
theorem str_at {w : World} {v : Value} {xs : List ByteArray} (h : SlR 1 strR w v xs) (i : Nat) (h1 : i < xs.length) :
    ∃ (ad : Addr) (s : ByteArray), (∀ w', (Instr.indexAt 23 v (.int .i64 (i : Int))).run Tryd.prog w' = .ok (.pointer (some ad)) w') ∧ w.cell? ad = some (.string s) ∧ s.size ≤ maxLen ∧ xs[i] = s := by
  obtain ⟨ad, c, h2, h3, h4, h5⟩ := slr_idx h uS zS i (by omega) (by omega)
  simp at h4
  exact ⟨ad, _, h2, by rw [h3, h4]; rfl, h5, rfl⟩
theorem strR_below {w w' : World} (cs : List Value) (s : ByteArray) (h : strR w cs s) : strR w' cs s := h

theorem sameS_take (xs ys : List ByteArray) (k : Nat) (h1 : k < xs.length) (h2 : k < ys.length) (h : xs.take k = ys.take k) (e : xs[k] = ys[k]) : xs.take (k + 1) = ys.take (k + 1) := by
  rw [List.take_succ_eq_append_getElem h1, List.take_succ_eq_append_getElem h2, h, e]

set_option maxHeartbeats 1000000 in
set_option maxRecDepth 100000 in
theorem w_lsame (va vb : Value) (xs ys : List ByteArray) (w : World) (ha : SlR 1 strR w va xs) (hb : SlR 1 strR w vb ys) :
    Calls Tryd.prog 10 #[va, vb] w fun e w' => e = .returned (.bool (decide (xs = ys))) ∧ Below w.heap.size w w' := by
  have hla := slr_len ha uS (P := Tryd.prog)
  have hlb := slr_len hb uS (P := Tryd.prog)
  have hma := slr_max ha
  have hmb := slr_max hb
  unfold maxLen at hma hmb
  by_cases hl : xs.length = ys.length
  · have hn : ((xs.length : Int) != (ys.length : Int)) = false := by simp [hl]
    have Hl := hid hl
    clear hl
    go_enter Tryd.func10, Tryd.ntmps10
    go_wp2_with fail
    go_loopw [5] (fun i wx => ∃ k : Nat, (k : Int) ≤ xs.length ∧ i = .int .i64 k ∧ Hid (xs.take k = ys.take k) ∧ Below w.heap.size w wx) (fun i _ => (xs.length - intOf i).toNat)
    case atStart => exact ⟨0, by omega, rfl, hid (by simp), Below.refl _ _⟩
    case round =>
      obtain ⟨k, hk, rfl, ht, hg⟩ := hrel
      by_cases hlt : (k : Int) < xs.length
      · have hka : k < xs.length := by omega
        have hkb : k < ys.length := by have := Hl.out; omega
        obtain ⟨ad1, s1, r1, c1, m1, e1⟩ := str_at (ha.below hg strR_below) k hka
        obtain ⟨ad2, s2, r2, c2, m2, e2⟩ := str_at (hb.below hg strR_below) k hkb
        have he := str_beq s1 s2
        by_cases hxy : s1 = s2
        · have ht2 : Hid (xs.take (k + 1) = ys.take (k + 1)) := sameS_take xs ys k hka hkb ht.out (by rw [e1, e2, hxy])
          have hq : (s1.toList == s2.toList) = true := by simp [he, hxy]
          clear e1 e2 hxy he
          go_wp2_with fail
          go_quiet (fail)
          go_wp2_with fail
          go_roundw
          case rel => exact ⟨k + 1, by omega, by go_num, ht2, below_drewN hg _⟩
          case measure => simp [intOf]; omega
        · have hf : Hid (decide (xs = ys) = false) := by
            show _ = _
            simp
            intro h
            subst h
            exact hxy (e1.symm.trans e2)
          have hq : (s1.toList == s2.toList) = false := by simp [he, hxy]
          clear e1 e2 hxy he
          go_wp2_with fail
          go_quiet (fail)
          go_wp2_with fail
          go_ret
          exact ⟨ret_b hf.out.symm, below_drewN hg _⟩
      · have hf : Hid (decide (xs = ys) = true) := by
          show _ = _
          have h1 : xs.take k = xs := List.take_of_length_le (by omega)
          have h2 : ys.take k = ys := List.take_of_length_le (by have := Hl.out; omega)
          have := ht.out
          rw [h1, h2] at this
          simp [this]
        go_wp2_with fail
        go_ret
        exact ⟨ret_b hf.out.symm, hg⟩
  · have hf : Hid (decide (xs = ys) = false) := by show _ = _; simp; intro h; exact hl (by rw [h])
    have hn : ((xs.length : Int) != (ys.length : Int)) = true := by simp; omega
    clear hl
    go_enter Tryd.func10, Tryd.ntmps10
    go_wp2_with fail
    go_ret
    exact ⟨ret_b hf.out.symm, Below.refl _ _⟩

theorem uBB : Tryd.prog.underlying 53 = some (.slice (Tryd.prog.elem 53)) := by kernel_rfl
theorem eBB : Tryd.prog.elem 53 = 25 := by kernel_rfl
theorem zBB (w : World) : (sizeOf (Tryd.prog.elem 53)).run Tryd.prog w = .ok 1 w := by rw [eBB]; exact Tryd.sizeOf25 w
theorem byt_at {w : World} {v : Value} {xs : List (List Int)} (h : SlR 1 bytR w v xs) (i : Nat) (h1 : i < xs.length) :
    ∃ (ad : Addr) (c : Value), (∀ w', (Instr.indexAt 53 v (.int .i64 (i : Int))).run Tryd.prog w' = .ok (.pointer (some ad)) w') ∧ w.cell? ad = some c ∧ Rd .u8 w c xs[i] ∧ bytesL xs[i] := by
  obtain ⟨ad, c, h2, h3, v', h4, h5, h6⟩ := slr_idx h uBB zBB i (by omega) (by omega)
  simp at h4
  subst h4
  exact ⟨ad, _, h2, h3, h5, h6⟩

theorem joi_step (ps : List (List Int)) (k : Nat) (h : k < ps.length) : (ps.take (k + 1)).flatten = (ps.take k).flatten ++ ps[k] := by
  rw [List.take_succ_eq_append_getElem h, List.flatten_append, List.flatten_cons, List.flatten_nil, List.append_nil]
theorem joi_over (ps : List (List Int)) (k : Nat) (h : k < ps.length) (hl : 256 < (ps.take k).flatten.length + ps[k].length) : joiF ps = ([], 3) := by
  unfold joiF
  rw [if_pos]
  have : ps.flatten = (ps.take (k + 1)).flatten ++ (ps.drop (k + 1)).flatten := by rw [← List.flatten_append, List.take_append_drop]
  rw [this, joi_step ps k h]
  simp only [List.length_append]
  omega
theorem joi_all (ps : List (List Int)) (hl : ps.flatten.length ≤ 256) : joiF ps = (ps.flatten, 0) := by
  unfold joiF
  rw [if_neg (by omega)]
end Go.Proofs.YtamhcpejebonmabDoor
