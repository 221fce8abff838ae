/-
  Texts of one proof, laid one behind the other: Tf0 Dp0 Rd1.
-/
import Derived.Test.YtfljcfpcokimcaaB9
namespace Go.Proofs.Ytfljcfpcokimcaa
open Go.ChangeShapes Go.WideShapes Go.ChangeAt Go.RowKit
set_option linter.unusedVariables false
set_option linter.unusedSimpArgs false

/-
  The library's Clone and Equal that package tree calls: what they return, in new memory.
-/
set_option maxHeartbeats 1000000 in
theorem w_pclone32 (v : Value) (xs : List Int) (w : World) (h : Rd .u32 w v xs) (hb : xs.length * 4 ≤ 140737488355328) :
    Calls Try.prog 51 #[v] w fun e w' => ∃ v', e = .returned v' ∧ w'.ownsRow w.heap.size 28 1 v' xs.length (xs.map (Value.int .u32)) ∧ Below w.heap.size w w' := by
  obtain ⟨i0, hi, hz0, hz1, hz2⟩ := info_parts infoU32
  obtain ⟨ao, cap, rfl, hc, hn, hx⟩ := rd_form h
  cases ao with
  | none =>
    have hc0 := hn rfl
    have hl : xs = [] := List.eq_nil_of_length_eq_zero (by omega)
    subst hl
    subst hc0
    show Calls _ _ #[.slice none 0 0] _ _
    have q := Lib.run_eql_slice_nil (P := Try.prog) w 24 28 none 0 0 0 0 Try.underlying24
    go_enter Try.func51, Try.ntmps51
    go_wp2_with fail
    go_ret
    exact ⟨_, rfl, World.ownsRow_nil _ _ _ _, Below.refl _ _⟩
  | some a =>
    have q := Lib.run_eql_slice_nil (P := Try.prog) w 24 28 (some a) xs.length cap 0 0 Try.underlying24
    have ha := h.below (box_below w (.cells #[] 28))
    go_enter Try.func51, Try.ntmps51
    go_wp2_with (at_builtin; refine wpList_append_rd (k := .u32) rfl _ _ 24 rfl w.heap.size 28 i0 4 Try.underlying24 hi hz0 hz1 hz2 _ [] rfl (World.ownsRow_made w #[] 0 (Nat.le_refl _) (Nat.zero_le _) rfl) _ xs rfl ha (by unfold maxLen; simp; omega) (by simp; omega) (by simp) ?_; intro v5 w5 ho5 hg5)
    go_ret
    exact ⟨v5, rfl, by simpa using ho5, below_grown (box_below w _) hg5 (fun k hk => by simp [Value.ownBlock, Act.eval] at hk; omega)⟩

set_option maxHeartbeats 1000000 in
theorem w_pclone8 (v : Value) (xs : List Int) (w : World) (h : Rd .u8 w v xs) (hz : xs.length ≤ 140737488355328) :
    Calls Try.prog 52 #[v] w fun e w' => ∃ v', e = .returned v' ∧ w'.ownsRow w.heap.size 5 1 v' xs.length (xs.map (Value.int .u8)) ∧ Below w.heap.size w w' := by
  obtain ⟨i0, hi, hz0, hz1, hz2⟩ := info_parts infoU8
  obtain ⟨ao, cap, rfl, hc, hn, hx⟩ := rd_form h
  cases ao with
  | none =>
    have hc0 := hn rfl
    have hl : xs = [] := List.eq_nil_of_length_eq_zero (by omega)
    subst hl
    subst hc0
    show Calls _ _ #[.slice none 0 0] _ _
    have q := Lib.run_eql_slice_nil (P := Try.prog) w 25 5 none 0 0 0 0 Try.underlying25
    go_enter Try.func52, Try.ntmps52
    go_wp2_with fail
    go_ret
    exact ⟨_, rfl, World.ownsRow_nil _ _ _ _, Below.refl _ _⟩
  | some a =>
    have q := Lib.run_eql_slice_nil (P := Try.prog) w 25 5 (some a) xs.length cap 0 0 Try.underlying25
    have ha := h.below (box_below w (.cells #[] 5))
    go_enter Try.func52, Try.ntmps52
    go_wp2_with (at_builtin; refine wpList_append_rd (k := .u8) rfl _ _ 25 rfl w.heap.size 5 i0 1 Try.underlying25 hi hz0 hz1 hz2 _ [] rfl (World.ownsRow_made w #[] 0 (Nat.le_refl _) (Nat.zero_le _) rfl) _ xs rfl ha (by unfold maxLen; simp; omega) (by simp; omega) (by simp) ?_; intro v5 w5 ho5 hg5)
    go_ret
    exact ⟨v5, rfl, by simpa using ho5, below_grown (box_below w _) hg5 (fun k hk => by simp [Value.ownBlock, Act.eval] at hk; omega)⟩

theorem infoNod8 : (Try.prog.info? 91).map (fun i => (i.zero, i.size, i.bytes)) = some (some (.agg #[.string ⟨#[]⟩, .slice none 0 0, .int .i64 0, .slice none 0 0, .slice none 0 0]), 5, 96) := by kernel_rfl
theorem infoPrp8 : (Try.prog.info? 101).map (fun i => (i.zero, i.size, i.bytes)) = some (some (.agg #[.string ⟨#[]⟩, .slice none 0 0]), 2, 40) := by kernel_rfl

set_option maxHeartbeats 1000000 in
theorem w_pcloneN (v : Value) (rows : List (List Value)) (w : World) (h : SlC 5 w v rows) (h1 : ∀ r ∈ rows, ∀ u ∈ r, u.oneCell' = true) (hb : rows.length * 96 ≤ 140737488355328) :
    Calls Try.prog 82 #[v] w fun e w' => ∃ v', e = .returned v' ∧ w'.ownsRow w.heap.size 91 5 v' rows.length rows.flatten ∧ Below w.heap.size w w' := by
  obtain ⟨i0, hi, hz0, hz1, hz2⟩ := info_parts infoNod8
  obtain ⟨ao, cap, rfl, hc, hn, hx⟩ := h.form
  cases ao with
  | none =>
    have hc0 := hn rfl
    have hl : rows = [] := List.eq_nil_of_length_eq_zero (by omega)
    subst hl
    subst hc0
    show Calls _ _ #[.slice none 0 0] _ _
    have q := Lib.run_eql_slice_nil (P := Try.prog) w 29 91 none 0 0 0 0 Try.underlying29
    go_enter Try.func82, Try.ntmps82
    go_wp2_with fail
    go_ret
    exact ⟨_, rfl, World.ownsRow_nil _ _ _ _, Below.refl _ _⟩
  | some a =>
    have q := Lib.run_eql_slice_nil (P := Try.prog) w 29 91 (some a) rows.length cap 0 0 Try.underlying29
    have ha := h.below (box_below w (.cells #[] 91))
    go_enter Try.func82, Try.ntmps82
    go_wp2_with (at_builtin; refine wpList_append_rows rfl _ _ 29 rfl w.heap.size 91 i0 _ 5 96 Try.underlying29 hi hz0 hz1 hz2 rfl (by decide) _ 0 [] rfl (World.ownsRow_made w #[] 0 (Nat.le_refl _) (Nat.zero_le _) rfl) _ rows rfl ha h1 (by unfold maxLen; omega) (by omega) (by simp) ?_; intro v5 w5 ho5 hg5)
    go_ret
    exact ⟨v5, rfl, by simpa using ho5, below_grown (box_below w _) hg5 (fun k hk => by simp [Value.ownBlock, Act.eval] at hk; omega)⟩

set_option maxHeartbeats 1000000 in
theorem w_pcloneP (v : Value) (rows : List (List Value)) (w : World) (h : SlC 2 w v rows) (h1 : ∀ r ∈ rows, ∀ u ∈ r, u.oneCell' = true) (hb : rows.length * 40 ≤ 140737488355328) :
    Calls Try.prog 83 #[v] w fun e w' => ∃ v', e = .returned v' ∧ w'.ownsRow w.heap.size 101 2 v' rows.length rows.flatten ∧ Below w.heap.size w w' := by
  obtain ⟨i0, hi, hz0, hz1, hz2⟩ := info_parts infoPrp8
  obtain ⟨ao, cap, rfl, hc, hn, hx⟩ := h.form
  cases ao with
  | none =>
    have hc0 := hn rfl
    have hl : rows = [] := List.eq_nil_of_length_eq_zero (by omega)
    subst hl
    subst hc0
    show Calls _ _ #[.slice none 0 0] _ _
    have q := Lib.run_eql_slice_nil (P := Try.prog) w 89 101 none 0 0 0 0 Try.underlying89
    go_enter Try.func83, Try.ntmps83
    go_wp2_with fail
    go_ret
    exact ⟨_, rfl, World.ownsRow_nil _ _ _ _, Below.refl _ _⟩
  | some a =>
    have q := Lib.run_eql_slice_nil (P := Try.prog) w 89 101 (some a) rows.length cap 0 0 Try.underlying89
    have ha := h.below (box_below w (.cells #[] 101))
    go_enter Try.func83, Try.ntmps83
    go_wp2_with (at_builtin; refine wpList_append_rows rfl _ _ 89 rfl w.heap.size 101 i0 _ 2 40 Try.underlying89 hi hz0 hz1 hz2 rfl (by decide) _ 0 [] rfl (World.ownsRow_made w #[] 0 (Nat.le_refl _) (Nat.zero_le _) rfl) _ rows rfl ha h1 (by unfold maxLen; omega) (by omega) (by simp) ?_; intro v5 w5 ho5 hg5)
    go_ret
    exact ⟨v5, rfl, by simpa using ho5, below_grown (box_below w _) hg5 (fun k hk => by simp [Value.ownBlock, Act.eval] at hk; omega)⟩

set_option maxHeartbeats 1000000 in
theorem w_pequal (va vb : Value) (xs ys : List Int) (w : World) (ha : Rd .u32 w va xs) (hb : Rd .u32 w vb ys) :
    Calls Try.prog 96 #[va, vb] w fun e w' => e = .returned (.bool (decide (xs = ys))) ∧ Dr w w' := by
  have hla := rd_len ha uU (P := Try.prog)
  have hlb := rd_len hb uU (P := Try.prog)
  by_cases hl : xs.length = ys.length
  · have hn : ((xs.length : Int) != (ys.length : Int)) = false := by simp [hl]
    have hm : xs.length ≤ maxLen := by
      rcases ha with ⟨_, _, _, _, rfl⟩ | ⟨_, _, _, _, _, g1, g2, _⟩
      · simp
      · omega
    unfold maxLen at hm
    have Hl := hid hl
    have HA := hid ha
    have HB := hid hb
    clear hl ha hb
    go_enter Try.func96, Try.ntmps96
    go_wp2_with fail
    go_loopw [13] (fun i wx => ∃ k : Nat, (k : Int) ≤ xs.length ∧ i = .int .i64 k ∧ Hid (xs.take k = ys.take k) ∧ Dr w wx) (fun i _ => (xs.length - intOf i).toNat)
    case atStart => exact ⟨0, by omega, rfl, hid (by simp), dr_refl _⟩
    case round =>
      obtain ⟨k, hk, rfl, ht, hg⟩ := hrel
      by_cases hlt : (k : Int) < xs.length
      · have hlt2 : (k : Int) < (ys.length : Int) := by have := Hl.out; omega
        obtain ⟨a1, i1, c1⟩ := rd_idx (HA.out.below (dr_below hg)) uU zU k (by omega) hlt
        obtain ⟨a2, i2, c2⟩ := rd_idx (HB.out.below (dr_below hg)) uU zU k (by omega) hlt2
        simp only [Int.toNat_natCast] at c1 c2
        obtain ⟨x, hx⟩ : ∃ x, xs.getD k 0 = x := ⟨_, rfl⟩
        obtain ⟨y, hy⟩ : ∃ y, ys.getD k 0 = y := ⟨_, rfl⟩
        rw [hx] at c1
        rw [hy] at c2
        by_cases hxy : x = y
        · have ht2 : Hid (xs.take (k + 1) = ys.take (k + 1)) := same_take xs ys k (by omega) (by omega) ht.out (by rw [hx, hy, hxy])
          have hb : (x != y) = false := by simp [hxy]
          clear hx hy hxy
          go_wp2_with fail
          go_quiet (fail)
          go_wp2_with fail
          go_roundw
          case rel => exact ⟨k + 1, by omega, by go_num, ht2, dr_more hg _⟩
          case measure => simp [intOf]; omega
        · have hf : Hid (decide (xs = ys) = false) := by show _ = _; simp; exact ne_at xs ys k (by rw [hx, hy]; exact hxy)
          have hb : (x != y) = true := by simp [hxy]
          clear hx hy hxy
          go_wp2_with fail
          go_quiet (fail)
          go_wp2_with fail
          go_ret
          exact ⟨ret_b hf.out.symm, dr_more hg _⟩
      · have hf : Hid (decide (xs = ys) = true) := by
          show _ = _
          have h1 : xs.take k = xs := List.take_of_length_le (by omega)
          have h2 : ys.take k = ys := List.take_of_length_le (by have := Hl.out; omega)
          have := ht.out
          rw [h1, h2] at this
          simp [this]
        go_wp2_with fail
        go_ret
        exact ⟨ret_b hf.out.symm, hg⟩
  · have hf : Hid (decide (xs = ys) = false) := by show _ = _; simp; intro h; exact hl (by rw [h])
    have hn : ((xs.length : Int) != (ys.length : Int)) = true := by simp; omega
    clear hl
    go_enter Try.func96, Try.ntmps96
    go_wp2_with fail
    go_ret
    exact ⟨ret_b hf.out.symm, dr_refl _⟩

/-
  The library's Clone at words, instructions, instances and integers: what it returns, in new memory.
-/
theorem infoOp9 : (Try.prog.info? 78).map (fun i => (i.zero, i.size, i.bytes)) = some (some (.agg #[.int .i64 0, .int .u32 0]), 2, 16) := by kernel_rfl
theorem infoWd9 : (Try.prog.info? 51).map (fun i => (i.zero, i.size, i.bytes)) = some (some (.agg #[.string ⟨#[]⟩, .int .i64 0, .int .i64 0, .int .u32 0, .slice none 0 0]), 5, 64) := by kernel_rfl
theorem infoIz9 : (Try.prog.info? 83).map (fun i => (i.zero, i.size, i.bytes)) = some (some (.agg #[.int .i64 0, .int .i64 0, .string ⟨#[]⟩, .slice none 0 0]), 4, 56) := by kernel_rfl
theorem infoI64 : (Try.prog.info? 3).map (fun i => (i.zero, i.size, i.bytes)) = some (some (.int .i64 0), 1, 8) := by kernel_rfl

set_option maxHeartbeats 1000000 in
theorem w_pcloneW (v : Value) (rows : List (List Value)) (w : World) (h : SlC 5 w v rows) (h1 : ∀ r ∈ rows, ∀ u ∈ r, u.oneCell' = true) (hb : rows.length * 64 ≤ 140737488355328) :
    Calls Try.prog 53 #[v] w fun e w' => ∃ v', e = .returned v' ∧ w'.ownsRow w.heap.size 51 5 v' rows.length rows.flatten ∧ Below w.heap.size w w' := by
  obtain ⟨i0, hi, hz0, hz1, hz2⟩ := info_parts infoWd9
  obtain ⟨ao, cap, rfl, hc, hn, hx⟩ := h.form
  cases ao with
  | none =>
    have hc0 := hn rfl
    have hl : rows = [] := List.eq_nil_of_length_eq_zero (by omega)
    subst hl
    subst hc0
    show Calls _ _ #[.slice none 0 0] _ _
    have q := Lib.run_eql_slice_nil (P := Try.prog) w 26 51 none 0 0 0 0 Try.underlying26
    go_enter Try.func53, Try.ntmps53
    go_wp2_with fail
    go_ret
    exact ⟨_, rfl, World.ownsRow_nil _ _ _ _, Below.refl _ _⟩
  | some a =>
    have q := Lib.run_eql_slice_nil (P := Try.prog) w 26 51 (some a) rows.length cap 0 0 Try.underlying26
    have ha := h.below (box_below w (.cells #[] 51))
    go_enter Try.func53, Try.ntmps53
    go_wp2_with (at_builtin; refine wpList_append_rows rfl _ _ 26 rfl w.heap.size 51 i0 _ 5 64 Try.underlying26 hi hz0 hz1 hz2 rfl (by decide) _ 0 [] rfl (World.ownsRow_made w #[] 0 (Nat.le_refl _) (Nat.zero_le _) rfl) _ rows rfl ha h1 (by unfold maxLen; omega) (by omega) (by simp) ?_; intro v5 w5 ho5 hg5)
    go_ret
    exact ⟨v5, rfl, by simpa using ho5, below_grown (box_below w _) hg5 (fun k hk => by simp [Value.ownBlock, Act.eval] at hk; omega)⟩

set_option maxHeartbeats 1000000 in
theorem w_pcloneO (v : Value) (rows : List (List Value)) (w : World) (h : SlC 2 w v rows) (h1 : ∀ r ∈ rows, ∀ u ∈ r, u.oneCell' = true) (hb : rows.length * 16 ≤ 140737488355328) :
    Calls Try.prog 54 #[v] w fun e w' => ∃ v', e = .returned v' ∧ w'.ownsRow w.heap.size 78 2 v' rows.length rows.flatten ∧ Below w.heap.size w w' := by
  obtain ⟨i0, hi, hz0, hz1, hz2⟩ := info_parts infoOp9
  obtain ⟨ao, cap, rfl, hc, hn, hx⟩ := h.form
  cases ao with
  | none =>
    have hc0 := hn rfl
    have hl : rows = [] := List.eq_nil_of_length_eq_zero (by omega)
    subst hl
    subst hc0
    show Calls _ _ #[.slice none 0 0] _ _
    have q := Lib.run_eql_slice_nil (P := Try.prog) w 45 78 none 0 0 0 0 Try.underlying45
    go_enter Try.func54, Try.ntmps54
    go_wp2_with fail
    go_ret
    exact ⟨_, rfl, World.ownsRow_nil _ _ _ _, Below.refl _ _⟩
  | some a =>
    have q := Lib.run_eql_slice_nil (P := Try.prog) w 45 78 (some a) rows.length cap 0 0 Try.underlying45
    have ha := h.below (box_below w (.cells #[] 78))
    go_enter Try.func54, Try.ntmps54
    go_wp2_with (at_builtin; refine wpList_append_rows rfl _ _ 45 rfl w.heap.size 78 i0 _ 2 16 Try.underlying45 hi hz0 hz1 hz2 rfl (by decide) _ 0 [] rfl (World.ownsRow_made w #[] 0 (Nat.le_refl _) (Nat.zero_le _) rfl) _ rows rfl ha h1 (by unfold maxLen; omega) (by omega) (by simp) ?_; intro v5 w5 ho5 hg5)
    go_ret
    exact ⟨v5, rfl, by simpa using ho5, below_grown (box_below w _) hg5 (fun k hk => by simp [Value.ownBlock, Act.eval] at hk; omega)⟩

set_option maxHeartbeats 1000000 in
theorem w_pcloneI (v : Value) (rows : List (List Value)) (w : World) (h : SlC 4 w v rows) (h1 : ∀ r ∈ rows, ∀ u ∈ r, u.oneCell' = true) (hb : rows.length * 56 ≤ 140737488355328) :
    Calls Try.prog 57 #[v] w fun e w' => ∃ v', e = .returned v' ∧ w'.ownsRow w.heap.size 83 4 v' rows.length rows.flatten ∧ Below w.heap.size w w' := by
  obtain ⟨i0, hi, hz0, hz1, hz2⟩ := info_parts infoIz9
  obtain ⟨ao, cap, rfl, hc, hn, hx⟩ := h.form
  cases ao with
  | none =>
    have hc0 := hn rfl
    have hl : rows = [] := List.eq_nil_of_length_eq_zero (by omega)
    subst hl
    subst hc0
    show Calls _ _ #[.slice none 0 0] _ _
    have q := Lib.run_eql_slice_nil (P := Try.prog) w 30 83 none 0 0 0 0 Try.underlying30
    go_enter Try.func57, Try.ntmps57
    go_wp2_with fail
    go_ret
    exact ⟨_, rfl, World.ownsRow_nil _ _ _ _, Below.refl _ _⟩
  | some a =>
    have q := Lib.run_eql_slice_nil (P := Try.prog) w 30 83 (some a) rows.length cap 0 0 Try.underlying30
    have ha := h.below (box_below w (.cells #[] 83))
    go_enter Try.func57, Try.ntmps57
    go_wp2_with (at_builtin; refine wpList_append_rows rfl _ _ 30 rfl w.heap.size 83 i0 _ 4 56 Try.underlying30 hi hz0 hz1 hz2 rfl (by decide) _ 0 [] rfl (World.ownsRow_made w #[] 0 (Nat.le_refl _) (Nat.zero_le _) rfl) _ rows rfl ha h1 (by unfold maxLen; omega) (by omega) (by simp) ?_; intro v5 w5 ho5 hg5)
    go_ret
    exact ⟨v5, rfl, by simpa using ho5, below_grown (box_below w _) hg5 (fun k hk => by simp [Value.ownBlock, Act.eval] at hk; omega)⟩

set_option maxHeartbeats 1000000 in
theorem w_pcloneJ (v : Value) (xs : List Int) (w : World) (h : Rd .i64 w v xs) (hb : xs.length * 8 ≤ 140737488355328) :
    Calls Try.prog 55 #[v] w fun e w' => ∃ v', e = .returned v' ∧ w'.ownsRow w.heap.size 3 1 v' xs.length (xs.map (Value.int .i64)) ∧ Below w.heap.size w w' := by
  obtain ⟨i0, hi, hz0, hz1, hz2⟩ := info_parts infoI64
  obtain ⟨ao, cap, rfl, hc, hn, hx⟩ := rd_form h
  cases ao with
  | none =>
    have hc0 := hn rfl
    have hl : xs = [] := List.eq_nil_of_length_eq_zero (by omega)
    subst hl
    subst hc0
    show Calls _ _ #[.slice none 0 0] _ _
    have q := Lib.run_eql_slice_nil (P := Try.prog) w 27 3 none 0 0 0 0 Try.underlying27
    go_enter Try.func55, Try.ntmps55
    go_wp2_with fail
    go_ret
    exact ⟨_, rfl, World.ownsRow_nil _ _ _ _, Below.refl _ _⟩
  | some a =>
    have q := Lib.run_eql_slice_nil (P := Try.prog) w 27 3 (some a) xs.length cap 0 0 Try.underlying27
    have ha := h.below (box_below w (.cells #[] 3))
    go_enter Try.func55, Try.ntmps55
    go_wp2_with (at_builtin; refine wpList_append_rd (k := .i64) rfl _ _ 27 rfl w.heap.size 3 i0 8 Try.underlying27 hi hz0 hz1 hz2 _ [] rfl (World.ownsRow_made w #[] 0 (Nat.le_refl _) (Nat.zero_le _) rfl) _ xs rfl ha (by unfold maxLen; simp; omega) (by simp; omega) (by simp) ?_; intro v5 w5 ho5 hg5)
    go_ret
    exact ⟨v5, rfl, by simpa using ho5, below_grown (box_below w _) hg5 (fun k hk => by simp [Value.ownBlock, Act.eval] at hk; omega)⟩

/-
  Named and Sound of the document's answer for dictionaries.
-/
set_option maxHeartbeats 1000000 in
set_option maxRecDepth 100000 in
theorem w_r9named (s : ByteArray) (w : World) (hs : s.size ≤ maxLen) :
    Calls Try.prog 23 #[.string s] w fun e w' => e = .returned (.bool (namF (L s))) ∧ Below w.heap.size w w' := by
  have hs2 := hs
  unfold maxLen at hs2
  go_enter Try.func23, Try.ntmps23
  go_wp2_with fail
  go_loopw [3] (fun I wx => ∃ (k : Nat), (k : Int) ≤ s.size ∧ I = .int .i64 k ∧ Hid (((L s).take k).all okC = true) ∧ Below w.heap.size w wx) (fun I _ => (s.size - intOf I).toNat)
  case atStart => exact ⟨0, by omega, rfl, hid rfl, Below.refl _ _⟩
  case round =>
    obtain ⟨k, hk, rfl, ha, hb⟩ := hrel
    by_cases hlt : (k : Int) < s.size
    · have hkk : k < s.size := by omega
      obtain ⟨c, hc⟩ : ∃ c, (s[k].toNat : Int) = c := ⟨_, rfl⟩
      have hcb := L_bd s k hkk
      rw [hc] at hcb
      obtain ⟨c0, c1⟩ := hcb
      have hLt : Hid ((L s).take (k + 1) = (L s).take k ++ [c]) := by show _ = _; rw [← hc]; exact L_take s k hkk
      have hLd : Hid (L s = (L s).take k ++ c :: (L s).drop (k + 1)) := by
        show _ = _
        rw [← hc, ← L_drop s k hkk, List.take_append_drop]
      have hrun := run_at (w := wr) s k hkk hs
      rw [hc] at hrun
      cases hcc : okC c
      · have hf : Hid (namF (L s) = false) := by
          show _ = _
          unfold namF
          rw [hLd.out, List.all_append, List.all_cons, hcc]
          simp
        have hcs : c < 33 ∨ 126 < c ∨ (65 ≤ c ∧ c ≤ 90) := by simp [okC] at hcc; omega
        clear hcc hLd hLt hc
        rcases hcs with h | h | h
        · go_wp2_with fail
          go_ret
          exact ⟨ret_b hf.out.symm, hb⟩
        · go_wp2_with fail
          go_ret
          exact ⟨ret_b hf.out.symm, hb⟩
        · obtain ⟨h, h'⟩ := h
          go_wp2_with fail
          go_ret
          exact ⟨ret_b hf.out.symm, hb⟩
      · have ha2 : Hid (((L s).take (k + 1)).all okC = true) := by
          show _ = _
          rw [hLt.out, List.all_append, ha.out]
          simp [hcc]
        have hcs : 33 ≤ c ∧ c ≤ 126 ∧ (c < 65 ∨ 90 < c) := by simp [okC] at hcc; omega
        obtain ⟨q1, q2, q3⟩ := hcs
        clear hcc hLd hLt hc
        rcases q3 with hq | hq
        all_goals go_wp2_with fail
        all_goals go_roundw
        case rel => exact ⟨k + 1, by omega, by go_num, ha2, hb⟩
        case measure => simp [intOf]; omega
        case rel => exact ⟨k + 1, by omega, by go_num, ha2, hb⟩
        case measure => simp [intOf]; omega
    · have hf : Hid (namF (L s) = decide (1 ≤ s.size ∧ s.size ≤ 31)) := by
        show _ = _
        have := ha.out
        rw [List.take_of_length_le (by rw [L_len]; omega)] at this
        unfold namF
        rw [this, L_len]
        simp
      by_cases h1 : (1 : Int) ≤ s.size
      · by_cases h2 : (s.size : Int) ≤ 31
        · have hf2 : Hid (namF (L s) = true) := by show _ = _; rw [hf.out]; simp; omega
          clear hf
          go_wp2_with fail
          go_ret
          exact ⟨ret_b hf2.out.symm, hb⟩
        · have hf2 : Hid (namF (L s) = false) := by show _ = _; rw [hf.out]; simp; omega
          clear hf
          go_wp2_with fail
          go_ret
          exact ⟨ret_b hf2.out.symm, hb⟩
      · have hf2 : Hid (namF (L s) = false) := by show _ = _; rw [hf.out]; simp; omega
        clear hf
        go_wp2_with fail
        go_ret
        exact ⟨ret_b hf2.out.symm, hb⟩

theorem snd_step {l : List Opd} {words : Int} {k : Nat} (h : k < l.length) (ha : (l.take k).all (okO l.length words) = true) (hx : okO l.length words l[k] = true) : (l.take (k + 1)).all (okO l.length words) = true := by
  rw [List.take_succ_eq_append_getElem h, List.all_append, ha]
  simp [hx]
theorem snd_no {l : List Opd} {words : Int} {k : Nat} (h : k < l.length) (hx : okO l.length words l[k] = false) : sndF l words = false := by
  unfold sndF
  have : l.all (okO l.length words) = false := by
    rw [List.all_eq_false]
    exact ⟨_, List.getElem_mem h, by simp [hx]⟩
  rw [this]
  simp
theorem u32_i64 (n : Int) (h0 : 0 ≤ n) (h1 : n < 4294967296) : IntKind.i64.wrap n = n := by
  simp [IntKind.wrap, IntKind.bits, IntKind.signed]
  omega

set_option maxHeartbeats 2000000 in
set_option maxRecDepth 100000 in
theorem w_r9sound (v : Value) (l : List Opd) (words : Int) (w : World) (h : RdO w v l) (hu : ∀ x ∈ l, 0 ≤ x.2 ∧ x.2 < 4294967296) :
    Calls Try.prog 22 #[v, .int .i64 words] w fun e w' => e = .returned (.bool (sndF l words)) ∧ Below w.heap.size w w' := by
  have hla := slr_len h uO (P := Try.prog)
  have hm := slr_max h
  unfold maxLen at hm
  by_cases h256 : (256 : Int) < l.length
  · have hf : Hid (sndF l words = false) := by show _ = _; unfold sndF; rw [decide_eq_false (by omega)]; simp
    go_enter Try.func22, Try.ntmps22
    go_wp2_with fail
    go_ret
    exact ⟨ret_b hf.out.symm, Below.refl _ _⟩
  · go_enter Try.func22, Try.ntmps22
    go_wp2_with fail
    go_loopw [5] (fun I wx => ∃ (k : Nat), (k : Int) ≤ l.length ∧ I = .int .i64 k ∧ Hid ((l.take k).all (okO l.length words) = true) ∧ Below w.heap.size w wx) (fun I _ => (l.length - intOf I).toNat)
    case atStart => exact ⟨0, by omega, rfl, hid rfl, Below.refl _ _⟩
    case round =>
      obtain ⟨k, hk, rfl, ha, hb⟩ := hrel
      by_cases hlt : (k : Int) < l.length
      · have hkl : k < l.length := by omega
        obtain ⟨b1, o1, r1, f0, f1⟩ := op_at (RdO.below h hb) k hkl
        have hub := hu _ (List.getElem_mem hkl)
        have yes := fun hx => snd_step (words := words) hkl ha.out hx
        have no := fun hx => snd_no (l := l) (words := words) (k := k) hkl hx
        have hok : okO l.length words l[k] = decide (l[k].1 = 1 ∨ (l[k].1 = 2 ∨ l[k].1 = 13) ∧ l[k].2 < words ∨ (l[k].1 = 11 ∨ l[k].1 = 12) ∧ l[k].2 = 0 ∨ 3 ≤ l[k].1 ∧ l[k].1 ≤ 10 ∧ l[k].2 ≤ l.length) := rfl
        obtain ⟨K, hK⟩ : ∃ K, l[k].1 = K := ⟨_, rfl⟩
        obtain ⟨X, hX⟩ : ∃ X, l[k].2 = X := ⟨_, rfl⟩
        rw [hK, hX] at hok
        rw [hK] at f0
        rw [hX] at f1 hub
        obtain ⟨u0, u1⟩ := hub
        have hw := u32_i64 X u0 u1
        have hcs : K = 1 ∨ K = 2 ∨ K = 3 ∨ K = 4 ∨ K = 5 ∨ K = 6 ∨ K = 7 ∨ K = 8 ∨ K = 9 ∨ K = 10 ∨ K = 11 ∨ K = 12 ∨ K = 13 ∨ K < 1 ∨ 13 < K := by omega
        rcases hcs with rfl | rfl | rfl | rfl | rfl | rfl | rfl | rfl | rfl | rfl | rfl | rfl | rfl | hcs
        · skip
          have hx := hid (yes (by rw [hok]; simp; try omega))
          clear yes no hok hK hX ha
          go_wp2_with fail
          go_roundw
          case rel => exact ⟨k + 1, by omega, by go_num, hx, hb⟩
          case measure => simp [intOf]; omega
        · by_cases hc : X < words
          · have q1 : decide (X < words) = true := by simp [hc]
            have hx := hid (yes (by rw [hok]; simp; try omega))
            clear yes no hok hK hX ha
            go_wp2_with fail
            go_roundw
            case rel => exact ⟨k + 1, by omega, by go_num, hx, hb⟩
            case measure => simp [intOf]; omega
          · have q1 : decide (X < words) = false := by simp [hc]
            have hf := hid (no (by rw [hok]; simp; try omega))
            clear yes no hok hK hX ha
            go_wp2_with fail
            go_ret
            exact ⟨ret_b hf.out.symm, hb⟩
        · by_cases hc : X ≤ l.length
          · have q1 : decide (X ≤ l.length) = true := by simp [hc]
            have hx := hid (yes (by rw [hok]; simp; try omega))
            clear yes no hok hK hX ha
            go_wp2_with fail
            go_roundw
            case rel => exact ⟨k + 1, by omega, by go_num, hx, hb⟩
            case measure => simp [intOf]; omega
          · have q1 : decide (X ≤ l.length) = false := by simp [hc]
            have hf := hid (no (by rw [hok]; simp; try omega))
            clear yes no hok hK hX ha
            go_wp2_with fail
            go_ret
            exact ⟨ret_b hf.out.symm, hb⟩
        · by_cases hc : X ≤ l.length
          · have q1 : decide (X ≤ l.length) = true := by simp [hc]
            have hx := hid (yes (by rw [hok]; simp; try omega))
            clear yes no hok hK hX ha
            go_wp2_with fail
            go_roundw
            case rel => exact ⟨k + 1, by omega, by go_num, hx, hb⟩
            case measure => simp [intOf]; omega
          · have q1 : decide (X ≤ l.length) = false := by simp [hc]
            have hf := hid (no (by rw [hok]; simp; try omega))
            clear yes no hok hK hX ha
            go_wp2_with fail
            go_ret
            exact ⟨ret_b hf.out.symm, hb⟩
        · by_cases hc : X ≤ l.length
          · have q1 : decide (X ≤ l.length) = true := by simp [hc]
            have hx := hid (yes (by rw [hok]; simp; try omega))
            clear yes no hok hK hX ha
            go_wp2_with fail
            go_roundw
            case rel => exact ⟨k + 1, by omega, by go_num, hx, hb⟩
            case measure => simp [intOf]; omega
          · have q1 : decide (X ≤ l.length) = false := by simp [hc]
            have hf := hid (no (by rw [hok]; simp; try omega))
            clear yes no hok hK hX ha
            go_wp2_with fail
            go_ret
            exact ⟨ret_b hf.out.symm, hb⟩
        · by_cases hc : X ≤ l.length
          · have q1 : decide (X ≤ l.length) = true := by simp [hc]
            have hx := hid (yes (by rw [hok]; simp; try omega))
            clear yes no hok hK hX ha
            go_wp2_with fail
            go_roundw
            case rel => exact ⟨k + 1, by omega, by go_num, hx, hb⟩
            case measure => simp [intOf]; omega
          · have q1 : decide (X ≤ l.length) = false := by simp [hc]
            have hf := hid (no (by rw [hok]; simp; try omega))
            clear yes no hok hK hX ha
            go_wp2_with fail
            go_ret
            exact ⟨ret_b hf.out.symm, hb⟩
        · by_cases hc : X ≤ l.length
          · have q1 : decide (X ≤ l.length) = true := by simp [hc]
            have hx := hid (yes (by rw [hok]; simp; try omega))
            clear yes no hok hK hX ha
            go_wp2_with fail
            go_roundw
            case rel => exact ⟨k + 1, by omega, by go_num, hx, hb⟩
            case measure => simp [intOf]; omega
          · have q1 : decide (X ≤ l.length) = false := by simp [hc]
            have hf := hid (no (by rw [hok]; simp; try omega))
            clear yes no hok hK hX ha
            go_wp2_with fail
            go_ret
            exact ⟨ret_b hf.out.symm, hb⟩
        · by_cases hc : X ≤ l.length
          · have q1 : decide (X ≤ l.length) = true := by simp [hc]
            have hx := hid (yes (by rw [hok]; simp; try omega))
            clear yes no hok hK hX ha
            go_wp2_with fail
            go_roundw
            case rel => exact ⟨k + 1, by omega, by go_num, hx, hb⟩
            case measure => simp [intOf]; omega
          · have q1 : decide (X ≤ l.length) = false := by simp [hc]
            have hf := hid (no (by rw [hok]; simp; try omega))
            clear yes no hok hK hX ha
            go_wp2_with fail
            go_ret
            exact ⟨ret_b hf.out.symm, hb⟩
        · by_cases hc : X ≤ l.length
          · have q1 : decide (X ≤ l.length) = true := by simp [hc]
            have hx := hid (yes (by rw [hok]; simp; try omega))
            clear yes no hok hK hX ha
            go_wp2_with fail
            go_roundw
            case rel => exact ⟨k + 1, by omega, by go_num, hx, hb⟩
            case measure => simp [intOf]; omega
          · have q1 : decide (X ≤ l.length) = false := by simp [hc]
            have hf := hid (no (by rw [hok]; simp; try omega))
            clear yes no hok hK hX ha
            go_wp2_with fail
            go_ret
            exact ⟨ret_b hf.out.symm, hb⟩
        · by_cases hc : X ≤ l.length
          · have q1 : decide (X ≤ l.length) = true := by simp [hc]
            have hx := hid (yes (by rw [hok]; simp; try omega))
            clear yes no hok hK hX ha
            go_wp2_with fail
            go_roundw
            case rel => exact ⟨k + 1, by omega, by go_num, hx, hb⟩
            case measure => simp [intOf]; omega
          · have q1 : decide (X ≤ l.length) = false := by simp [hc]
            have hf := hid (no (by rw [hok]; simp; try omega))
            clear yes no hok hK hX ha
            go_wp2_with fail
            go_ret
            exact ⟨ret_b hf.out.symm, hb⟩
        · by_cases hc : X = 0
          · have q1 : (X == 0) = true := by simp [hc]
            have q2 : (X != 0) = false := by simp [hc]
            have hx := hid (yes (by rw [hok]; simp; try omega))
            clear yes no hok hK hX ha
            go_wp2_with fail
            go_roundw
            case rel => exact ⟨k + 1, by omega, by go_num, hx, hb⟩
            case measure => simp [intOf]; omega
          · have q1 : (X == 0) = false := by simp [hc]
            have q2 : (X != 0) = true := by simp [hc]
            have hf := hid (no (by rw [hok]; simp; try omega))
            clear yes no hok hK hX ha
            go_wp2_with fail
            go_ret
            exact ⟨ret_b hf.out.symm, hb⟩
        · by_cases hc : X = 0
          · have q1 : (X == 0) = true := by simp [hc]
            have q2 : (X != 0) = false := by simp [hc]
            have hx := hid (yes (by rw [hok]; simp; try omega))
            clear yes no hok hK hX ha
            go_wp2_with fail
            go_roundw
            case rel => exact ⟨k + 1, by omega, by go_num, hx, hb⟩
            case measure => simp [intOf]; omega
          · have q1 : (X == 0) = false := by simp [hc]
            have q2 : (X != 0) = true := by simp [hc]
            have hf := hid (no (by rw [hok]; simp; try omega))
            clear yes no hok hK hX ha
            go_wp2_with fail
            go_ret
            exact ⟨ret_b hf.out.symm, hb⟩
        · by_cases hc : X < words
          · have q1 : decide (X < words) = true := by simp [hc]
            have hx := hid (yes (by rw [hok]; simp; try omega))
            clear yes no hok hK hX ha
            go_wp2_with fail
            go_roundw
            case rel => exact ⟨k + 1, by omega, by go_num, hx, hb⟩
            case measure => simp [intOf]; omega
          · have q1 : decide (X < words) = false := by simp [hc]
            have hf := hid (no (by rw [hok]; simp; try omega))
            clear yes no hok hK hX ha
            go_wp2_with fail
            go_ret
            exact ⟨ret_b hf.out.symm, hb⟩
        · have y1 : (K == 1) = false := by rw [beq_eq_false_iff_ne]; omega
          have y2 : (K == 2) = false := by rw [beq_eq_false_iff_ne]; omega
          have y3 : (K == 3) = false := by rw [beq_eq_false_iff_ne]; omega
          have y4 : (K == 4) = false := by rw [beq_eq_false_iff_ne]; omega
          have y5 : (K == 5) = false := by rw [beq_eq_false_iff_ne]; omega
          have y6 : (K == 6) = false := by rw [beq_eq_false_iff_ne]; omega
          have y7 : (K == 7) = false := by rw [beq_eq_false_iff_ne]; omega
          have y8 : (K == 8) = false := by rw [beq_eq_false_iff_ne]; omega
          have y9 : (K == 9) = false := by rw [beq_eq_false_iff_ne]; omega
          have y10 : (K == 10) = false := by rw [beq_eq_false_iff_ne]; omega
          have y11 : (K == 11) = false := by rw [beq_eq_false_iff_ne]; omega
          have y12 : (K == 12) = false := by rw [beq_eq_false_iff_ne]; omega
          have y13 : (K == 13) = false := by rw [beq_eq_false_iff_ne]; omega
          have hf := hid (no (by rw [hok]; simp; try omega))
          clear yes no hok hK hX ha
          go_wp2_with fail
          go_ret
          exact ⟨ret_b hf.out.symm, hb⟩
      · have hf : Hid (sndF l words = true) := by
          show _ = _
          have := ha.out
          rw [List.take_of_length_le (by omega)] at this
          unfold sndF
          rw [this, decide_eq_true (by omega)]
          rfl
        go_wp2_with fail
        go_ret
        exact ⟨ret_b hf.out.symm, hb⟩

end Go.Proofs.Ytfljcfpcokimcaa
