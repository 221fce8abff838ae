/-
  The library's Clone, Grow and Concat of lists of cells: what they return, in new memory, for all lists.
-/
import Derived.Test.YtefiohepglggdaaDoorRpo
import Derived.Lib.AppendZerosOnto
import Derived.Lib.AppendZeros
import Derived.Lib.SliceRun
namespace Go.Proofs.YtefiohepglggdaaDoor
open Go.ChangeShapes Go.WideShapes Go.ChangeAt Go.RowKit
set_option linter.unusedVariables false
set_option linter.unusedSimpArgs false

set_option maxHeartbeats 1000000 in
theorem w_clone (v : Value) (xs : List Int) (w : World) (h : Rd .u32 w v xs) (h1 : xs.length ≤ maxLen) (hb : xs.length * 4 ≤ 140737488355328) :
    Calls Tryd.prog 21 #[v] w fun e w' => ∃ v', e = .returned v' ∧ Rd .u32 w' v' xs ∧ Below w.heap.size w w' := by
  obtain ⟨ao, cap, rfl, hc, hn, hx⟩ := rd_form h
  have q := Lib.run_eql_slice_nil (P := Tryd.prog) (t := 22) (e := 39) (h := Tryd.underlying22)
  cases ao with
  | none =>
    have hx0 : xs = [] := by
      have := hn rfl
      exact List.eq_nil_of_length_eq_zero (by omega)
    subst hx0
    go_enter Tryd.func21, Tryd.ntmps21
    go_wp2
    go_ret
    exact ⟨_, rfl, Rd_nil, Below.refl _ _⟩
  | some a =>
    obtain ⟨i0, hi, hz0, hz1, hz2⟩ := info_parts infoU32
    have b0 := (Below.refl w.heap.size w).alloc (Nat.le_refl _) (.cells #[] 39)
    have h2 := h.below b0
    obtain ⟨L, hL⟩ : ∃ L, xs.length = L := ⟨_, rfl⟩
    clear hx hc hn h
    go_enter Tryd.func21, Tryd.ntmps21
    go_wp2_with (at_builtin; refine wpList_append_rd (k := .u32) rfl _ _ 22 rfl w.heap.size 39 i0 4 Tryd.underlying22 hi hz0 hz1 hz2 _ [] rfl (World.ownsRow_made w #[] 0 (Nat.le_refl _) (Nat.zero_le _) (by simp)) _ xs rfl h2 (by simpa using h1) (by simpa using hb) b0.size ?_; intro v' w1 hown hgr)
    go_ret
    exact ⟨v', rfl, (Rd_own (xs := xs) (by simpa using hown)).1, below_grown b0 hgr (fun k hk => Nat.le_of_eq (Option.some.inj hk))⟩

set_option maxHeartbeats 1000000 in
theorem w_grow (n : Nat) (w : World) (hb : n * 4 ≤ 140737488355328) :
    Calls Tryd.prog 22 #[.slice none 0 0, .int .i64 n] w fun e w' => ∃ v', e = .returned v' ∧ w'.ownsRow w.heap.size 39 1 v' 0 [] ∧ Below w.heap.size w w' := by
  have hn0 : ¬ ((n : Int) < 0) := by omega
  rcases Nat.eq_zero_or_pos n with rfl | hp
  · go_enter Tryd.func22, Tryd.ntmps22
    go_wp2
    go_ret
    exact ⟨_, rfl, World.ownsRow_nil _ _ _ _, Below.refl _ _⟩
  · obtain ⟨i0, hi, hz0, hz1, hz2⟩ := info_parts infoU32
    have hold : (Builtin.firstCells i0.size 0 (.slice none 0 0)).run Tryd.prog w.drew = .ok ([] : List Value).toArray w.drew := run_firstCells_none w.drew i0.size 0 0 0
    have hrz : ∀ ty, (Builtin.append_ #[22, 3] ty #[.slice none 0 0, .int .i64 n]).run Tryd.prog w = _ := fun ty =>
      Lib.run_append_grow_zeros w 22 3 ty 39 i0 (.int .u32 0) .i64 .i64 Tryd.underlying22 Tryd.underlying3 hi hz0 none 0 0 [] hold n hp (by omega) (by omega) (by omega) (by rw [hz2]; omega)
        (growslice_fits (by omega) (by rw [hz2]; omega))
    rw [Nat.zero_add] at hrz
    have hGn : n ≤ grownCap w n 0 39 := grownCap_ge w _ _ _
    have hGm : grownCap w n 0 39 ≤ maxLen := grownCap_le_maxLen w n 0 39 (by unfold maxLen; omega)
    obtain ⟨G, hG⟩ : ∃ G, grownCap w n 0 39 = G := ⟨_, rfl⟩
    rw [hG] at hrz hGn hGm
    clear hG hold
    have hs : (([] : List Value).toArray ++ Builtin.zeroCells (Value.int .u32 0).cells n ++ Builtin.zeroCells (Value.int .u32 0).cells (G - n)).size = G * 1 := by
      simp [size_zeroCells, Value.cells]; omega
    obtain ⟨Z, hZ⟩ : ∃ Z, ([] : List Value).toArray ++ Builtin.zeroCells (Value.int .u32 0).cells n ++ Builtin.zeroCells (Value.int .u32 0).cells (G - n) = Z := ⟨_, rfl⟩
    rw [hZ] at hrz hs
    clear hZ
    have hG0 : (0 : Int) ≤ G := by omega
    have ho := World.ownsRow_made (base := w.heap.size) (e := 39) (size := 1) w.drew Z G (Nat.le_refl _) hGm hs
    have b0 : Below w.heap.size w (w.drew.alloc (.cells Z 39)) := (below_drewN (Below.refl _ _) 1).alloc (Nat.le_refl _) _
    go_enter Tryd.func22, Tryd.ntmps22
    go_wp2_with (at_builtin; refine Lib.wpList_append_run _ rfl _ _ _ _ rfl _ _ rfl rfl _ _ (hrz _) ?_)
    go_ret
    exact ⟨_, rfl, ho, b0⟩

/-- lists one behind the other -/
def cat (f : Nat → List Int) : Nat → List Int
  | 0 => []
  | n + 1 => cat f n ++ f n
theorem cat_mono (f : Nat → List Int) {a b : Nat} (h : a ≤ b) : (cat f a).length ≤ (cat f b).length := by
  induction h with
  | refl => exact Nat.le_refl _
  | step _ ih => simp [cat]; omega
theorem uL : Tryd.prog.underlying 47 = some (.slice (Tryd.prog.elem 47)) := by kernel_rfl
theorem eL : Tryd.prog.elem 47 = 22 := by kernel_rfl

set_option maxHeartbeats 1000000 in
theorem w_concat (b m : Nat) (vs : Nat → Value) (f : Nat → List Int) (w : World) (hm : m ≤ 1000) (hm0 : 0 < m) (hc : ∀ i, i < m → w.cell? ⟨b, i, none⟩ = some (vs i)) (hr : ∀ i, i < m → Rd .u32 w (vs i) (f i)) (hb : (cat f m).length * 4 ≤ 140737488355328) :
    Calls Tryd.prog 20 #[.slice (some ⟨b, 0, none⟩) m m] w fun e w' => ∃ v', e = .returned v' ∧ Rd .u32 w' v' (cat f m) ∧ Below w.heap.size w w' := by
  have HC := hid hc
  have HR := hid hr
  clear hc hr
  have hmI : (m : Int) ≤ 1000 := by omega
  have Hb := hid hb
  obtain ⟨i0, hi, hz0, hz1, hz2⟩ := info_parts infoU32
  go_enter Tryd.func20, Tryd.ntmps20
  go_wp2
  go_loopw [3, 11] (fun Z I wx => ∃ (k n : Nat), (k : Int) ≤ m ∧ I = .int .i64 k ∧ Z = .int .i64 n ∧ Hid (n = (cat f k).length) ∧ wx = w) (fun _ I _ => (m - intOf I).toNat)
  case atStart => exact ⟨0, 0, by omega, rfl, rfl, hid rfl, rfl⟩
  case round =>
    obtain ⟨k, n, hk, rfl, rfl, hn, rfl⟩ := hrel
    by_cases hlt : (k : Int) < m
    · have hce := HC.out k (by omega)
      have hre := HR.out k (by omega)
      have hlen := rd_len hre uS (P := Tryd.prog)
      obtain ⟨y, hy⟩ : ∃ y, f k = y := ⟨_, rfl⟩
      rw [hy] at hre hlen
      obtain ⟨v, hv⟩ : ∃ v, vs k = v := ⟨_, rfl⟩
      rw [hv] at hce hlen hre
      have hnn : Hid (n + y.length = (cat f (k + 1)).length) := by show _ = _; simp [cat, hy]; rw [hn.out]
      have hle : Hid ((n + y.length) * 4 ≤ 140737488355328) := by
        show _ ≤ _
        rw [hnn.out]
        have := cat_mono f (show k + 1 ≤ m by omega)
        have := Hb.out
        omega
      have hs0 : ¬ ((n : Int) + y.length < 0) := by omega
      have hs1 : (n : Int) + y.length ≤ 140737488355328 := by have := hle.out; omega
      go_wp2
      go_roundw
      case rel => exact ⟨k + 1, n + y.length, by omega, by go_num, by go_num, hnn, by first | rfl | trivial⟩
      case measure => simp [intOf]; omega
    · obtain rfl : k = m := by omega
      have hle : n * 4 ≤ 140737488355328 := by rw [hn.out]; exact hb
      go_wp2_with (go_at_call 22; refine (w_grow n _ hle).mono ?_; rintro e w1 ⟨u, rfl, ho, hb1⟩)
      clear hlt
      obtain ⟨w0, hw0⟩ : ∃ w0, w0 = wr := ⟨_, rfl⟩
      subst hw0
      go_loopw [6, 27] (fun U I wx => ∃ (j : Nat), (j : Int) ≤ k ∧ I = .int .i64 j ∧ Hid (wx.ownsRow w0.heap.size 39 1 U (cat f j).length ((cat f j).map (Value.int .u32))) ∧ Below w0.heap.size w0 wx) (fun _ I _ => (k - intOf I).toNat)
      case atStart => exact ⟨0, by omega, rfl, hid ho, hb1⟩
      case round =>
        obtain ⟨j, hj, rfl, ho2, hb2⟩ := hrel
        by_cases hlt : (j : Int) < k
        · have hce := below_cell hb2 (HC.out j (by omega))
          have hre := (HR.out j (by omega)).below hb2
          obtain ⟨C, hC⟩ : ∃ C, cat f j = C := ⟨_, rfl⟩
          obtain ⟨y, hy⟩ : ∃ y, f j = y := ⟨_, rfl⟩
          have hnx : cat f (j + 1) = C ++ y := by rw [← hC, ← hy]; rfl
          have hle2 := cat_mono f (show j + 1 ≤ k by omega)
          rw [hnx, List.length_append] at hle2
          rw [hC] at ho2
          rw [hy] at hre
          obtain ⟨v, hv⟩ : ∃ v, vs j = v := ⟨_, rfl⟩
          rw [hv] at hce hre
          have hbb := Hb.out
          have h63 : C.length + y.length ≤ maxLen := by unfold maxLen; omega
          have hby : (C.length + y.length) * 4 ≤ 140737488355328 := by omega
          have Hnx := hid hnx
          clear hbb hle2 hnx hC hy hv
          go_wp2_with (at_builtin; refine wpList_append_rd (k := .u32) rfl _ _ 22 rfl w0.heap.size 39 i0 4 Tryd.underlying22 hi hz0 hz1 hz2 _ C rfl ho2.out _ y rfl hre h63 hby hb2.size ?_; intro v3 w3 hown3 hgr3)
          go_roundw
          case rel => exact ⟨j + 1, by omega, by go_num, hid (by rw [Hnx.out]; exact hown3), below_grown hb2 hgr3 (fun k hk => (ho2.out.lt k hk).1)⟩
          case measure => simp [intOf]; omega
        · obtain rfl : j = k := by omega
          go_wp2
          go_ret
          exact ⟨_, rfl, (Rd_own ho2.out).1, hb2⟩
end Go.Proofs.YtefiohepglggdaaDoor
