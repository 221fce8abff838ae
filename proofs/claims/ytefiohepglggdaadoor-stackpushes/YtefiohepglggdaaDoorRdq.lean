/-
  Do of the document's answer, the words outside the table: ?dup, depth, pick, roll, and what is no word.
-/
import Derived.Test.YtefiohepglggdaaDoorRdo
import Derived.Deep.Cut
namespace Go.Proofs.YtefiohepglggdaaDoor
open Go.ChangeShapes Go.WideShapes Go.ChangeAt Go.RowKit
set_option linter.unusedVariables false
set_option linter.unusedSimpArgs false

/-- how the rest of the call goes on behind an append -/
theorem app_rd {w w2 w3 : World} {v v3 : Value} {ys zs : List Int} (hb : Below w.heap.size w w2) (ho : w2.ownsRow w.heap.size 39 1 v ys.length (ys.map (Value.int .u32)))
    (hg : w2.grownBy w3 v.ownBlock) : Below w.heap.size w w3 := below_grown hb hg (fun k hk => (ho.lt k hk).1)

theorem w_reff0 (op : Int) (w : World) (ht : isT op = false) : Calls Tryd.prog 19 #[.int .i64 op] w fun e w' => e = .returned (.tuple #[.int .i64 0, .string ⟨#[]⟩]) ∧ w' = w := by
  have c := w_reff op w
  rw [(eff_none op ht).1, (eff_none op ht).2] at c
  exact c

set_option maxHeartbeats 2000000 in
set_option maxRecDepth 100000 in
theorem w_rdoN (v : Value) (xs : List Int) (op : Int) (w : World) (h : Rd .u32 w v xs) (hl : (xs.length : Int) ≤ 64) (ht : isT op = false) (h80 : (op == 80) = false) (h81 : (op == 81) = false) (h78 : (op == 78) = false) (h79 : (op == 79) = false) :
    Calls Tryd.prog 11 #[.int .i64 op, v] w fun e w' => ∃ v1, e = .returned (.tuple #[v1, .int .i64 2]) ∧ Rd .u32 w' v1 [] ∧ Below w.heap.size w w' := by
  have hlen := rd_len h uS (P := Tryd.prog)
  have ceff := fun w => w_reff0 op w ht
  go_enter Tryd.func11, Tryd.ntmps11
  go_wp2_with (go_at_call 19; refine (ceff _).mono ?_; rintro e w1 ⟨rfl, rfl⟩)
  go_ret2
  exact ⟨_, rfl, Rd_nil, Below.refl _ _⟩

set_option maxHeartbeats 2000000 in
set_option maxRecDepth 100000 in
theorem w_rdoA (v : Value) (xs : List Int) (op : Int) (w : World) (h : Rd .u32 w v xs) (hl : (64 : Int) < xs.length) :
    Calls Tryd.prog 11 #[.int .i64 op, v] w fun e w' => ∃ v1, e = .returned (.tuple #[v1, .int .i64 1]) ∧ Rd .u32 w' v1 [] ∧ Below w.heap.size w w' := by
  have hlen := rd_len h uS (P := Tryd.prog)
  go_enter Tryd.func11, Tryd.ntmps11
  go_wp2_with fail
  go_ret2
  exact ⟨_, rfl, Rd_nil, Below.refl _ _⟩

set_option maxHeartbeats 2000000 in
set_option maxRecDepth 100000 in
theorem w_rdoD (v : Value) (xs : List Int) (w : World) (h : Rd .u32 w v xs) (hl : (xs.length : Int) ≤ 64) :
    Calls Tryd.prog 11 #[.int .i64 81, v] w fun e w' => ∃ v1, e = .returned (.tuple #[v1, .int .i64 (fits (xs ++ [(xs.length : Int)])).2]) ∧ Rd .u32 w' v1 (fits (xs ++ [(xs.length : Int)])).1 ∧ Below w.heap.size w w' := by
  have hlen := rd_len h uS (P := Tryd.prog)
  have ceff := fun w => w_reff0 81 w rfl
  obtain ⟨i0, hi, hz0, hz1, hz2⟩ := info_parts infoU32
  obtain ⟨n, hn⟩ : ∃ n : Nat, xs.length = n := ⟨_, rfl⟩
  have Hn := hid hn
  rw [hn] at hlen hl ⊢
  clear hn
  by_cases h64 : (64 : Int) ≤ n
  · have e : Hid (fits (xs ++ [(n : Int)]) = ([], 6)) := by show _ = _; have := Hn.out; unfold fits; rw [if_pos (by simp; omega)]
    go_enter Tryd.func11, Tryd.ntmps11
    go_upto_region 24 with (first
      | (go_at_call 19; refine (ceff _).mono ?_; rintro e w1 ⟨rfl, rfl⟩)
      | (at_builtin; refine wpList_append_rd (k := .u32) rfl _ _ 22 rfl w1.heap.size 39 i0 4 Tryd.underlying22 hi hz0 hz1 hz2 (.slice none 0 0) [] rfl (World.ownsRow_nil _ _ _ _) v xs rfl h (by have := Hn.out; unfold maxLen; simp; omega) (by have := Hn.out; simp; omega) (Nat.le_refl _) ?_; intro v2 w2 o2 g2))
    have b2 := below_grown (Below.refl _ _) g2 (fun k hk => by cases hk)
    have o2' := World.ownsRow.alloc o2 (.cells #[.int .u32 (n : Int)] 39)
    have b2' := b2.alloc b2.size (.cells #[.int .u32 (n : Int)] 39)
    clear g2
    go_wp2_with (at_builtin; refine wpList_append_rd (k := .u32) rfl _ _ 22 rfl w1.heap.size 39 i0 4 Tryd.underlying22 hi hz0 hz1 hz2 v2 xs rfl o2' _ [(n : Int)] rfl (rd_one _ _ 39) (by have := Hn.out; unfold maxLen; simp; omega) (by have := Hn.out; simp; omega) b2'.size ?_; intro v3 w3 o3 g3; have b3 := below_grown b2' g3 (fun k hk => (o2'.lt k hk).1); have olen := rd_len (Rd_own o3).1 uS (P := Tryd.prog); rw [show (xs ++ [(n : Int)]).length = n + 1 by have := Hn.out; simp; omega] at olen)
    go_ret2
    rw [e.out]
    exact ⟨_, rfl, Rd_nil, b3⟩
  · have e : Hid (fits (xs ++ [(n : Int)]) = (xs ++ [(n : Int)], 0)) := by show _ = _; have := Hn.out; unfold fits; rw [if_neg (by simp; omega)]
    go_enter Tryd.func11, Tryd.ntmps11
    go_upto_region 24 with (first
      | (go_at_call 19; refine (ceff _).mono ?_; rintro e w1 ⟨rfl, rfl⟩)
      | (at_builtin; refine wpList_append_rd (k := .u32) rfl _ _ 22 rfl w1.heap.size 39 i0 4 Tryd.underlying22 hi hz0 hz1 hz2 (.slice none 0 0) [] rfl (World.ownsRow_nil _ _ _ _) v xs rfl h (by have := Hn.out; unfold maxLen; simp; omega) (by have := Hn.out; simp; omega) (Nat.le_refl _) ?_; intro v2 w2 o2 g2))
    have b2 := below_grown (Below.refl _ _) g2 (fun k hk => by cases hk)
    have o2' := World.ownsRow.alloc o2 (.cells #[.int .u32 (n : Int)] 39)
    have b2' := b2.alloc b2.size (.cells #[.int .u32 (n : Int)] 39)
    clear g2
    go_wp2_with (at_builtin; refine wpList_append_rd (k := .u32) rfl _ _ 22 rfl w1.heap.size 39 i0 4 Tryd.underlying22 hi hz0 hz1 hz2 v2 xs rfl o2' _ [(n : Int)] rfl (rd_one _ _ 39) (by have := Hn.out; unfold maxLen; simp; omega) (by have := Hn.out; simp; omega) b2'.size ?_; intro v3 w3 o3 g3; have b3 := below_grown b2' g3 (fun k hk => (o2'.lt k hk).1); have olen := rd_len (Rd_own o3).1 uS (P := Tryd.prog); rw [show (xs ++ [(n : Int)]).length = n + 1 by have := Hn.out; simp; omega] at olen)
    go_ret2
    rw [e.out]
    exact ⟨_, rfl, (Rd_own o3).1, b3⟩

set_option maxHeartbeats 2000000 in
set_option maxRecDepth 100000 in
theorem w_rdoQ (v : Value) (xs : List Int) (w : World) (h : Rd .u32 w v xs) (hl : (xs.length : Int) ≤ 64) :
    Calls Tryd.prog 11 #[.int .i64 80, v] w fun e w' => ∃ v1, e = .returned (.tuple #[v1, .int .i64 (doQ xs).2]) ∧ Rd .u32 w' v1 (doQ xs).1 ∧ Below w.heap.size w w' := by
  have hlen := rd_len h uS (P := Tryd.prog)
  have ceff := fun w => w_reff0 80 w rfl
  obtain ⟨i0, hi, hz0, hz1, hz2⟩ := info_parts infoU32
  obtain ⟨n, hn⟩ : ∃ n : Nat, xs.length = n := ⟨_, rfl⟩
  have Hn := hid hn
  rw [hn] at hlen hl
  by_cases h1 : (n : Int) < 1
  · have e : doQ xs = ([], 5) := by unfold doQ; rw [if_pos (by omega)]
    rw [e]
    clear e hn
    go_enter Tryd.func11, Tryd.ntmps11
    go_wp2_with (go_at_call 19; refine (ceff _).mono ?_; rintro e w1 ⟨rfl, rfl⟩)
    go_ret2
    exact ⟨_, rfl, Rd_nil, Below.refl _ _⟩
  obtain ⟨ad, hrun, hcell⟩ := rd_idx h uS zS ((n : Int) - 1) (by omega) (by omega)
  obtain ⟨y, hy⟩ : ∃ y, xs.getD ((n : Int) - 1).toNat 0 = y := ⟨_, rfl⟩
  rw [hy] at hcell
  have e0 : doQ xs = fits (xs ++ if y = 0 then [] else [y]) := by
    unfold doQ
    rw [if_neg (by omega), show xs.length - 1 = ((n : Int) - 1).toNat by omega, hy]
  obtain ⟨R, hR⟩ : ∃ R, doQ xs = R := ⟨_, rfl⟩
  rw [hR]
  rw [e0] at hR
  have HR := hid hR
  clear e0 hy hn hR
  by_cases hy0 : y = 0
  · have hy2 : (y != 0) = false := by simp [hy0]
    have e : Hid (R = (xs, 0)) := by show _ = _; have := Hn.out; rw [← HR.out, if_pos hy0]; unfold fits; rw [if_neg (by simp; omega)]; simp
    clear hy0
    go_enter Tryd.func11, Tryd.ntmps11
    go_upto_region 20 with (first
      | (go_at_call 19; refine (ceff _).mono ?_; rintro e w1 ⟨rfl, rfl⟩)
      | (at_builtin; refine wpList_append_rd (k := .u32) rfl _ _ 22 rfl w1.heap.size 39 i0 4 Tryd.underlying22 hi hz0 hz1 hz2 (.slice none 0 0) [] rfl (World.ownsRow_nil _ _ _ _) v xs rfl h (by have := Hn.out; unfold maxLen; simp; omega) (by have := Hn.out; simp; omega) (Nat.le_refl _) ?_; intro v2 w2 o2 g2))
    have b2 := below_grown (Below.refl _ _) g2 (fun k hk => by cases hk)
    clear g2
    have hcell2 := below_cell b2 hcell
    have olen := rd_len (Rd_own o2).1 uS (P := Tryd.prog)
    rw [show (([] : List Int) ++ xs).length = n by have := Hn.out; simp; omega] at olen
    go_wp2_with fail
    go_ret2
    rw [e.out]
    exact ⟨_, rfl, (Rd_own o2).1, b2⟩
  · have hy2 : (y != 0) = true := by simp [hy0]
    by_cases h64 : (64 : Int) ≤ n
    · have e : Hid (R = ([], 6)) := by show _ = _; have := Hn.out; rw [← HR.out, if_neg hy0]; unfold fits; rw [if_pos (by simp; omega)]
      clear hy0
      go_enter Tryd.func11, Tryd.ntmps11
      go_upto_region 20 with (first
        | (go_at_call 19; refine (ceff _).mono ?_; rintro e w1 ⟨rfl, rfl⟩)
        | (at_builtin; refine wpList_append_rd (k := .u32) rfl _ _ 22 rfl w1.heap.size 39 i0 4 Tryd.underlying22 hi hz0 hz1 hz2 (.slice none 0 0) [] rfl (World.ownsRow_nil _ _ _ _) v xs rfl h (by have := Hn.out; unfold maxLen; simp; omega) (by have := Hn.out; simp; omega) (Nat.le_refl _) ?_; intro v2 w2 o2 g2))
      have b2 := below_grown (Below.refl _ _) g2 (fun k hk => by cases hk)
      clear g2
      have hcell2 := below_cell b2 hcell
      have hcell3 : (w2.alloc (.cells #[.int .u32 y] 39)).cell? ad = some (.int .u32 y) := below_cell (b2.alloc b2.size _) hcell
      have o2' := World.ownsRow.alloc o2 (.cells #[.int .u32 y] 39)
      have b2' := b2.alloc b2.size (.cells #[.int .u32 y] 39)
      go_wp2_with (at_builtin; refine wpList_append_rd (k := .u32) rfl _ _ 22 rfl w1.heap.size 39 i0 4 Tryd.underlying22 hi hz0 hz1 hz2 v2 xs rfl o2' _ [y] rfl (rd_one _ _ 39) (by have := Hn.out; unfold maxLen; simp; omega) (by have := Hn.out; simp; omega) b2'.size ?_; intro v3 w3 o3 g3; have b3 := below_grown b2' g3 (fun k hk => (o2'.lt k hk).1); have olen := rd_len (Rd_own o3).1 uS (P := Tryd.prog); rw [show (xs ++ [y]).length = n + 1 by have := Hn.out; simp; omega] at olen)
      go_ret2
      rw [e.out]
      exact ⟨_, rfl, Rd_nil, b3⟩
    · have e : Hid (R = (xs ++ [y], 0)) := by show _ = _; have := Hn.out; rw [← HR.out, if_neg hy0]; unfold fits; rw [if_neg (by simp; omega)]
      clear hy0
      go_enter Tryd.func11, Tryd.ntmps11
      go_upto_region 20 with (first
        | (go_at_call 19; refine (ceff _).mono ?_; rintro e w1 ⟨rfl, rfl⟩)
        | (at_builtin; refine wpList_append_rd (k := .u32) rfl _ _ 22 rfl w1.heap.size 39 i0 4 Tryd.underlying22 hi hz0 hz1 hz2 (.slice none 0 0) [] rfl (World.ownsRow_nil _ _ _ _) v xs rfl h (by have := Hn.out; unfold maxLen; simp; omega) (by have := Hn.out; simp; omega) (Nat.le_refl _) ?_; intro v2 w2 o2 g2))
      have b2 := below_grown (Below.refl _ _) g2 (fun k hk => by cases hk)
      clear g2
      have hcell2 := below_cell b2 hcell
      have o2' := World.ownsRow.alloc o2 (.cells #[.int .u32 y] 39)
      have b2' := b2.alloc b2.size (.cells #[.int .u32 y] 39)
      go_wp2_with (at_builtin; refine wpList_append_rd (k := .u32) rfl _ _ 22 rfl w1.heap.size 39 i0 4 Tryd.underlying22 hi hz0 hz1 hz2 v2 xs rfl o2' _ [y] rfl (rd_one _ _ 39) (by have := Hn.out; unfold maxLen; simp; omega) (by have := Hn.out; simp; omega) b2'.size ?_; intro v3 w3 o3 g3; have b3 := below_grown b2' g3 (fun k hk => (o2'.lt k hk).1); have olen := rd_len (Rd_own o3).1 uS (P := Tryd.prog); rw [show (xs ++ [y]).length = n + 1 by have := Hn.out; simp; omega] at olen)
      go_ret2
      rw [e.out]
      exact ⟨_, rfl, (Rd_own o3).1, b3⟩
end Go.Proofs.YtefiohepglggdaaDoor
