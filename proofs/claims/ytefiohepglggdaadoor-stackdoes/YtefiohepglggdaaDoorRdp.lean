/-
  Do of the document's answer: pick, roll, and all words together.
-/
import Derived.Test.YtefiohepglggdaaDoorRdq
namespace Go.Proofs.YtefiohepglggdaaDoor
open Go.ChangeShapes Go.WideShapes Go.ChangeAt Go.RowKit
set_option linter.unusedVariables false
set_option linter.unusedSimpArgs false

theorem far_yes (xs : List Int) (h : far xs = true) : doP xs = ([], 5) ∧ doR xs = ([], 5) := by
  unfold doP doR; rw [if_pos h, if_pos h]; exact ⟨rfl, rfl⟩

set_option maxHeartbeats 2000000 in
set_option maxRecDepth 100000 in
theorem w_rdoF78 (v : Value) (xs : List Int) (w : World) (h : Rd .u32 w v xs) (hX : ∀ x ∈ xs, 0 ≤ x ∧ x < 4294967296) (hl : (xs.length : Int) ≤ 64) (hf : far xs = true) :
    Calls Tryd.prog 11 #[.int .i64 78, v] w fun e w' => ∃ v1, e = .returned (.tuple #[v1, .int .i64 5]) ∧ Rd .u32 w' v1 [] ∧ Below w.heap.size w w' := by
  have hlen := rd_len h uS (P := Tryd.prog)
  have ceff := fun w => w_reff0 78 w rfl
  obtain ⟨n, hn⟩ : ∃ n : Nat, xs.length = n := ⟨_, rfl⟩
  rw [hn] at hlen hl
  by_cases h1 : (n : Int) < 1
  · clear hn hf
    go_enter Tryd.func11, Tryd.ntmps11
    go_wp2_with (go_at_call 19; refine (ceff _).mono ?_; rintro e w1 ⟨rfl, rfl⟩)
    go_ret2
    exact ⟨_, rfl, Rd_nil, Below.refl _ _⟩
  · obtain ⟨ad, hrun, hcell⟩ := rd_idx h uS zS ((n : Int) - 1) (by omega) (by omega)
    obtain ⟨y, hy⟩ : ∃ y, xs.getD ((n : Int) - 1).toNat 0 = y := ⟨_, rfl⟩
    rw [hy] at hcell
    have hyb : 0 ≤ y ∧ y < 4294967296 := by
      rw [← hy, List.getD_eq_getElem?_getD, List.getElem?_eq_getElem (by omega)]
      exact hX _ (List.getElem_mem _)
    obtain ⟨y0, y1⟩ := hyb
    have hfy : (n : Int) - 1 ≤ y := by
      unfold far at hf
      rw [hn, show n - 1 = ((n : Int) - 1).toNat by omega, hy] at hf
      simp at hf
      omega
    clear hn hf hX hy
    go_enter Tryd.func11, Tryd.ntmps11
    go_wp2_with (go_at_call 19; refine (ceff _).mono ?_; rintro e w1 ⟨rfl, rfl⟩)
    go_ret2
    exact ⟨_, rfl, Rd_nil, Below.refl _ _⟩

set_option maxHeartbeats 2000000 in
set_option maxRecDepth 100000 in
theorem w_rdoF79 (v : Value) (xs : List Int) (w : World) (h : Rd .u32 w v xs) (hX : ∀ x ∈ xs, 0 ≤ x ∧ x < 4294967296) (hl : (xs.length : Int) ≤ 64) (hf : far xs = true) :
    Calls Tryd.prog 11 #[.int .i64 79, v] w fun e w' => ∃ v1, e = .returned (.tuple #[v1, .int .i64 5]) ∧ Rd .u32 w' v1 [] ∧ Below w.heap.size w w' := by
  have hlen := rd_len h uS (P := Tryd.prog)
  have ceff := fun w => w_reff0 79 w rfl
  obtain ⟨n, hn⟩ : ∃ n : Nat, xs.length = n := ⟨_, rfl⟩
  rw [hn] at hlen hl
  by_cases h1 : (n : Int) < 1
  · clear hn hf
    go_enter Tryd.func11, Tryd.ntmps11
    go_wp2_with (go_at_call 19; refine (ceff _).mono ?_; rintro e w1 ⟨rfl, rfl⟩)
    go_ret2
    exact ⟨_, rfl, Rd_nil, Below.refl _ _⟩
  · obtain ⟨ad, hrun, hcell⟩ := rd_idx h uS zS ((n : Int) - 1) (by omega) (by omega)
    obtain ⟨y, hy⟩ : ∃ y, xs.getD ((n : Int) - 1).toNat 0 = y := ⟨_, rfl⟩
    rw [hy] at hcell
    have hyb : 0 ≤ y ∧ y < 4294967296 := by
      rw [← hy, List.getD_eq_getElem?_getD, List.getElem?_eq_getElem (by omega)]
      exact hX _ (List.getElem_mem _)
    obtain ⟨y0, y1⟩ := hyb
    have hfy : (n : Int) - 1 ≤ y := by
      unfold far at hf
      rw [hn, show n - 1 = ((n : Int) - 1).toNat by omega, hy] at hf
      simp at hf
      omega
    clear hn hf hX hy
    go_enter Tryd.func11, Tryd.ntmps11
    go_wp2_with (go_at_call 19; refine (ceff _).mono ?_; rintro e w1 ⟨rfl, rfl⟩)
    go_ret2
    exact ⟨_, rfl, Rd_nil, Below.refl _ _⟩

set_option maxHeartbeats 2000000 in
set_option maxRecDepth 100000 in
theorem w_rdoP (v : Value) (xs : List Int) (w : World) (h : Rd .u32 w v xs) (hX : ∀ x ∈ xs, 0 ≤ x ∧ x < 4294967296) (hl : (xs.length : Int) ≤ 64) (hf : far xs = false) :
    Calls Tryd.prog 11 #[.int .i64 78, v] w fun e w' => ∃ v1, e = .returned (.tuple #[v1, .int .i64 (doP xs).2]) ∧ Rd .u32 w' v1 (doP xs).1 ∧ Below w.heap.size w w' := by
  have hlen := rd_len h uS (P := Tryd.prog)
  have ceff := fun w => w_reff0 78 w rfl
  obtain ⟨i0, hi, hz0, hz1, hz2⟩ := info_parts infoU32
  obtain ⟨n, hn⟩ : ∃ n : Nat, xs.length = n := ⟨_, rfl⟩
  have Hn := hid hn
  rw [hn] at hlen hl
  have hf1 : 1 ≤ (n : Int) ∧ xs.getD (n - 1) 0 < (n : Int) - 1 := by unfold far at hf; rw [hn] at hf; have := of_decide_eq_false hf; omega
  obtain ⟨h1, hf2⟩ := hf1
  obtain ⟨ad, hrun, hcell⟩ := rd_idx h uS zS ((n : Int) - 1) (by omega) (by omega)
  obtain ⟨y, hy⟩ : ∃ y, xs.getD ((n : Int) - 1).toNat 0 = y := ⟨_, rfl⟩
  rw [hy] at hcell
  rw [show n - 1 = ((n : Int) - 1).toNat by omega, hy] at hf2
  have hyb : 0 ≤ y ∧ y < 4294967296 := by
    rw [← hy, List.getD_eq_getElem?_getD, List.getElem?_eq_getElem (by omega)]
    exact hX _ (List.getElem_mem _)
  obtain ⟨y0, y1⟩ := hyb
  obtain ⟨p, hp⟩ : ∃ p : Nat, plc xs = p := ⟨_, rfl⟩
  have hpI : (n : Int) - 2 - y = p := by
    rw [← hp]; unfold plc
    rw [hn, show n - 1 = ((n : Int) - 1).toNat by omega, hy]; omega
  have Hp : Hid ((p : Int) + 2 ≤ n) := by show _ ≤ _; omega
  obtain ⟨ad2, hrun2, hcell2⟩ := rd_idx h uS zS (p : Int) (by omega) (by omega)
  obtain ⟨x, hx⟩ : ∃ x, xs.getD p 0 = x := ⟨_, rfl⟩
  rw [show ((p : Int)).toNat = p by omega, hx] at hcell2
  obtain ⟨R, hR⟩ : ∃ R, doP xs = R := ⟨_, rfl⟩
  rw [hR]
  obtain ⟨va, ra, x1, c1, x2⟩ := rd_cutI h uS zS 0 ((n : Int) - 1) (by omega) (by omega) (by omega)
  have c1' := c1 rfl
  obtain ⟨A, hA⟩ : ∃ A, xs.take (n - 1) = A := ⟨_, rfl⟩
  rw [show ((n : Int) - 1 - 0).toNat = n - 1 by omega, show (0 : Int).toNat = 0 from rfl, List.drop_zero, hA] at ra
  have hAl : Hid (A.length = n - 1) := by show _ = _; rw [← hA]; simp; omega
  have e : Hid (R = (A ++ [x], 0)) := by
    show _ = _
    rw [← hR]; unfold doP fits
    rw [if_neg (by rw [hf]; decide), hp, hx, hn, hA, if_neg]
    have := hAl.out
    simp; omega
  clear c1 x1 x2 hR hp hx hn hf hX hy hA
  go_enter Tryd.func11, Tryd.ntmps11
  go_upto_region 33 with (first
    | (go_at_call 19; refine (ceff _).mono ?_; rintro e w1 ⟨rfl, rfl⟩)
    | (at_builtin; refine wpList_append_rd (k := .u32) rfl _ _ 22 rfl w1.heap.size 39 i0 4 Tryd.underlying22 hi hz0 hz1 hz2 (.slice none 0 0) [] rfl (World.ownsRow_nil _ _ _ _) va A rfl ra (by have := hAl.out; unfold maxLen; simp; omega) (by have := hAl.out; simp; omega) (Nat.le_refl _) ?_; intro v2 w2 o2 g2))
  have b2 := below_grown (Below.refl _ _) g2 (fun k hk => by cases hk)
  clear g2
  have hcell3 := below_cell b2 hcell2
  have o2' := World.ownsRow.alloc o2 (.cells #[.int .u32 x] 39)
  have b2' := b2.alloc b2.size (.cells #[.int .u32 x] 39)
  go_wp2_with (at_builtin; refine wpList_append_rd (k := .u32) rfl _ _ 22 rfl w1.heap.size 39 i0 4 Tryd.underlying22 hi hz0 hz1 hz2 v2 A rfl o2' _ [x] rfl (rd_one _ _ 39) (by have := hAl.out; unfold maxLen; simp; omega) (by have := hAl.out; simp; omega) b2'.size ?_; intro v3 w3 o3 g3; have b3 := below_grown b2' g3 (fun k hk => (o2'.lt k hk).1); have olen := rd_len (Rd_own o3).1 uS (P := Tryd.prog); rw [show (A ++ [x]).length = n by have := hAl.out; simp; omega] at olen)
  go_ret2
  rw [e.out]
  exact ⟨_, rfl, (Rd_own o3).1, b3⟩

set_option maxHeartbeats 2000000 in
set_option maxRecDepth 100000 in
theorem w_rdoR (v : Value) (xs : List Int) (w : World) (h : Rd .u32 w v xs) (hX : ∀ x ∈ xs, 0 ≤ x ∧ x < 4294967296) (hl : (xs.length : Int) ≤ 64) (hf : far xs = false) :
    Calls Tryd.prog 11 #[.int .i64 79, v] w fun e w' => ∃ v1, e = .returned (.tuple #[v1, .int .i64 (doR xs).2]) ∧ Rd .u32 w' v1 (doR xs).1 ∧ Below w.heap.size w w' := by
  have hlen := rd_len h uS (P := Tryd.prog)
  have ceff := fun w => w_reff0 79 w rfl
  obtain ⟨i0, hi, hz0, hz1, hz2⟩ := info_parts infoU32
  obtain ⟨n, hn⟩ : ∃ n : Nat, xs.length = n := ⟨_, rfl⟩
  have Hn := hid hn
  rw [hn] at hlen hl
  have hf1 : 1 ≤ (n : Int) ∧ xs.getD (n - 1) 0 < (n : Int) - 1 := by unfold far at hf; rw [hn] at hf; have := of_decide_eq_false hf; omega
  obtain ⟨h1, hf2⟩ := hf1
  obtain ⟨ad, hrun, hcell⟩ := rd_idx h uS zS ((n : Int) - 1) (by omega) (by omega)
  obtain ⟨y, hy⟩ : ∃ y, xs.getD ((n : Int) - 1).toNat 0 = y := ⟨_, rfl⟩
  rw [hy] at hcell
  rw [show n - 1 = ((n : Int) - 1).toNat by omega, hy] at hf2
  have hyb : 0 ≤ y ∧ y < 4294967296 := by
    rw [← hy, List.getD_eq_getElem?_getD, List.getElem?_eq_getElem (by omega)]
    exact hX _ (List.getElem_mem _)
  obtain ⟨y0, y1⟩ := hyb
  obtain ⟨p, hp⟩ : ∃ p : Nat, plc xs = p := ⟨_, rfl⟩
  have hpI : (n : Int) - 2 - y = p := by
    rw [← hp]; unfold plc
    rw [hn, show n - 1 = ((n : Int) - 1).toNat by omega, hy]; omega
  have Hp : Hid ((p : Int) + 2 ≤ n) := by show _ ≤ _; omega
  obtain ⟨ad2, hrun2, hcell2⟩ := rd_idx h uS zS (p : Int) (by omega) (by omega)
  obtain ⟨x, hx⟩ : ∃ x, xs.getD p 0 = x := ⟨_, rfl⟩
  rw [show ((p : Int)).toNat = p by omega, hx] at hcell2
  obtain ⟨R, hR⟩ : ∃ R, doR xs = R := ⟨_, rfl⟩
  rw [hR]
  obtain ⟨va, ra, x1, c1, x2⟩ := rd_cutI h uS zS 0 (p : Int) (by omega) (by omega) (by omega)
  have c1' := c1 rfl
  obtain ⟨vb, rb, c2, x3, x4⟩ := rd_cutI h uS zS ((p : Int) + 1) ((n : Int) - 1) (by omega) (by omega) (by omega)
  obtain ⟨A, hA⟩ : ∃ A, xs.take p = A := ⟨_, rfl⟩
  obtain ⟨B, hB⟩ : ∃ B, (xs.drop (p + 1)).take (n - 2 - p) = B := ⟨_, rfl⟩
  rw [show ((p : Int) - 0).toNat = p by omega, show (0 : Int).toNat = 0 from rfl, List.drop_zero, hA] at ra
  rw [show ((n : Int) - 1 - ((p : Int) + 1)).toNat = n - 2 - p by omega, show ((p : Int) + 1).toNat = p + 1 by omega, hB] at rb
  have hAl : Hid (A.length = p) := by show _ = _; rw [← hA]; simp; omega
  have hBl : Hid (B.length = n - 2 - p) := by show _ = _; rw [← hB]; simp; omega
  have e : Hid (R = (A ++ B ++ [x], 0)) := by
    show _ = _
    rw [← hR]; unfold doR fits
    rw [if_neg (by rw [hf]; decide), hp, hx, hn, hA, hB, if_neg]
    have := hAl.out
    have := hBl.out
    simp; omega
  have Hnp : Hid ((p : Int) + 2 ≤ n ∧ (n : Int) ≤ 64) := ⟨Hp.out, hl⟩
  clear c1 x1 x2 x3 x4 hR hp hx hn hf hX hy hA hB
  go_enter Tryd.func11, Tryd.ntmps11
  go_upto_region 32 with (first
    | (go_at_call 19; refine (ceff _).mono ?_; rintro e w1 ⟨rfl, rfl⟩)
    | (at_builtin; refine wpList_append_rd (k := .u32) rfl _ _ 22 rfl w1.heap.size 39 i0 4 Tryd.underlying22 hi hz0 hz1 hz2 (.slice none 0 0) [] rfl (World.ownsRow_nil _ _ _ _) va A rfl ra (by have := hAl.out; have := Hnp.out; unfold maxLen; simp; omega) (by have := hAl.out; have := Hnp.out; simp; omega) (Nat.le_refl _) ?_; intro v2 w2 o2 g2))
  have b2 := below_grown (Below.refl _ _) g2 (fun k hk => by cases hk)
  clear g2
  have rb2 := rb.below b2
  go_upto_region 33 with (at_builtin; refine wpList_append_rd (k := .u32) rfl _ _ 22 rfl w1.heap.size 39 i0 4 Tryd.underlying22 hi hz0 hz1 hz2 v2 A rfl o2 vb B rfl rb2 (by have := hAl.out; have := hBl.out; have := Hnp.out; unfold maxLen; omega) (by have := hAl.out; have := hBl.out; have := Hnp.out; omega) b2.size ?_; intro v4 w4 o4 g4)
  have b4 := below_grown b2 g4 (fun k hk => (o2.lt k hk).1)
  clear g4 o2 rb2
  have hcell3 := below_cell b4 hcell2
  have o4' := World.ownsRow.alloc o4 (.cells #[.int .u32 x] 39)
  have b4' := b4.alloc b4.size (.cells #[.int .u32 x] 39)
  go_wp2_with (at_builtin; refine wpList_append_rd (k := .u32) rfl _ _ 22 rfl w1.heap.size 39 i0 4 Tryd.underlying22 hi hz0 hz1 hz2 v4 (A ++ B) rfl o4' _ [x] rfl (rd_one _ _ 39) (by have := hAl.out; have := hBl.out; have := Hnp.out; unfold maxLen; simp; omega) (by have := hAl.out; have := hBl.out; have := Hnp.out; simp; omega) b4'.size ?_; intro v3 w3 o3 g3; have b3 := below_grown b4' g3 (fun k hk => (o4'.lt k hk).1); have olen := rd_len (Rd_own o3).1 uS (P := Tryd.prog); rw [show (A ++ B ++ [x]).length = n - 1 by have := hAl.out; have := hBl.out; have := Hnp.out; simp; omega] at olen)
  go_ret2
  rw [e.out]
  exact ⟨_, rfl, (Rd_own o3).1, b3⟩

/-- Do of the document's answer: all words, all lists of cells -/
theorem w_rdo (v : Value) (xs : List Int) (op : Int) (w : World) (h : Rd .u32 w v xs) (hX : ∀ x ∈ xs, 0 ≤ x ∧ x < 4294967296) :
    Calls Tryd.prog 11 #[.int .i64 op, v] w fun e w' => ∃ v1, e = .returned (.tuple #[v1, .int .i64 (doF op xs).2]) ∧ Rd .u32 w' v1 (doF op xs).1 ∧ Below w.heap.size w w' := by
  by_cases hl : 64 < xs.length
  · have e : doF op xs = ([], 1) := by unfold doF; rw [if_pos hl]
    rw [e]
    exact w_rdoA v xs op w h (by omega)
  have hlI : (xs.length : Int) ≤ 64 := by omega
  cases ht : isT op
  · have htn : ¬ isT op = true := by rw [ht]; decide
    by_cases h80 : op = 80
    · subst h80
      have e : doF 80 xs = doQ xs := by unfold doF; rw [if_neg hl, if_neg htn, if_pos rfl]
      rw [e]
      exact w_rdoQ v xs w h hlI
    by_cases h81 : op = 81
    · subst h81
      have e : doF 81 xs = fits (xs ++ [(xs.length : Int)]) := by unfold doF; rw [if_neg hl, if_neg htn, if_neg h80, if_pos rfl]
      rw [e]
      exact w_rdoD v xs w h hlI
    by_cases h78 : op = 78
    · subst h78
      have e : doF 78 xs = doP xs := by unfold doF; rw [if_neg hl, if_neg htn, if_neg h80, if_neg h81, if_pos rfl]
      rw [e]
      cases hf : far xs
      · exact w_rdoP v xs w h hX hlI hf
      · rw [(far_yes xs hf).1]
        exact w_rdoF78 v xs w h hX hlI hf
    by_cases h79 : op = 79
    · subst h79
      have e : doF 79 xs = doR xs := by unfold doF; rw [if_neg hl, if_neg htn, if_neg h80, if_neg h81, if_neg h78, if_pos rfl]
      rw [e]
      cases hf : far xs
      · exact w_rdoR v xs w h hX hlI hf
      · rw [(far_yes xs hf).2]
        exact w_rdoF79 v xs w h hX hlI hf
    · have e : doF op xs = ([], 2) := by unfold doF; rw [if_neg hl, if_neg htn, if_neg h80, if_neg h81, if_neg h78, if_neg h79]
      rw [e]
      exact w_rdoN v xs op w h hlI ht (by simpa using h80) (by simpa using h81) (by simpa using h78) (by simpa using h79)
  · have e : doF op xs = doT xs (effT op) (LB (effS op)) := by unfold doF; rw [if_neg hl, if_pos ht]
    rw [e]
    exact w_rdoT v xs op w h hl ht
end Go.Proofs.YtefiohepglggdaaDoor
