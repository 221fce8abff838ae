/-
  Texts of one proof, laid one behind the other: Rt2 Rdg Rpa Rsh Rp5 Bk Ra1 Ra2 Ra3 Stp.
-/
import Derived.Test.YtfljcfpcokimcaaB8
import Derived.Test.YtfljcfpcokimcaaProg
import Derived.Test.YtfljcfpcokimcaaRows
import Derived.ChangeSame
namespace Go.Proofs.Ytfljcfpcokimcaa
open Go.ChangeShapes Go.WideShapes Go.ChangeAt Go.RowKit
set_option linter.unusedVariables false
set_option linter.unusedSimpArgs false

/-
  Same, find and twin of the document's answer for trees.
-/
set_option maxHeartbeats 2000000 in
set_option maxRecDepth 100000 in
theorem w_r8same (va vb : Value) (xs ys : List Nd) (w : World) (ha : RdT w va xs) (hb : RdT w vb ys) (bx : ∀ x ∈ xs, bytN x) (by' : ∀ x ∈ ys, bytN x) :
    Calls Try.prog 67 #[va, vb] w fun e w' => e = .returned (.bool (eqT xs ys)) ∧ Below w.heap.size w w' := by
  have hla := slr_len ha uN (P := Try.prog)
  have hlb := slr_len hb uN (P := Try.prog)
  have hma := slr_max ha
  have hmb := slr_max hb
  unfold maxLen at hma hmb
  by_cases hl : xs.length = ys.length
  · have hn : ((xs.length : Int) != (ys.length : Int)) = false := by simp [hl]
    have Hl := hid hl
    clear hl
    go_enter Try.func67, Try.ntmps67
    go_wp2_with fail
    go_loopw [5] (fun i wx => ∃ k : Nat, (k : Int) ≤ xs.length ∧ i = .int .i64 k ∧ Hid (xs.take k = ys.take k) ∧ Below w.heap.size w wx) (fun i _ => (xs.length - intOf i).toNat)
    case atStart => exact ⟨0, by omega, rfl, hid (by simp), Below.refl _ _⟩
    case round =>
      obtain ⟨j, hj, rfl, ht, hg⟩ := hrel
      by_cases hlt : (j : Int) < xs.length
      · have hka : j < xs.length := by omega
        have hkb : j < ys.length := by have := Hl.out; omega
        obtain ⟨b1, o1, N1, u1, p1, c1, r1, f0, f1, f2, f3, f4, e1, hu1, hp1, hc1⟩ := nod_at (ha.below hg) j hka
        obtain ⟨b2, o2, N2, u2, p2, c2, r2, g0, g1, g2, g3, g4, e2, hu2, hp2, hc2⟩ := nod_at (hb.below hg) j hkb
        have cs := fun W (g : Below wr.heap.size wr W) => w_r8node xs[j] ys[j] N1 N2 u1 p1 c1 u2 p2 c2 W e1 e2 (hu1.below g) (hu2.below g) (hp1.below g (propR_below g)) (hp2.below g (propR_below g)) (hc1.below g) (hc2.below g) (bx _ (List.getElem_mem hka)) (by' _ (List.getElem_mem hkb))
        obtain ⟨X, hX⟩ : ∃ X, xs[j].2.2.1 = X := ⟨_, rfl⟩
        obtain ⟨Y, hY⟩ : ∃ Y, ys[j].2.2.1 = Y := ⟨_, rfl⟩
        rw [hX] at f2
        rw [hY] at g2
        simp only [hX, hY] at cs
        by_cases hxy : xs[j] = ys[j]
        · have ht2 : Hid (xs.take (j + 1) = ys.take (j + 1)) := by
            show _ = _
            rw [List.take_succ_eq_append_getElem hka, List.take_succ_eq_append_getElem hkb, ht.out, hxy]
          simp only [eqN_of hxy] at cs
          clear hxy e1 e2 hX hY
          go_wp2_with fail
          go_region_with (go_at_call 85; refine (cs _ (below_drewN (Below.refl _ _) 1)).mono ?_; rintro e q1 ⟨rfl, b1⟩; have bb := below_trans (show Below w.heap.size w wr.drew from below_drewN hg 1) b1)
          all_goals (
            go_wp2_with fail
            go_roundw
            case rel => exact ⟨j + 1, by omega, by go_num, ht2, by first | exact bb | exact below_drewN bb _⟩
            case measure => simp [intOf]; omega)
        · have hf : Hid (eqT xs ys = false) := by
            show _ = _
            apply eqT_not
            intro h
            subst h
            exact hxy rfl
          simp only [eqN_not hxy] at cs
          clear hxy e1 e2 hX hY
          go_wp2_with fail
          go_region_with (go_at_call 85; refine (cs _ (below_drewN (Below.refl _ _) 1)).mono ?_; rintro e q1 ⟨rfl, b1⟩; have bb := below_trans (show Below w.heap.size w wr.drew from below_drewN hg 1) b1)
          all_goals (
            go_wp2_with fail
            go_ret
            exact ⟨ret_b hf.out.symm, by first | exact bb | exact below_drewN bb _⟩)
      · have hf : Hid (eqT xs ys = true) := by
          show _ = _
          apply eqT_of
          have := ht.out
          rwa [List.take_of_length_le (by omega), List.take_of_length_le (by have := Hl.out; omega)] at this
        go_wp2_with fail
        go_ret
        exact ⟨ret_b hf.out.symm, hg⟩
  · have hf : Hid (eqT xs ys = false) := eqT_not (fun h => hl (by rw [h]))
    have hn : ((xs.length : Int) != (ys.length : Int)) = true := by simp; omega
    clear hl
    go_enter Try.func67, Try.ntmps67
    go_wp2_with fail
    go_ret
    exact ⟨ret_b hf.out.symm, Below.refl _ _⟩

/-- the number of a property, or -1 -/
def fdI (o : Option Nat) : Int := match o with
  | none => -1
  | some k => (k : Nat)

set_option maxHeartbeats 1000000 in
theorem w_r8find (v : Value) (l : List Pp) (s : ByteArray) (w : World) (h : SlR 2 propR w v l) (bl : ∀ x ∈ l, bytesL x.1) :
    Calls Try.prog 80 #[v, .string s] w fun e w' => e = .returned (.int .i64 (fdI (pfF l (L s)))) ∧ w' = w := by
  have hl := slr_len h uR (P := Try.prog)
  have hm := slr_max h
  unfold maxLen at hm
  obtain ⟨R, hR⟩ : ∃ R, fdI (pfF l (L s)) = R := ⟨_, rfl⟩
  rw [hR]
  have HR := hid hR
  clear hR
  go_enter Try.func80, Try.ntmps80
  go_wp2_with fail
  go_loop [5] (fun I => ∃ k : Nat, (k : Int) ≤ l.length ∧ I = .int .i64 k ∧ Hid (∀ j (hj : j < k) (g : j < l.length), ¬ l[j].1 = L s)) (fun I => (l.length - intOf I).toNat)
  case atStart => exact ⟨0, by omega, rfl, hid (fun j hj => by omega)⟩
  case round =>
    obtain ⟨k, hk, rfl, hp⟩ := hrel
    by_cases hlt : (k : Int) < l.length
    · have hkl : k < l.length := by omega
      obtain ⟨b, o, nm, vd, r, f0, f1, e0, _⟩ := prp_at8 h k hkl
      have hq := str_eq8 nm s _ (L s) (bl _ (List.getElem_mem hkl)) (LB_bytes s) e0 (nums_LB s)
      by_cases hx : l[k].1 = L s
      · have hf : Hid (R = k) := by
          show _ = _
          rw [← HR.out, pf_hit hkl hx (fun j hj => hp.out j hj (by omega))]
          rfl
        rw [decide_eq_true hx] at hq
        clear hx e0
        go_wp2_with fail
        go_ret
        rw [hf.out]
        exact ⟨rfl, rfl⟩
      · rw [decide_eq_false hx] at hq
        have hp2 : Hid (∀ j (hj : j < k + 1) (g : j < l.length), ¬ l[j].1 = L s) := by
          show ∀ j _ _, _
          intro j hj g
          by_cases hjk : j < k
          · exact hp.out j hjk g
          · have : j = k := by omega
            subst this
            exact hx
        clear hx e0
        go_wp2_with fail
        exact ⟨⟨k + 1, by omega, by go_num, hp2⟩, by simp [intOf]; omega⟩
    · have hf : Hid (R = -1) := by
        show _ = _
        have : pfF l (L s) = none := by
          rw [pf_none]
          intro x hx
          obtain ⟨j, hj, rfl⟩ := List.getElem_of_mem hx
          exact hp.out j (by omega) hj
        rw [← HR.out, this]
        rfl
      go_wp2_with fail
      go_ret
      rw [hf.out]
      exact ⟨rfl, rfl⟩

set_option maxHeartbeats 2000000 in
set_option maxRecDepth 100000 in
theorem w_r8twin (v : Value) (t : List Nd) (c : Nat) (p : Int) (s : ByteArray) (vu : Value) (un : List Int) (w : World) (h : RdT w v t) (hu : Rd .u32 w vu un) (bt : ∀ x ∈ t, bytN x) (hc : c ≤ t.length) :
    Calls Try.prog 79 #[v, .int .i64 c, .int .i64 p, .string s, vu] w fun e w' => e = .returned (.bool (twF (t.take c) p (L s) un)) ∧ Dr w w' := by
  have hm := slr_max h
  unfold maxLen at hm
  obtain ⟨R, hR⟩ : ∃ R, twF (t.take c) p (L s) un = R := ⟨_, rfl⟩
  rw [hR]
  have HR := hid hR
  clear hR
  go_enter Try.func79, Try.ntmps79
  go_wp2_with fail
  go_loopw [11] (fun I wx => ∃ k : Nat, (k : Int) ≤ c ∧ I = .int .i64 k ∧ Hid (twF (t.take k) p (L s) un = false) ∧ Dr w wx) (fun I _ => (c - intOf I).toNat)
  case atStart => exact ⟨0, by omega, rfl, hid rfl, dr_refl _⟩
  case round =>
    obtain ⟨k, hk, rfl, hp, hg⟩ := hrel
    by_cases hlt : (k : Int) < c
    · have hkl : k < t.length := by omega
      obtain ⟨b1, o1, N1, u1, p1, c1, r1, f0, f1, f2, f3, f4, e1, hu1, hp1, hc1⟩ := nod_at (h.below (dr_below hg)) k hkl
      obtain ⟨ua, uq, rfl⟩ := rd_slice hu1
      have hq := str_eq8 N1 s _ (L s) (bt _ (List.getElem_mem hkl)).1 (LB_bytes s) e1 (nums_LB s)
      have cu := w_r3sameQ _ _ _ _ wr hu1 (hu.below (dr_below hg))
      have hsn : twF (t.take (k + 1)) p (L s) un = (twF (t.take k) p (L s) un || (decide (t[k].2.2.1 = p) && (decide (t[k].1 = L s) && decide (t[k].2.1 = un)))) := by
        rw [List.take_succ_eq_append_getElem hkl]
        unfold twF
        rw [List.any_append]
        simp
      have yes : (t[k].2.2.1 = p ∧ t[k].1 = L s ∧ t[k].2.1 = un) → Hid (R = true) := by
        rintro ⟨g1, g2, g3⟩
        show _ = _
        rw [← HR.out]
        unfold twF
        rw [List.any_eq_true]
        exact ⟨t[k], by rw [List.mem_take_iff_getElem]; exact ⟨k, by omega, rfl⟩, by simp [g1, g2, g3]⟩
      have no : ¬ (t[k].2.2.1 = p ∧ t[k].1 = L s ∧ t[k].2.1 = un) → Hid (twF (t.take (k + 1)) p (L s) un = false) := by
        intro g
        show _ = _
        rw [hsn, hp.out, Bool.false_or, Bool.eq_false_iff]
        intro hh
        simp only [Bool.and_eq_true, decide_eq_true_eq] at hh
        exact g hh
      obtain ⟨X, hX⟩ : ∃ X, t[k].2.2.1 = X := ⟨_, rfl⟩
      rw [hX] at f2
      by_cases h1 : t[k].2.2.1 = p
      · have q1 : (X == p) = true := by rw [← hX]; simpa using h1
        by_cases h2 : t[k].1 = L s
        · rw [decide_eq_true h2] at hq
          by_cases h3 : t[k].2.1 = un
          · rw [decide_eq_true h3] at cu
            have hf := yes ⟨h1, h2, h3⟩
            clear h1 h2 h3 yes no hsn e1 hX
            go_wp2_with (go_at_call 65; refine cu.mono ?_; rintro e r9 ⟨rfl, d9⟩)
            go_ret
            obtain ⟨m, rfl⟩ := d9
            exact ⟨ret_b hf.out.symm, dr_more hg m⟩
          · rw [decide_eq_false h3] at cu
            have hf := no (fun g => h3 g.2.2)
            clear h1 h2 h3 yes no hsn e1 hX
            go_wp2_with (go_at_call 65; refine cu.mono ?_; rintro e r9 ⟨rfl, d9⟩)
            obtain ⟨m, rfl⟩ := d9
            go_roundw
            case rel => exact ⟨k + 1, by omega, by go_num, hf, dr_more hg m⟩
            case measure => simp [intOf]; omega
        · rw [decide_eq_false h2] at hq
          have hf := no (fun g => h2 g.2.1)
          clear h1 h2 yes no hsn e1 hX cu
          go_wp2_with fail
          go_roundw
          case rel => exact ⟨k + 1, by omega, by go_num, hf, hg⟩
          case measure => simp [intOf]; omega
      · have q1 : (X == p) = false := by rw [← hX]; simpa using h1
        have hf := no (fun g => h1 g.1)
        clear h1 yes no hsn e1 hX cu
        go_wp2_with fail
        go_roundw
        case rel => exact ⟨k + 1, by omega, by go_num, hf, hg⟩
        case measure => simp [intOf]; omega
    · have hf : Hid (R = false) := by
        show _ = _
        rw [← HR.out, ← hp.out, show k = c by omega]
      go_wp2_with fail
      go_ret
      exact ⟨ret_b hf.out.symm, hg⟩

/-
  Small and Value of the document's answer return the plain functions, for all bytes and bases.
-/
/-- the constant text of all digits -/
def dgs : ByteArray := ⟨#[48, 49, 50, 51, 52, 53, 54, 55, 56, 57, 97, 98, 99, 100, 101, 102, 103, 104, 105, 106, 107, 108, 109, 110, 111, 112, 113, 114, 115, 116, 117, 118, 119, 120, 121, 122]⟩
theorem dgs_at : ∀ k : Fin 36, ((dgs.data[k.val]!).toNat : Int) = dg k.val := by decide
theorem dgs_size : dgs.size = 36 := by decide
theorem dgs_get (k : Nat) (h : k < dgs.size) : ((dgs[k]'h).toNat : Int) = dg k := by
  have e := dgs_at ⟨k, by rw [dgs_size] at h; exact h⟩
  have h2 : k < dgs.data.size := h
  simp only [getElem!_pos dgs.data k h2] at e
  exact e
theorem run_dgs0 (k : Nat) (hk : (k : Int) < 36) (w : World) : (Instr.index 9 (.string dgs) (.int .i64 k)).run Try.prog w = .ok (.int .u8 (dg k)) w := by
  have hs : k < dgs.size := by rw [dgs_size]; omega
  rw [run_index_string _ _ _ _ _ Try.underlying9, dif_pos ⟨by omega, by rw [dgs_size]; omega⟩]
  simp only [Int.toNat_natCast, dgs_get k hs]
theorem run_dgs (k : Nat) (hk : (k : Int) < 36) (w : World) : (Instr.index 9 (.string ⟨#[48, 49, 50, 51, 52, 53, 54, 55, 56, 57, 97, 98, 99, 100, 101, 102, 103, 104, 105, 106, 107, 108, 109, 110, 111, 112, 113, 114, 115, 116, 117, 118, 119, 120, 121, 122]⟩) (.int .i64 k)).run Try.prog w = .ok (.int .u8 (dg k)) w :=
  run_dgs0 k hk w

/-
  Parse of the document's answer returns the plain reading of a text, for all texts and bases.
-/


/-
  Show and Signed of the document's answer return the plain texts, for all numbers and bases.
-/
/-- one digit cut out of the constant text -/
def one (r : Nat) : ByteArray := dgs.extract r (r + 1)
theorem one_L (r : Nat) (h : r < 36) : L (one r) = [dg r] := by
  unfold one
  rw [L_extract dgs r (r + 1) (by rw [dgs_size]; omega), L_drop dgs r (by rw [dgs_size]; omega), dgs_get r (by rw [dgs_size]; omega)]
  simp
theorem run_one0 (r : Nat) (h : (r : Int) < 36) (w : World) : (Instr.slice 9 (.string dgs) (some (.int .i64 r)) (some (.int .i64 ((r : Int) + 1))) none).run Try.prog w = .ok (.string (one r)) w := by
  rw [run_slice_string _ _ _ _ _ _ _ Try.underlying9 (by omega) (by omega) (by rw [dgs_size]; omega)]
  rfl
theorem run_one (r : Nat) (h : (r : Int) < 36) (w : World) : (Instr.slice 9 (.string ⟨#[48, 49, 50, 51, 52, 53, 54, 55, 56, 57, 97, 98, 99, 100, 101, 102, 103, 104, 105, 106, 107, 108, 109, 110, 111, 112, 113, 114, 115, 116, 117, 118, 119, 120, 121, 122]⟩) (some (.int .i64 r)) (some (.int .i64 ((r : Int) + 1))) none).run Try.prog w = .ok (.string (one r)) w :=
  run_one0 r h w
theorem pow_split (k : Nat) (h : k < 32) : (2 : Int) ^ (32 - k) = 2 ^ (32 - (k + 1)) * 2 := by
  rw [show 32 - k = (32 - (k + 1)) + 1 by omega, Int.pow_succ]

/-- what holds of the loop that shows a number: k digits are written, m is left -/
def ShInv (b n : Int) (k : Nat) (m : Int) (t : ByteArray) : Prop :=
  (0 < m ∨ k = 0 → sh b n = shF b (32 - k) m ++ L t) ∧ (m = 0 ∧ 0 < k → sh b n = L t) ∧ m < 2 ^ (32 - k) ∧ t.size = k
theorem ShInv_start (b n : Int) (h1 : n < 4294967296) : ShInv b n 0 n ⟨#[]⟩ :=
  ⟨fun _ => by simp [sh, L], fun h => by omega, by simpa using h1, rfl⟩
theorem ShInv_step (b n : Int) (k : Nat) (m : Int) (t : ByteArray) (r : Nat) (b0 : 2 ≤ b) (b1 : b ≤ 36) (hk : k < 32) (m0 : 0 ≤ m) (hm : 0 < m ∨ k = 0) (hr : m % b = r) (h : ShInv b n k m t) :
    ShInv b n (k + 1) (m / b) (one r ++ t) := by
  obtain ⟨i1, i2, i3, i4⟩ := h
  obtain ⟨q0, q1, r0, r1⟩ := div_half m b m0 b0
  have hs := i1 hm
  have hL : L (one r ++ t) = dg r :: L t := by rw [L_app, one_L r (by omega)]; rfl
  have hp := pow_split k hk
  have hz : (one r ++ t).size = k + 1 := by
    have e1 := L_len (one r ++ t)
    rw [hL, List.length_cons, L_len] at e1
    omega
  rw [show 32 - k = (32 - (k + 1)) + 1 by omega] at hs
  by_cases c : m < b
  · have e0 : m / b = 0 := Int.ediv_eq_zero_of_lt m0 c
    have e1 : m % b = m := Int.emod_eq_of_lt m0 c
    rw [shF_lo b m _ c] at hs
    unfold ShInv
    rw [hL, e0]
    refine ⟨fun h => by omega, fun _ => ?_, Int.pow_pos (by decide), hz⟩
    rw [hs, ← e1, hr]; rfl
  · have qp := div_pos m b b0 c
    rw [shF_hi b m _ c, hr] at hs
    unfold ShInv
    rw [hL]
    refine ⟨fun _ => ?_, fun h => by omega, by omega, hz⟩
    rw [hs]; simp
theorem ShInv_end (b n : Int) (k : Nat) (m : Int) (t : ByteArray) (hk : 0 < k) (hm : m ≤ 0) (m0 : 0 ≤ m) (h : ShInv b n k m t) : t = toB (sh b n) :=
  L_eq t _ (h.2.1 ⟨by omega, hk⟩).symm
theorem ShInv_last (b n m : Int) (t : ByteArray) (m0 : 0 ≤ m) (h : ShInv b n 32 m t) : m ≤ 0 := by
  have := h.2.2.1; simp at this; omega

/-- what Show answers -/
def shT (n b : Int) : ByteArray := if b < 2 ∨ 36 < b then ⟨#[]⟩ else toB (sh b n)
def shE (b : Int) : Int := if b < 2 ∨ 36 < b then 1 else 0

/-- what Signed answers -/
def sgT (n b : Int) : ByteArray := if b < 2 ∨ 36 < b then ⟨#[]⟩ else toB (sg b n)

theorem sh_size (n b : Int) : (shT n b).size ≤ 33 := by
  unfold shT
  split
  · decide
  · rw [toB_size]; have := shF_len b 32 n; unfold sh; omega
theorem sg_size (n b : Int) : (sgT n b).size ≤ 33 := by
  unfold sgT
  split
  · decide
  · rw [toB_size]; unfold sg
    split
    · have := shF_len b 32 n; unfold sh; omega
    · have := shF_len b 32 (4294967296 - n); unfold sh; simp; omega
theorem shT_back (n b : Int) (n0 : 0 ≤ n) (n1 : n < 4294967296) (b0 : 2 ≤ b) (b1 : b ≤ 36) : prs (L (shT n b)) b = (n, 0) := by
  unfold shT; rw [if_neg (by omega), sh_L b n b0 b1 n0 n1]; exact sh_back b n b0 b1 n0 n1
theorem sgT_back (n b : Int) (n0 : 0 ≤ n) (n1 : n < 4294967296) (b0 : 2 ≤ b) (b1 : b ≤ 36) : prs (L (sgT n b)) b = (n, 0) := by
  unfold sgT; rw [if_neg (by omega), sg_bytes b n b0 b1 n0 n1]; exact sg_back b n b0 b1 n0 n1
theorem shT_same (n m b : Int) (n0 : 0 ≤ n) (n1 : n < 4294967296) (m0 : 0 ≤ m) (m1 : m < 4294967296) (b0 : 2 ≤ b) (b1 : b ≤ 36) : ((shT n b).toList == (shT m b).toList) = (n == m) := by
  have h : (shT n b).toList = (shT m b).toList ↔ n = m := by
    constructor
    · intro h
      rw [ByteArray.toList_eq, ByteArray.toList_eq] at h
      have : L (shT n b) = L (shT m b) := by unfold L; rw [h]
      unfold shT at this
      rw [if_neg (by omega), if_neg (by omega), sh_L b n b0 b1 n0 n1, sh_L b m b0 b1 m0 m1] at this
      exact (sh_inj b n m b0 b1 n0 n1 m0 m1).1 this
    · intro h; rw [h]
  rw [Bool.eq_iff_iff]
  simp [h]

/-
  ParseUnit and ShowUnit of the document's answer for properties.
-/
theorem uU : Try.prog.underlying 24 = some (.slice (Try.prog.elem 24)) := by kernel_rfl
theorem eU : Try.prog.elem 24 = 28 := by kernel_rfl
theorem zU (w : World) : (sizeOf (Try.prog.elem 24)).run Try.prog w = .ok 1 w := by rw [eU]; exact Try.sizeOf28 w

/-- the piece that is being read, and the pieces from it on -/
def pcAt (X : List Int) (f k : Nat) : List Int := (X.drop f).take (k - f)
def spR (X : List Int) (f k : Nat) : List (List Int) := if k ≤ X.length then spl 44 (pcAt X f k) (X.drop k) else []
theorem pcAt_len (X : List Int) (f k : Nat) (h1 : f ≤ k) (h2 : k ≤ X.length) : (pcAt X f k).length = k - f := by simp [pcAt]; omega
theorem pcAt_bytes {X : List Int} (h : bytesL X) (f k : Nat) : bytesL (pcAt X f k) := bytes_take (bytes_drop h f) _
theorem spR_on (X : List Int) (f k : Nat) (h1 : f ≤ k) (h2 : k < X.length) (hc : ¬ X[k] = 44) : spR X f (k + 1) = spR X f k := by
  unfold spR
  rw [if_pos (by omega), if_pos (by omega), List.drop_eq_getElem_cons h2, spl, if_neg hc]
  congr 1
  unfold pcAt
  rw [show k + 1 - f = (k - f) + 1 by omega, List.take_succ_eq_append_getElem (by simp; omega)]
  congr 2
  simp
  congr 1
  omega
theorem spR_cut (X : List Int) (f k : Nat) (h1 : f ≤ k) (h2 : k < X.length) (hc : X[k] = 44) : spR X f k = pcAt X f k :: spR X (k + 1) (k + 1) := by
  unfold spR
  rw [if_pos (by omega), if_pos (by omega), List.drop_eq_getElem_cons h2, spl, if_pos hc]
  simp [pcAt]
theorem spR_end (X : List Int) (f k : Nat) (h2 : k = X.length) : spR X f k = pcAt X f k :: spR X (k + 1) (k + 1) := by
  unfold spR
  rw [if_pos (by omega), if_neg (by omega), h2, List.drop_of_length_le (Nat.le_refl _)]
  rfl
theorem pun_bad (X : List Int) (done : List (List Int)) (p : List Int) (r : List (List Int)) (h : spl 44 [] X = done ++ (p :: r)) (hp : pcOk p = false) : punF X = ([], 15) := by
  unfold punF
  rw [if_pos]
  rw [h]
  simp [hp]
theorem pun_many (X : List Int) (done : List (List Int)) (h : spl 44 [] X = done) (ha : done.all pcOk = true) (hl : 4 < done.length) : punF X = ([], 3) := by
  unfold punF
  rw [h, ha, if_neg (by decide), if_pos hl]
theorem pun_ok (X : List Int) (done : List (List Int)) (h : spl 44 [] X = done) (ha : done.all pcOk = true) (hl : ¬ 4 < done.length) : punF X = ((done.take 4).map (num 16), 0) := by
  unfold punF
  rw [h, ha, if_neg (by decide), if_neg hl, List.take_of_length_le (by omega)]
theorem run_part {w : World} (s : ByteArray) (f k : Nat) (h1 : f ≤ k) (h2 : k ≤ s.size) : (Instr.slice 9 (.string s) (some (.int .i64 (f : Int))) (some (.int .i64 (k : Int))) none).run Try.prog w = .ok (.string (s.extract f k)) w := by
  simp [Instr.slice, Instr.sliceBounds, run_underlying Try.underlying9, run_sliceBound, h1, h2]
theorem L_part (s : ByteArray) (f k : Nat) (h2 : k ≤ s.size) : L (s.extract f k) = pcAt (L s) f k := L_extract s f k h2

/-- a row of cells of the call's own -/
def OwnU (base : Nat) (w : World) (v : Value) (xs : List Int) : Prop := w.ownsRow base 28 1 v xs.length (xs.map (Value.int .u32))

/-
  What a bound on the number of values and letters says of a slice's length.
-/
theorem bk_pos {H : Type} : ∀ d : DataW H, 1 ≤ Rows.uptoBulk d
  | .lit (.string _) => by simp [Rows.uptoBulk]
  | .lit (.int _ _) => by simp [Rows.uptoBulk]
  | .lit (.bool _) => by simp [Rows.uptoBulk]
  | .lit (.float _ _) => by simp [Rows.uptoBulk]
  | .lit .nil => by simp [Rows.uptoBulk]
  | .nil => by simp [Rows.uptoBulk]
  | .ptr _ => by simp [Rows.uptoBulk]
  | .slice _ _ => by simp [Rows.uptoBulk]
  | .agg _ => by simp [Rows.uptoBulk]
  | .iface _ _ => by simp [Rows.uptoBulk]
  | .map _ => by simp [Rows.uptoBulk]
  | .held _ => by simp [Rows.uptoBulk]
theorem bk_len {H : Type} : ∀ l : List (DataW H), l.length ≤ Rows.uptoBulkAll l
  | [] => Nat.zero_le _
  | d :: r => by
    have h1 := bk_pos d
    have h2 := bk_len r
    simp only [Rows.uptoBulkAll, List.length_cons]
    omega
theorem bk_mem {H : Type} {d : DataW H} : ∀ {l : List (DataW H)}, d ∈ l → Rows.uptoBulk d ≤ Rows.uptoBulkAll l
  | x :: r, h => by
    simp only [Rows.uptoBulkAll]
    rcases List.mem_cons.1 h with rfl | h
    · omega
    · have := bk_mem h
      omega
theorem bk_slice {H : Type} (a b : List (DataW H)) : a.length + b.length ≤ Rows.uptoBulk (.slice a b) := by
  have h1 := bk_len a
  have h2 := bk_len b
  simp only [Rows.uptoBulk]
  omega
theorem bk_string {H : Type} (l : List UInt8) : l.length ≤ Rows.uptoBulk (DataW.lit (H := H) (.string l)) := by
  simp [Rows.uptoBulk]

/-
  Place and Tail of the document's answer for paths.
-/
/-- the place of the first c from i on -/
def pcF (l : List Int) (i : Nat) (c : Int) : Nat := i + (upTo c (l.drop i)).length
theorem pc_le (l : List Int) (i : Nat) (c : Int) (h : i ≤ l.length) : pcF l i c ≤ l.length := by
  have := upTo_len c (l.drop i)
  rw [List.length_drop] at this
  unfold pcF
  omega
theorem pc_ge (l : List Int) (i : Nat) (c : Int) : i ≤ pcF l i c := by unfold pcF; omega
theorem pc_end (l : List Int) (c : Int) : pcF l l.length c = l.length := by simp [pcF, upTo]
theorem pc_hit (l : List Int) (i : Nat) (c : Int) (r : List Int) (h : l.drop i = c :: r) : pcF l i c = i := by unfold pcF; rw [h]; simp [upTo]
theorem pc_miss (l : List Int) (i : Nat) (c x : Int) (r : List Int) (h : l.drop i = x :: r) (hx : ¬ x = c) : pcF l i c = pcF l (i + 1) c := by
  have e : l.drop (i + 1) = r := by rw [← List.drop_drop, h]; rfl
  unfold pcF
  rw [h, e, upTo, if_neg hx]
  simp
  omega

set_option maxHeartbeats 1000000 in
set_option maxRecDepth 100000 in
theorem w_place (s : ByteArray) (i : Nat) (c : Int) (w : World) (hs : s.size ≤ maxLen) (hi : i ≤ s.size) (c0 : 0 ≤ c) (c1 : c < 256) :
    Calls Try.prog 81 #[.string s, .int .i64 i, .int .u8 c] w fun e w' => e = .returned (.int .i64 (pcF (L s) i c)) ∧ w' = w := by
  have hs2 := hs
  unfold maxLen at hs2
  go_enter Try.func81, Try.ntmps81
  go_wp2_with fail
  go_loopw [1] (fun I wx => ∃ (k : Nat), (k : Int) ≤ s.size ∧ I = .int .i64 k ∧ Hid (pcF (L s) i c = pcF (L s) k c) ∧ wx = w) (fun I _ => (s.size - intOf I).toNat)
  case atStart => exact ⟨i, by omega, rfl, hid rfl, rfl⟩
  case round =>
    obtain ⟨k, hk, rfl, hp, hwx⟩ := hrel
    subst hwx
    by_cases hlt : (k : Int) < s.size
    · have hkk : k < s.size := by omega
      obtain ⟨x, hx⟩ : ∃ x, (s[k].toNat : Int) = x := ⟨_, rfl⟩
      have hrun := run_at (w := wr) s k hkk hs
      have hd := L_drop s k hkk
      rw [hx] at hrun hd
      by_cases hc : x = c
      · subst hc
        have hf : Hid (pcF (L s) i x = k) := by show _ = _; rw [hp.out, pc_hit _ _ _ _ hd]
        have hne : (x != x) = false := by simp
        clear hx hd
        go_wp2_with fail
        go_ret
        exact ⟨ret_i (by rw [hf.out]), rfl⟩
      · have hf : Hid (pcF (L s) i c = pcF (L s) (k + 1) c) := by show _ = _; rw [hp.out, pc_miss _ _ _ _ _ hd hc]
        have hne : (x != c) = true := by simpa using hc
        clear hx hd hc
        go_wp2_with fail
        go_roundw
        case rel => exact ⟨k + 1, by omega, by go_num, hf, by first | rfl | trivial⟩
        case measure => simp [intOf]; omega
    · obtain rfl : k = s.size := by omega
      have hf : Hid (pcF (L s) i c = s.size) := by
        show _ = _
        have := pc_end (L s) c
        rw [L_len] at this
        rw [hp.out, this]
      go_wp2_with fail
      go_ret
      exact ⟨ret_i (by rw [hf.out]), rfl⟩

/-- behind the last bar -/
def frmA (i f : Nat) : List Int → Nat
  | [] => f
  | c :: r => frmA (i + 1) (if c = 47 then i + 1 else f) r
theorem frm_le : ∀ (l : List Int) (i f : Nat), f ≤ i → frmA i f l ≤ i + l.length
  | [], i, f, h => by simpa [frmA] using h
  | c :: r, i, f, h => by
    have := frm_le r (i + 1) (if c = 47 then i + 1 else f) (by split <;> omega)
    simp only [frmA, List.length_cons]
    omega
/-- what Tail answers -/
def tlF (l : List Int) : List Int × List Int := if pcF l (frmA 0 0 l) 58 = l.length then (l, []) else (l.take (pcF l (frmA 0 0 l) 58), l.drop (pcF l (frmA 0 0 l) 58 + 1))

/-
  One step of a path, as the document's answer parses it.
-/
theorem pc0 (l : List Int) (c : Int) : pcF l 0 c = (upTo c l).length := by simp [pcF]
/-- the answer of a step that is taken -/
def stepA (s : ByteArray) (base : Nat) (x : Sp) (e : Ending) (w' : World) : Prop :=
  ∃ v nm ar, e = .returned (.tuple #[.agg #[.string nm, v, .string ar], .bool true]) ∧ L nm = x.1 ∧ L ar = x.2.2 ∧ OwnU base w' v x.2.1

/-
  Parse of the document's answer for paths.
-/


/-
  Slices of steps that came in: what they read as, and how much they hold.
-/


end Go.Proofs.Ytfljcfpcokimcaa
