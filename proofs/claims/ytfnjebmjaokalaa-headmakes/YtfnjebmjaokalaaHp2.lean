/-
  Make and Check of the landed package head: what they return, for all bytes.
-/
import Derived.Test.YtfnjebmjaokalaaHp1
import Derived.Laws.MakeOwn
namespace Go.Proofs.Ytfnjebmjaokalaa
open Go.ChangeShapes Go.WideShapes Go.ChangeAt Go.RowKit
set_option linter.unusedVariables false
set_option linter.unusedSimpArgs false

def OwB (base : Nat) (w : World) (v : Value) (B : List Int) : Prop := w.ownsRow base 5 1 v B.length (B.map (Value.int .u8))
theorem OwB.below {base : Nat} {w w' : World} {v : Value} {B : List Int} (h : OwB base w v B) (g : Below w.heap.size w w') : OwB base w' v B := own_below h g
theorem OwB.app {base : Nat} {w0 w w' : World} {v : Value} {B : List Int} (h : OwB base w v B) (hb : base ≤ w.heap.size) (b : Below base w0 w) (g : w.grownBy w' v.ownBlock) : Below base w0 w' :=
  b.grown g hb (fun k hk => (h.lt k hk).1)

set_option maxHeartbeats 2000000 in
theorem w_pmake (v : Value) (xs : List Int) (wide : Bool) (w : World) (h : Rd .u8 w v xs) (hb : bytesL xs) (hz : xs.length ≤ 140737488355328) :
    Calls Try.prog 8 #[v, .bool wide] w fun e w' => ∃ v', e = .returned (.tuple #[v', .int .i64 (makF xs wide).2]) ∧ OwB w.heap.size w' v' (makF xs wide).1 ∧ Below w.heap.size w w' := by
  have hlen := rd_len h uB (P := Try.prog)
  by_cases hl : (8184 : Int) < xs.length
  · have e : makF xs wide = ([], 3) := by unfold makF; rw [if_pos (by omega)]
    rw [e]
    clear e
    go_enter Try.func8, Try.ntmps8
    go_wp2_with fail
    go_ret2
    exact ⟨_, rfl, World.ownsRow_nil _ _ _ _, Below.refl _ _⟩
  · have e : makF xs wide = (hdF xs wide ++ xs, 0) := by unfold makF; rw [if_neg (by omega)]
    rw [e]
    clear e
    obtain ⟨i0, hi, hz0, hz1, hz2⟩ := info_parts infoU8
    have cS := w_psum v xs w h hb hz
    have hsb := sum_bd xs
    obtain ⟨m0, m1⟩ := hsb
    have hH : Hid (hdF xs wide = [mkF wide, 8] ++ [sumF xs / 256, sumF xs % 256] ++ [(8 + (xs.length : Int)) / 16777216, (8 + (xs.length : Int)) / 65536 % 256, (8 + (xs.length : Int)) / 256 % 256, (8 + (xs.length : Int)) % 256]) := by
      show _ = _
      simp only [hdF, beB4, List.cons_append, List.nil_append, List.cons.injEq, and_true, true_and]
      omega
    obtain ⟨H, hHe⟩ : ∃ H, hdF xs wide = H := ⟨_, rfl⟩
    obtain ⟨s, hs⟩ : ∃ s, sumF xs = s := ⟨_, rfl⟩
    obtain ⟨M, hM⟩ : ∃ M, mkF wide = M := ⟨_, rfl⟩
    have cM := fun w => w_pmark wide w
    rw [hM] at hH cM
    rw [hs] at cS hH m0 m1
    rw [hHe] at hH ⊢
    clear hs hHe hM
    have w1 : IntKind.u8.wrap (s / 256) = s / 256 := by rw [IntKind.wrap_u8]; omega
    have w2 : IntKind.u8.wrap s = s % 256 := by rw [IntKind.wrap_u8]
    obtain ⟨n, hn⟩ : ∃ n : Nat, n = 8 + xs.length := ⟨_, rfl⟩
    have hni : (8 + (xs.length : Int)) = n := by omega
    rw [hni] at hH
    have hnl : (n : Int) ≤ 8192 := by omega
    have Hn := hid hn
    have Hni := hid hni
    have hnw : IntKind.i64.wrap (8 + (xs.length : Int)) = (n : Int) := by rw [hni, IntKind.wrap_i64]; omega
    have w3 : IntKind.u8.wrap ((n : Int) / 16777216) = (n : Int) / 16777216 := by rw [IntKind.wrap_u8]; omega
    have w4 : IntKind.u8.wrap ((n : Int) / 65536) = (n : Int) / 65536 % 256 := by rw [IntKind.wrap_u8]
    have w5 : IntKind.u8.wrap ((n : Int) / 256) = (n : Int) / 256 % 256 := by rw [IntKind.wrap_u8]
    have w6 : IntKind.u8.wrap (n : Int) = (n : Int) % 256 := by rw [IntKind.wrap_u8]
    obtain ⟨wm, hmk, how, hgw⟩ := run_make_own (P := Try.prog) w w.heap.size 22 5 i0 (.int .u8 0) 1 Try.underlying22 hi hz0 hz1 .i64 .i64 n (by rw [hz2]; omega) (by unfold maxLen; omega) (Nat.le_refl _)
    have bm : Below w.heap.size w wm := below_grown (Below.refl _ _) hgw (fun k hk => by cases hk)
    obtain ⟨U0, hU0⟩ : ∃ U, Value.slice (some ⟨w.heap.size, 0, none⟩) 0 n = U := ⟨_, rfl⟩
    rw [hU0] at hmk how
    have o0 : OwB w.heap.size wm U0 [] := how
    clear hU0 hgw hn hni how
    go_enter Try.func8, Try.ntmps8
    go_wp2_with (first
      | (go_at_call 11; refine cS.mono ?_; rintro e q0 ⟨rfl, hw⟩; obtain rfl := hw.symm)
      | (go_at_call 16; refine (cM _).mono ?_; rintro e q0 ⟨rfl, hw⟩; obtain rfl := hw.symm)
      | (at_builtin; refine wpList_append_rd (k := .u8) rfl _ _ 22 rfl w.heap.size 5 i0 1 Try.underlying22 hi hz0 hz1 hz2 v3 ([] ++ [M, 8] ++ [s / 256, s % 256] ++ [(n : Int) / 16777216, (n : Int) / 65536 % 256, (n : Int) / 256 % 256, (n : Int) % 256]) rfl o3 _ xs rfl (h.below b3) (by unfold maxLen; simp only [List.length_append, List.length_cons, List.length_nil]; omega) (by simp only [List.length_append, List.length_cons, List.length_nil]; omega) b3.size ?_; intro v4 w4 p g; have o4 : OwB w.heap.size w4 v4 ([] ++ [M, 8] ++ [s / 256, s % 256] ++ [(n : Int) / 16777216, (n : Int) / 65536 % 256, (n : Int) / 256 % 256, (n : Int) % 256] ++ xs) := p; have b4 := OwB.app o3 b3.size b3 g; clear p g)
      | (at_builtin; refine wpList_append_rd (k := .u8) rfl _ _ 22 rfl w.heap.size 5 i0 1 Try.underlying22 hi hz0 hz1 hz2 v2 ([] ++ [M, 8] ++ [s / 256, s % 256]) rfl (o2.below (box_below w2 _)) _ [(n : Int) / 16777216, (n : Int) / 65536 % 256, (n : Int) / 256 % 256, (n : Int) % 256] rfl (rd_lit w2 [(n : Int) / 16777216, (n : Int) / 65536 % 256, (n : Int) / 256 % 256, (n : Int) % 256] 5 (by simp) (by simp [maxLen])) (by unfold maxLen; simp only [List.length_append, List.length_cons, List.length_nil]; omega) (by simp only [List.length_append, List.length_cons, List.length_nil]; omega) (by rw [size_al]; have := b2.size; omega) ?_; intro v3 w3 p g; have o3 : OwB w.heap.size w3 v3 ([] ++ [M, 8] ++ [s / 256, s % 256] ++ [(n : Int) / 16777216, (n : Int) / 65536 % 256, (n : Int) / 256 % 256, (n : Int) % 256]) := p; have b3 := OwB.app (o2.below (box_below w2 _)) (by rw [size_al]; have := b2.size; omega) (b2.trans ((box_below w2 _).mono b2.size)) g; clear p g)
      | (at_builtin; refine wpList_append_rd (k := .u8) rfl _ _ 22 rfl w.heap.size 5 i0 1 Try.underlying22 hi hz0 hz1 hz2 v1 ([] ++ [M, 8]) rfl (o1.below (box_below w1 _)) _ [s / 256, s % 256] rfl (rd_lit w1 [s / 256, s % 256] 5 (by simp) (by simp [maxLen])) (by unfold maxLen; simp only [List.length_append, List.length_cons, List.length_nil]; omega) (by simp only [List.length_append, List.length_cons, List.length_nil]; omega) (by rw [size_al]; have := b1.size; omega) ?_; intro v2 w2 p g; have o2 : OwB w.heap.size w2 v2 ([] ++ [M, 8] ++ [s / 256, s % 256]) := p; have b2 := OwB.app (o1.below (box_below w1 _)) (by rw [size_al]; have := b1.size; omega) (b1.trans ((box_below w1 _).mono b1.size)) g; clear p g)
      | (at_builtin; refine wpList_append_rd (k := .u8) rfl _ _ 22 rfl w.heap.size 5 i0 1 Try.underlying22 hi hz0 hz1 hz2 U0 [] rfl (o0.below (box_below wm _)) _ [M, 8] rfl (rd_lit wm [M, 8] 5 (by simp) (by simp [maxLen])) (by unfold maxLen; simp only [List.length_append, List.length_cons, List.length_nil]; omega) (by simp only [List.length_append, List.length_cons, List.length_nil]; omega) (by rw [size_al]; have := bm.size; omega) ?_; intro v1 w1 p g; have o1 : OwB w.heap.size w1 v1 ([] ++ [M, 8]) := p; have b1 := OwB.app (o0.below (box_below wm _)) (by rw [size_al]; have := bm.size; omega) (bm.trans ((box_below wm _).mono bm.size)) g; clear p g))
    go_ret2
    refine ⟨v4, rfl, ?_, b4⟩
    rw [hH.out]
    simpa using o4

set_option maxHeartbeats 2000000 in
theorem w_pcheck (v : Value) (xs : List Int) (w : World) (h : Rd .u8 w v xs) (hb : bytesL xs) (hz : xs.length ≤ 140737488355328) :
    Calls Try.prog 14 #[v] w fun e w' => ∃ v', e = .returned (.tuple #[v', .bool (chkF xs).2.1, .int .i64 (chkF xs).2.2]) ∧ Rd .u8 w' v' (chkF xs).1 ∧ Below w.heap.size w w' := by
  have hlen := rd_len h uB (P := Try.prog)
  have cH := w_pheaded v xs w h hb hz
  cases hh : (decide (8 ≤ xs.length ∧ xs.length ≤ 8192) && decide ((xs.getD 0 0 = 241 ∨ xs.getD 0 0 = 253) ∧ xs.getD 1 0 = 8)) with
  | false =>
    have e : chkF xs = ([], false, 17) := by unfold chkF chkB; rw [hh]; rfl
    rw [e]
    rw [hh] at cH
    clear e hh
    go_enter Try.func14, Try.ntmps14
    go_wp2_with (go_at_call 18; refine cH.mono ?_; rintro e w1 ⟨rfl, b1⟩)
    go_ret3
    exact ⟨_, rfl, Rd_nil, b1⟩
  | true =>
    have hl8 : 8 ≤ xs.length ∧ xs.length ≤ 8192 := by
      rw [Bool.and_eq_true, decide_eq_true_eq] at hh
      exact hh.1
    obtain ⟨h8, h9⟩ := hl8
    rw [hh] at cH
    obtain ⟨va, ra, ca, _⟩ := rd_cutI h uB zB 4 8 (by omega) (by omega) (by omega)
    obtain ⟨vb, rb, cb, _⟩ := rd_cutI h uB zB 2 4 (by omega) (by omega) (by omega)
    have ra' : Rd .u8 w va ((xs.drop 4).take 4) := ra
    have rb' : Rd .u8 w vb ((xs.drop 2).take 2) := rb
    have hsz := sz_bd xs hb
    have cN := fun w (r : Rd .u8 w va ((xs.drop 4).take 4)) => w_pnumber va _ w r (bytes_take (bytes_drop hb _) _) (by simp; omega)
    have cN2 := fun w (r : Rd .u8 w vb ((xs.drop 2).take 2)) => w_pnumber vb _ w r (bytes_take (bytes_drop hb _) _) (by simp; omega)
    have hck : chkF xs = if (decide (8 ≤ szF xs ∧ szF xs ≤ xs.length) && decide (beV ((xs.drop 2).take 2) = sumF (bdF xs))) = true then (bdF xs, decide (xs.getD 0 0 = 241), 0) else ([], false, 17) := by
      unfold chkF chkB
      rw [hh, Bool.true_and]
    have ez : beV ((xs.drop 4).take 4) = szF xs := rfl
    rw [ez] at cN
    have hb2 := be_small ((xs.drop 2).take 2) (bytes_take (bytes_drop hb _) _) (by simp; omega)
    rw [hck]
    clear hck hh ez ra rb
    have hlw : IntKind.u32.wrap (xs.length : Int) = xs.length := by rw [IntKind.wrap_u32]; omega
    by_cases hs8 : szF xs < 8
    · rw [if_neg (by rw [decide_eq_false (by omega)]; simp)]
      obtain ⟨S, hS⟩ : ∃ S, szF xs = S := ⟨_, rfl⟩
      rw [hS] at cN hs8
      clear hS hsz hb2
      go_enter Try.func14, Try.ntmps14
      go_wp2_with (first
        | (go_at_call 18; refine cH.mono ?_; rintro e w1 ⟨rfl, b1⟩)
        | (go_at_call 19; refine (cN _ (ra'.below b1)).mono ?_; rintro e w2 ⟨rfl, hw⟩; obtain rfl := hw.symm))
      go_ret3
      exact ⟨_, rfl, Rd_nil, b1⟩
    by_cases hsl : (xs.length : Int) < szF xs
    · rw [if_neg (by rw [decide_eq_false (show ¬ (8 ≤ szF xs ∧ szF xs ≤ xs.length) by omega)]; simp)]
      obtain ⟨S, hS⟩ : ∃ S, szF xs = S := ⟨_, rfl⟩
      rw [hS] at cN hs8 hsl
      clear hS hsz hb2
      go_enter Try.func14, Try.ntmps14
      go_wp2_with (first
        | (go_at_call 18; refine cH.mono ?_; rintro e w1 ⟨rfl, b1⟩)
        | (go_at_call 19; refine (cN _ (ra'.below b1)).mono ?_; rintro e w2 ⟨rfl, hw⟩; obtain rfl := hw.symm))
      go_ret3
      exact ⟨_, rfl, Rd_nil, b1⟩
    rw [decide_eq_true (show 8 ≤ szF xs ∧ szF xs ≤ xs.length by omega), Bool.true_and]
    obtain ⟨vc, rc, cc⟩ := rd_cutU h uB zB 8 (szF xs) (by omega) (by omega) (by omega)
    have rc' : Rd .u8 w vc (bdF xs) := rc
    have hbl : (bdF xs).length ≤ 8192 := by simp only [bdF, List.length_take, List.length_drop]; omega
    have cS := fun w (r : Rd .u8 w vc (bdF xs)) => w_psum vc _ w r (bd_bytes xs hb) (by omega)
    have cC := fun w (r : Rd .u8 w vc (bdF xs)) => w_pclone8 vc _ w r (by omega)
    obtain ⟨m0, m1⟩ := sum_bd (bdF xs)
    obtain ⟨ad, b0, q1, q2, q3, q4, q5⟩ := mem_at h hb 0 (by omega) (by omega)
    rw [show (0 : Int).toNat = 0 from rfl] at q5
    rw [q5]
    obtain ⟨S, hS⟩ : ∃ S, szF xs = S := ⟨_, rfl⟩
    obtain ⟨B, hB⟩ : ∃ B, bdF xs = B := ⟨_, rfl⟩
    rw [hS] at cN hs8 hsl cc
    rw [hB] at cS cC rc' m0 m1 hbl ⊢
    obtain ⟨Z, hZ⟩ : ∃ Z, sumF B = Z := ⟨_, rfl⟩
    obtain ⟨Y, hY⟩ : ∃ Y, beV ((xs.drop 2).take 2) = Y := ⟨_, rfl⟩
    rw [hY] at cN2 hb2 ⊢
    rw [hZ] at cS m0 m1 ⊢
    have hS0 : 0 ≤ S := by omega
    have hzw : IntKind.u32.wrap Z = Z := by rw [IntKind.wrap_u32]; omega
    obtain ⟨y0, y1⟩ := hb2
    clear hS hB hZ hY hsz rc q5
    by_cases hyz : Y = Z
    · rw [if_pos (by simpa using hyz)]
      have hn : (Y != Z) = false := by simpa using hyz
      have dq : decide (b0 = 241) = (b0 == 241) := by by_cases h : b0 = 241 <;> simp [h]
      rw [dq]
      clear hyz dq
      go_enter Try.func14, Try.ntmps14
      go_wp2_with (first
        | (go_at_call 18; refine cH.mono ?_; rintro e w1 ⟨rfl, b1⟩)
        | (go_at_call_of 19 va; refine (cN _ (ra'.below b1)).mono ?_; rintro e w2 ⟨rfl, hw⟩; obtain rfl := hw.symm)
        | (go_at_call_of 19 vb; refine (cN2 _ (rb'.below b1)).mono ?_; rintro e w2 ⟨rfl, hw⟩; obtain rfl := hw.symm)
        | (go_at_call 11; refine (cS _ (rc'.below b1)).mono ?_; rintro e w2 ⟨rfl, hw⟩; obtain rfl := hw.symm))
      have q2' : w1.drew.cell? ad = some (.int .u8 b0) := below_cell b1 q2
      have bd1 : Below w.heap.size w w1.drew := below_drewN b1 1
      go_region_with (go_at_call 20; refine (cC _ (rc'.below bd1)).mono ?_; rintro e w3 ⟨v3, rfl, r3, b3⟩; have q2'' := below_cell b3 q2')
      all_goals go_wp2_with fail
      all_goals go_ret3
      all_goals exact ⟨_, rfl, r3, below_trans bd1 b3⟩
    · rw [if_neg (by simpa using hyz)]
      have hn : (Y != Z) = true := by simpa using hyz
      clear hyz
      go_enter Try.func14, Try.ntmps14
      go_wp2_with (first
        | (go_at_call 18; refine cH.mono ?_; rintro e w1 ⟨rfl, b1⟩)
        | (go_at_call_of 19 va; refine (cN _ (ra'.below b1)).mono ?_; rintro e w2 ⟨rfl, hw⟩; obtain rfl := hw.symm)
        | (go_at_call_of 19 vb; refine (cN2 _ (rb'.below b1)).mono ?_; rintro e w2 ⟨rfl, hw⟩; obtain rfl := hw.symm)
        | (go_at_call 11; refine (cS _ (rc'.below b1)).mono ?_; rintro e w2 ⟨rfl, hw⟩; obtain rfl := hw.symm))
      go_ret3
      exact ⟨_, rfl, Rd_nil, b1⟩
end Go.Proofs.Ytfnjebmjaokalaa
