/-
  Texts of one proof, laid one behind the other: Cxf Scz Scv Scm Sct Pc6.
-/
import Derived.Test.YthihkfimledccaaB5
import Derived.WalkLawsBesides
import Derived.BigQuiet
namespace Go.Proofs.Ythihkfimledccaa
open Go.ChangeShapes Go.WideShapes Go.ChangeAt Go.RowKit
set_option linter.unusedVariables false
set_option linter.unusedSimpArgs false

/-
  Points round a picture's middle as complex numbers of halves: what the machine's sums and products of them are. No Go text in sight.
-/
theorem f_int {n : Int} (h1 : -1 ≤ n) (h2 : n < 65) : floatOfInt .f64 n = hbN (2 * n) := by
  simpa using List.all_eq_true.1 k_int n (rg_mem h1 (by omega))
theorem f_sub {x n : Int} (h1 : 0 ≤ x) (h2 : x < 64) (h3 : -1 ≤ n) (h4 : n < 64) : fq6.sub (hbN (2 * x)) (hbN n) = some (hbN (2 * x - n)) := by
  have := List.all_eq_true.1 k_sub x (rg_mem h1 (by omega))
  simpa using List.all_eq_true.1 this n (rg_mem h3 (by omega))
theorem f_mul {p c : Int} {b : Nat} (h1 : -64 ≤ p) (h2 : p ≤ 64) (h3 : -1 ≤ c) (h4 : c ≤ 1) (hb : b ∈ vsN (2 * c)) : ∃ r, fq6.mul (hbN p) b = some r ∧ r ∈ vsN (p * c) := by
  have := List.all_eq_true.1 k_mul p (rg_mem h1 (by omega))
  have := List.all_eq_true.1 this c (rg_mem h3 (by omega))
  exact ok_some (List.all_eq_true.1 this b hb)
theorem f_dif {p : Int} {a b : Nat} (h1 : -64 ≤ p) (h2 : p ≤ 64) (ha : a ∈ vsN p) (hb : b ∈ vsN 0) :
    (∃ r, fq6.sub a b = some r ∧ r ∈ vsN p) ∧ (∃ r, fq6.sub b a = some r ∧ r ∈ vsN (-p)) ∧ (∃ r, fq6.add a b = some r ∧ r ∈ vsN p) ∧ (∃ r, fq6.add b a = some r ∧ r ∈ vsN p) := by
  have := List.all_eq_true.1 k_dif p (rg_mem h1 (by omega))
  have := List.all_eq_true.1 this a ha
  have := List.all_eq_true.1 this b hb
  simp only [Bool.and_eq_true] at this
  exact ⟨ok_some this.1.1.1, ok_some this.1.1.2, ok_some this.1.2, ok_some this.2⟩
theorem f_add {p n : Int} {a : Nat} (h1 : -64 ≤ p) (h2 : p ≤ 64) (ha : a ∈ vsN p) (h3 : -1 ≤ n) (h4 : n < 64) : fq6.add a (hbN n) = some (hbN (p + n)) := by
  have := List.all_eq_true.1 k_add p (rg_mem h1 (by omega))
  have := List.all_eq_true.1 this a ha
  simpa using List.all_eq_true.1 this n (rg_mem h3 (by omega))
theorem f_out {m : Int} (h1 : 0 ≤ m) (h2 : m < 65) : floatToIntVal .f64 (hbN (2 * m)) .i64 = some m := by
  simpa using List.all_eq_true.1 k_out m (rg_mem h1 (by omega))
theorem f_neg {p : Int} (h1 : -64 ≤ p) (h2 : p ≤ 64) : Op.negFloat .f64 (hbN p) ∈ vsN (-p) := by
  simpa using List.all_eq_true.1 k_neg p (rg_mem h1 (by omega))

theorem cx_quo {a b : Int} (h1 : -1 ≤ a) (h2 : a < 65) (h3 : -1 ≤ b) (h4 : b < 65) : cQuoBits (hbN (2 * a)) (hbN (2 * b)) 4611686018427387904 0 = some (hbN a, hbN b) := by
  obtain ⟨g, d, m, s⟩ := k_qu1
  have qa := List.all_eq_true.1 k_qu2 a (rg_mem h1 (by omega))
  have qb := List.all_eq_true.1 k_qu2 b (rg_mem h3 (by omega))
  simp only [Bool.and_eq_true, List.all_eq_true, beq_iff_eq, Bool.not_eq_true'] at qa qb
  obtain ⟨⟨⟨a1, a2⟩, a3⟩, a4⟩ := qa
  obtain ⟨⟨⟨b1, b2⟩, b3⟩, b4⟩ := qb
  obtain ⟨ra, ea, ma⟩ := ok_some a1
  obtain ⟨rb, eb, mb⟩ := ok_some b1
  have x1 := (a2 rb mb).1
  have x2 := (b2 ra ma).2
  have hd : FloatKind.f64.format = fq6 := rfl
  rw [← k_two]
  unfold cQuoBits
  simp only [g, if_true, floatBits, hd, d, Option.bind_some, m, s, ea, eb, x1, x2, a3, b3, a4, b4, Bool.and_self, Bool.not_false]
theorem cx_sub {x y a b : Int} (h1 : 0 ≤ x) (h2 : x < 64) (h3 : 0 ≤ y) (h4 : y < 64) (h5 : -1 ≤ a) (h6 : a < 64) (h7 : -1 ≤ b) (h8 : b < 64) :
    cSumBits .sub .f64 (hbN (2 * x)) (hbN (2 * y)) (hbN a) (hbN b) = some (hbN (2 * x - a), hbN (2 * y - b)) := by
  unfold cSumBits
  simp only [floatBits, show FloatKind.f64.format = fq6 from rfl, f_sub h1 h2 h5 h6, f_sub h3 h4 h7 h8, Option.bind_some]
theorem cx_add {p q a b : Int} {r s : Nat} (h1 : -64 ≤ p) (h2 : p ≤ 64) (h3 : -64 ≤ q) (h4 : q ≤ 64) (h5 : -1 ≤ a) (h6 : a < 64) (h7 : -1 ≤ b) (h8 : b < 64) (hr : r ∈ vsN p) (hs : s ∈ vsN q) :
    cSumBits .add .f64 r s (hbN a) (hbN b) = some (hbN (p + a), hbN (q + b)) := by
  unfold cSumBits
  simp only [floatBits, show FloatKind.f64.format = fq6 from rfl, f_add h1 h2 hr h5 h6, f_add h3 h4 hs h7 h8, Option.bind_some]
theorem cx_pw {k : Nat} (h : k < 3) : cMulBits (pwN k).1 (pwN k).2 0 4607182418800017408 = some (pwN (k + 1)) := by
  match k, h with
  | 0, _ => exact k_pw.1
  | 1, _ => exact k_pw.2.1
  | 2, _ => exact k_pw.2.2
/-- halves turned by a power of i -/
def roN : Nat → Int → Int → Int × Int
  | 0, p, q => (p, q)
  | 1, p, q => (-q, p)
  | 2, p, q => (-p, -q)
  | _, p, q => (q, -p)
theorem cx_mul_of {p q c d : Int} {u v : Nat} (h1 : -64 ≤ p) (h2 : p ≤ 64) (h3 : -64 ≤ q) (h4 : q ≤ 64) (h5 : -1 ≤ c) (h6 : c ≤ 1) (h7 : -1 ≤ d) (h8 : d ≤ 1) (hu : u ∈ vsN (2 * c)) (hv : v ∈ vsN (2 * d)) (hz : (c = 0 ∧ (d = 1 ∨ d = -1)) ∨ (d = 0 ∧ (c = 1 ∨ c = -1))) :
    ∃ re im, cMulBits (hbN p) (hbN q) u v = some (re, im) ∧ re ∈ vsN (p * c - q * d) ∧ im ∈ vsN (p * d + q * c) := by
  obtain ⟨ac, e1, m1⟩ := f_mul h1 h2 h5 h6 hu
  obtain ⟨bd, e2, m2⟩ := f_mul h3 h4 h7 h8 hv
  obtain ⟨ad, e3, m3⟩ := f_mul h1 h2 h7 h8 hv
  obtain ⟨bc, e4, m4⟩ := f_mul h3 h4 h5 h6 hu
  have key : (∃ re, fq6.sub ac bd = some re ∧ re ∈ vsN (p * c - q * d)) ∧ (∃ im, fq6.add ad bc = some im ∧ im ∈ vsN (p * d + q * c)) := by
    rcases hz with ⟨rfl, hd⟩ | ⟨rfl, hc⟩
    · rw [Int.mul_zero] at m1 m4
      have b1 : -64 ≤ q * d ∧ q * d ≤ 64 := by rcases hd with rfl | rfl <;> omega
      have b2 : -64 ≤ p * d ∧ p * d ≤ 64 := by rcases hd with rfl | rfl <;> omega
      obtain ⟨r1, g1, g2⟩ := (f_dif b1.1 b1.2 m2 m1).2.1
      obtain ⟨r2, g3, g4⟩ := (f_dif b2.1 b2.2 m3 m4).2.2.1
      exact ⟨⟨r1, g1, by rw [Int.mul_zero, Int.zero_sub]; exact g2⟩, ⟨r2, g3, by rw [Int.mul_zero, Int.add_zero]; exact g4⟩⟩
    · rw [Int.mul_zero] at m2 m3
      have b1 : -64 ≤ p * c ∧ p * c ≤ 64 := by rcases hc with rfl | rfl <;> omega
      have b2 : -64 ≤ q * c ∧ q * c ≤ 64 := by rcases hc with rfl | rfl <;> omega
      obtain ⟨r1, g1, g2⟩ := (f_dif b1.1 b1.2 m1 m2).1
      obtain ⟨r2, g3, g4⟩ := (f_dif b2.1 b2.2 m4 m3).2.2.2
      exact ⟨⟨r1, g1, by rw [Int.mul_zero, Int.sub_zero]; exact g2⟩, ⟨r2, g3, by rw [Int.mul_zero, Int.zero_add]; exact g4⟩⟩
  obtain ⟨⟨re, g1, g2⟩, ⟨im, g3, g4⟩⟩ := key
  refine ⟨re, im, ?_, g2, g4⟩
  unfold cMulBits
  simp only [floatBits, show FloatKind.f64.format = fq6 from rfl, e1, e2, e3, e4, g1, g3, Option.bind_some]
theorem k_pwv : (pwN 0).1 ∈ vsN (2 * 1) ∧ (pwN 0).2 ∈ vsN (2 * 0) ∧ (pwN 1).1 ∈ vsN (2 * 0) ∧ (pwN 1).2 ∈ vsN (2 * 1) ∧ (pwN 2).1 ∈ vsN (2 * (-1)) ∧ (pwN 2).2 ∈ vsN (2 * 0) ∧ (pwN 3).1 ∈ vsN (2 * 0) ∧ (pwN 3).2 ∈ vsN (2 * (-1)) := by decide +kernel
theorem cx_mul {p q : Int} {k : Nat} (hk : k < 4) (h1 : -64 ≤ p) (h2 : p ≤ 64) (h3 : -64 ≤ q) (h4 : q ≤ 64) :
    ∃ re im, cMulBits (hbN p) (hbN q) (pwN k).1 (pwN k).2 = some (re, im) ∧ re ∈ vsN (roN k p q).1 ∧ im ∈ vsN (roN k p q).2 := by
  obtain ⟨a0, b0, a1, b1, a2, b2, a3, b3⟩ := k_pwv
  match k, hk with
  | 0, _ =>
    have := cx_mul_of (c := 1) (d := 0) h1 h2 h3 h4 (by omega) (by omega) (by omega) (by omega) a0 b0 (Or.inr ⟨rfl, Or.inl rfl⟩)
    rw [show p * 1 - q * 0 = p by omega, show p * 0 + q * 1 = q by omega] at this
    exact this
  | 1, _ =>
    have := cx_mul_of (c := 0) (d := 1) h1 h2 h3 h4 (by omega) (by omega) (by omega) (by omega) a1 b1 (Or.inl ⟨rfl, Or.inl rfl⟩)
    rw [show p * 0 - q * 1 = -q by omega, show p * 1 + q * 0 = p by omega] at this
    exact this
  | 2, _ =>
    have := cx_mul_of (c := -1) (d := 0) h1 h2 h3 h4 (by omega) (by omega) (by omega) (by omega) a2 b2 (Or.inr ⟨rfl, Or.inr rfl⟩)
    rw [show p * (-1) - q * 0 = -p by omega, show p * 0 + q * (-1) = -q by omega] at this
    exact this
  | 3, _ =>
    have := cx_mul_of (c := 0) (d := -1) h1 h2 h3 h4 (by omega) (by omega) (by omega) (by omega) a3 b3 (Or.inl ⟨rfl, Or.inr rfl⟩)
    rw [show p * 0 - q * (-1) = q by omega, show p * (-1) + q * 0 = -p by omega] at this
    exact this
/-- a point round the old middle, turned, round the new middle: twice its new place -/
theorem ro_place {m n x y Q : Nat} (hx : x < m) (hy : y < n) (hQ : Q < 4) :
    (roN Q (2 * (x : Int) - ((m : Int) - 1)) (2 * (y : Int) - ((n : Int) - 1))).1 + (((sdF Q m n).1 : Int) - 1) = 2 * (tuF Q m n x y : Int) ∧
    (roN Q (2 * (x : Int) - ((m : Int) - 1)) (2 * (y : Int) - ((n : Int) - 1))).2 + (((sdF Q m n).2 : Int) - 1) = 2 * (tvF Q m n x y : Int) := by
  match Q, hQ with
  | 0, _ =>
    have h1 : tuF 0 m n x y = x := rfl
    have h2 : tvF 0 m n x y = y := rfl
    rw [h1, h2]
    simp only [roN, sdF]
    simp <;> omega
  | 1, _ =>
    have h1 : tuF 1 m n x y = n - 1 - y := rfl
    have h2 : tvF 1 m n x y = x := rfl
    rw [h1, h2]
    simp only [roN, sdF]
    simp <;> omega
  | 2, _ =>
    have h1 : tuF 2 m n x y = m - 1 - x := rfl
    have h2 : tvF 2 m n x y = n - 1 - y := rfl
    rw [h1, h2]
    simp only [roN, sdF]
    simp <;> omega
  | 3, _ =>
    have h0 := plS_3 (w := m) (x := x) hy
    have h1 : tuF 3 m n x y = y := by unfold tuF; rw [h0]
    have h2 : tvF 3 m n x y = m - 1 - x := by unfold tvF; rw [h0]
    rw [h1, h2]
    simp only [roN, sdF]
    simp <;> omega
theorem ro_small {m n x y Q : Nat} (hx : x < m) (hy : y < n) (hm : m ≤ 64) (hn : n ≤ 64) (hQ : Q < 4) :
    -64 ≤ (roN Q (2 * (x : Int) - ((m : Int) - 1)) (2 * (y : Int) - ((n : Int) - 1))).1 ∧ (roN Q (2 * (x : Int) - ((m : Int) - 1)) (2 * (y : Int) - ((n : Int) - 1))).1 ≤ 64 ∧
    -64 ≤ (roN Q (2 * (x : Int) - ((m : Int) - 1)) (2 * (y : Int) - ((n : Int) - 1))).2 ∧ (roN Q (2 * (x : Int) - ((m : Int) - 1)) (2 * (y : Int) - ((n : Int) - 1))).2 ≤ 64 := by
  match Q, hQ with
  | 0, _ => simp only [roN]; omega
  | 1, _ => simp only [roN]; omega
  | 2, _ => simp only [roN]; omega
  | 3, _ => simp only [roN]; omega
theorem sd_small {m n : Nat} (Q : Nat) (hm : m ≤ 64) (hn : n ≤ 64) : (sdF Q m n).1 ≤ 64 ∧ (sdF Q m n).2 ≤ 64 := by
  unfold sdF
  split
  · exact ⟨hm, hn⟩
  · exact ⟨hn, hm⟩

/-
  Package screen's points as complex numbers: point, middle, powerOfI, turnedSize, columnRow.
-/
theorem w_ppoint22 (x y : Int) (w : World) : Calls Try.prog 42 #[.int .i64 x, .int .i64 y] w fun e w' => e = .returned (.complex .f64 (floatOfInt .f64 x) (floatOfInt .f64 y)) ∧ w' = w := by
  go_enter Try.func42, Try.ntmps42
  go_wp2_with fail
  go_ret
  exact ⟨rfl, rfl⟩

theorem w_pmiddle22 (m n : Nat) (w : World) (hm : m ≤ 64) (hn : n ≤ 64) : Calls Try.prog 38 #[.int .i64 m, .int .i64 n] w fun e w' => e = .returned (.complex .f64 (hbN ((m : Int) - 1)) (hbN ((n : Int) - 1))) ∧ w' = w := by
  have hop := fun t w => (run_complex_quo (P := Try.prog) w t _ _ _ _ _ _ (cx_quo (a := (m : Int) - 1) (b := (n : Int) - 1) (by omega) (by omega) (by omega) (by omega))).1
  have w1 : IntKind.i64.wrap ((m : Int) - 1) = (m : Int) - 1 := by rw [IntKind.wrap_i64]; omega
  have w2 : IntKind.i64.wrap ((n : Int) - 1) = (n : Int) - 1 := by rw [IntKind.wrap_i64]; omega
  have cp := fun w => w_ppoint22 ((m : Int) - 1) ((n : Int) - 1) w
  rw [f_int (by omega) (by omega), f_int (by omega) (by omega)] at cp
  generalize hbN (2 * ((m : Int) - 1)) = A at cp hop
  generalize hbN (2 * ((n : Int) - 1)) = B at cp hop
  generalize hbN ((m : Int) - 1) = C at hop ⊢
  generalize hbN ((n : Int) - 1) = D at hop ⊢
  go_enter Try.func38, Try.ntmps38
  go_wp2_with (go_at_call 42; refine (cp _).mono ?_; rintro e w1 ⟨rfl, hw⟩; obtain rfl := hw.symm)
  go_ret
  exact ⟨rfl, rfl⟩

theorem and_three (q : Int) : (BitVec.ofInt 64 q &&& BitVec.ofInt 64 3).toNat = qtN q := by
  have h3 : BitVec.ofInt 64 3 = BitVec.ofNat 64 (2 ^ 2 - 1) := by decide
  rw [h3, BitVec.toNat_and, BitVec.toNat_ofNat, show (2 ^ 2 - 1) % 2 ^ 64 = 2 ^ 2 - 1 by decide, Nat.and_two_pow_sub_one_eq_mod, BitVec.toNat_ofInt]
  unfold qtN
  omega
theorem bits_three (q : Int) : bits .and .i64 q 3 = (qtN q : Int) := by
  have h := qtN_lt q
  have hw : IntKind.i64.wrap (qtN q : Int) = qtN q := by rw [IntKind.wrap_i64]; omega
  have := and_three q
  have e : bits .and .i64 q 3 = IntKind.i64.wrap ((BitVec.ofInt 64 q &&& BitVec.ofInt 64 3).toNat : Int) := rfl
  rw [e, this, hw]
set_option maxHeartbeats 1000000 in
theorem w_ppower22 (q : Int) (w : World) : Calls Try.prog 39 #[.int .i64 q] w fun e w' => e = .returned (.complex .f64 (pwN (qtN q)).1 (pwN (qtN q)).2) ∧ w' = w := by
  have ha := bits_three q
  have hQ := qtN_lt q
  obtain ⟨Q, hq⟩ : ∃ Q, qtN q = Q := ⟨_, rfl⟩
  rw [hq] at hQ ⊢
  rw [hq] at ha
  clear hq
  have hstep := hid (fun (k : Nat) (h : k < 3) => cx_pw h)
  go_enter Try.func39, Try.ntmps39
  go_wp2_with fail
  go_loopw [3, 6] (fun Pw I wx => ∃ (k : Nat) (a b : Nat), k ≤ Q ∧ I = .int .i64 k ∧ Pw = .complex .f64 a b ∧ Hid (pwN k = (a, b)) ∧ wx = w) (fun _ I _ => (4 - intOf I).toNat)
  case atStart => exact ⟨0, _, _, by omega, rfl, rfl, hid rfl, rfl⟩
  case round =>
    obtain ⟨k, a, b, hk, rfl, rfl, hp, hw0⟩ := hrel
    obtain rfl := hw0.symm
    by_cases hlt : (k : Int) < (Q : Int)
    · have hs := hstep.out k (by omega)
      rw [hp.out] at hs
      obtain ⟨⟨a', b'⟩, hp'⟩ : ∃ r, pwN (k + 1) = r := ⟨_, rfl⟩
      rw [hp'] at hs
      have hp' := hid hp'
      have hop := fun t w => run_complex_mul (P := Try.prog) w t _ _ _ _ _ _ hs
      clear hs
      go_wp2_with fail
      go_roundw
      case rel => exact ⟨k + 1, a', b', by omega, by go_num, rfl, hp', trivial⟩
      case measure => simp [intOf]; omega
    · obtain rfl : k = Q := by omega
      go_wp2_with fail
      go_ret
      rw [hp.out]
      exact ⟨rfl, rfl⟩

theorem tmod_two (q : Int) : q.tmod 2 = 0 ↔ qtN q % 2 = 0 := by
  have h1 : q.tmod 2 = 0 ↔ q % 2 = 0 := by
    constructor
    · intro h
      exact Int.emod_eq_zero_of_dvd (Int.dvd_of_tmod_eq_zero h)
    · intro h
      exact Int.tmod_eq_zero_of_dvd (Int.dvd_of_emod_eq_zero h)
  rw [h1]
  unfold qtN
  omega
theorem w_psides22 (m n : Nat) (q : Int) (w : World) : Calls Try.prog 32 #[.int .i64 m, .int .i64 n, .int .i64 q] w fun e w' => e = .returned (.tuple #[.int .i64 (sdF (qtN q) m n).1, .int .i64 (sdF (qtN q) m n).2]) ∧ w' = w := by
  have h := tmod_two q
  have b1 : -2 < q.tmod 2 := by have := Int.lt_tmod_of_pos q (show (0 : Int) < 2 by omega); omega
  have b2 : q.tmod 2 < 2 := Int.tmod_lt_of_pos q (by omega)
  obtain ⟨T, hT⟩ : ∃ T, q.tmod 2 = T := ⟨_, rfl⟩
  rw [hT] at h b1 b2
  have w0 : IntKind.i64.wrap T = T := by rw [IntKind.wrap_i64]; omega
  unfold sdF
  by_cases e : T = 0
  · rw [if_pos (h.1 e)]
    have hq : (T != 0) = false := by simpa using e
    clear h e
    go_enter Try.func32, Try.ntmps32
    go_wp2_with fail
    go_ret2
    exact ⟨rfl, rfl⟩
  · rw [if_neg (fun z => e (h.2 z))]
    have hq : (T != 0) = true := by simpa using e
    clear h e
    go_enter Try.func32, Try.ntmps32
    go_wp2_with fail
    go_ret2
    exact ⟨rfl, rfl⟩

theorem w_pcolumn22 (a b : Nat) (u v : Int) (w : World) (ha : floatToIntVal .f64 a .i64 = some u) (hb : floatToIntVal .f64 b .i64 = some v) : Calls Try.prog 41 #[.complex .f64 a b] w fun e w' => e = .returned (.tuple #[.int .i64 u, .int .i64 v]) ∧ w' = w := by
  have c1 : ∀ w, (convert 63 3 (.float .f64 a)).run Try.prog w = .ok (.int .i64 u) w := fun w => run_convert_float_int w 63 3 .f64 .i64 a u (by rw [Try.underlying63]; rfl) Try.underlying3 ha
  have c2 : ∀ w, (convert 63 3 (.float .f64 b)).run Try.prog w = .ok (.int .i64 v) w := fun w => run_convert_float_int w 63 3 .f64 .i64 b v (by rw [Try.underlying63]; rfl) Try.underlying3 hb
  go_enter Try.func41, Try.ntmps41
  go_wp2_with fail
  go_ret2
  exact ⟨rfl, rfl⟩

/-
  Package screen's turning and mirroring: functions that tell where a point comes to; Place.
-/
theorem run_store_cx (w : World) (a : Addr) (r i : Nat) (m : Mode) : (store a (.complex .f64 r i) m).run Try.prog w = stored Try.prog w a (.complex .f64 r i) m := run_store Try.prog w a _ m rfl

theorem w_pturn1a (x y : Int) (a b f0 f1 z0 z1 g0 g1 r0 r1 t0 t1 s0 s1 : Nat) (u v : Int) (B0 B1 B2 : Nat) (W : World) (ea : floatOfInt .f64 x = a) (eb : floatOfInt .f64 y = b)
    (hs : cSumBits .sub .f64 a b f0 f1 = some (z0, z1)) (hm : cMulBits z0 z1 g0 g1 = some (r0, r1)) (ha : cSumBits .add .f64 r0 r1 t0 t1 = some (s0, s1)) (ho : floatToIntVal .f64 s0 .i64 = some u) (hp : floatToIntVal .f64 s1 .i64 = some v)
    (c0 : W.cell? ⟨B0, 0, none⟩ = some (.complex .f64 f0 f1)) (c1 : W.cell? ⟨B1, 0, none⟩ = some (.complex .f64 g0 g1)) (c2 : W.cell? ⟨B2, 0, none⟩ = some (.complex .f64 t0 t1)) :
    Calls Try.prog 40 #[.int .i64 x, .int .i64 y, .pointer (some ⟨B0, 0, none⟩), .pointer (some ⟨B1, 0, none⟩), .pointer (some ⟨B2, 0, none⟩)] W fun e w' => e = .returned (.tuple #[.int .i64 u, .int .i64 v]) ∧ ∃ k, w' = W.drewN k := by
  have q1 := fun t w => run_complex_sum (P := Try.prog) w .sub (Or.inr rfl) t .f64 _ _ _ _ _ _ hs
  have q2 := fun t w => run_complex_mul (P := Try.prog) w t _ _ _ _ _ _ hm
  have q3 := fun t w => run_complex_sum (P := Try.prog) w .add (Or.inl rfl) t .f64 _ _ _ _ _ _ ha
  have cp := fun w => w_ppoint22 x y w
  rw [ea, eb] at cp
  have cc := fun w => w_pcolumn22 s0 s1 u v w ho hp
  clear hs hm ha ho hp ea eb
  go_enter Try.func40, Try.ntmps40
  go_wp2_with fail
  go_quiet (first | (go_at_call 42; exact Calls.quiet_of_same (cp _)) | (go_at_call 41; exact Calls.quiet_of_same (cc _)))
  go_wp2_with fail
  go_ret2
  exact ⟨rfl, _, rfl⟩

theorem w_pmirr1a (x y : Int) (a b f0 f1 z0 z1 s0 s1 : Nat) (u v : Int) (B0 : Nat) (W : World) (ea : floatOfInt .f64 x = a) (eb : floatOfInt .f64 y = b)
    (hs : cSumBits .sub .f64 a b f0 f1 = some (z0, z1)) (ha : cSumBits .add .f64 (Op.negFloat .f64 z0) z1 f0 f1 = some (s0, s1)) (ho : floatToIntVal .f64 s0 .i64 = some u) (hp : floatToIntVal .f64 s1 .i64 = some v)
    (c0 : W.cell? ⟨B0, 0, none⟩ = some (.complex .f64 f0 f1)) :
    Calls Try.prog 43 #[.int .i64 x, .int .i64 y, .pointer (some ⟨B0, 0, none⟩)] W fun e w' => e = .returned (.tuple #[.int .i64 u, .int .i64 v]) ∧ ∃ k, w' = W.drewN k := by
  obtain ⟨z2, hz⟩ : ∃ z, Op.negFloat .f64 z0 = z := ⟨_, rfl⟩
  rw [hz] at ha
  have qn : ∀ w, (Op.unary .neg (.float .f64 z0)).run Try.prog w = .ok (.float .f64 z2) w := by
    intro w
    simp [Op.unary, hz]
  have q1 := fun t w => run_complex_sum (P := Try.prog) w .sub (Or.inr rfl) t .f64 _ _ _ _ _ _ hs
  have q3 := fun t w => run_complex_sum (P := Try.prog) w .add (Or.inl rfl) t .f64 _ _ _ _ _ _ ha
  have cp := fun w => w_ppoint22 x y w
  rw [ea, eb] at cp
  have cc := fun w => w_pcolumn22 s0 s1 u v w ho hp
  clear hs ha ho hp ea eb
  go_enter Try.func43, Try.ntmps43
  go_wp2_with fail
  go_quiet (first | (go_at_call 42; exact Calls.quiet_of_same (cp _)))
  go_wp2_with (go_at_call 41; refine (cc _).mono ?_; rintro e w1 ⟨rfl, hw⟩; obtain rfl := hw.symm)
  go_ret2
  exact ⟨rfl, _, rfl⟩

/-- a function value that tells where the points of an m by n picture come to, in every later world -/
def MoveW (w : World) (f : Nat) (lb : Array Value) (m n : Nat) (u v : Nat → Nat → Nat) : Prop :=
  ∀ (W : World) (x y : Nat), Below w.heap.size w W → x < m → y < n → Calls Try.prog f (#[.int .i64 x, .int .i64 y] ++ lb) W fun e w' => e = .returned (.tuple #[.int .i64 (u x y), .int .i64 (v x y)]) ∧ ∃ k, w' = W.drewN k
theorem MoveW.below {w w' : World} {f : Nat} {lb : Array Value} {m n : Nat} {u v : Nat → Nat → Nat} (h : MoveW w f lb m n u v) (g : Below w.heap.size w w') : MoveW w' f lb m n u v :=
  fun W x y hb hx hy => h W x y (below_trans g hb) hx hy
def EntersW (f : Nat) : Prop := ∀ args w, (callFunc f args).run Try.prog w = .ok (.enter f args) w

theorem move_turn {m n Q : Nat} (hm : m ≤ 64) (hn : n ≤ 64) (hQ : Q < 4) (B0 B1 B2 : Nat) (w : World)
    (c0 : w.cell? ⟨B0, 0, none⟩ = some (.complex .f64 (hbN ((m : Int) - 1)) (hbN ((n : Int) - 1)))) (c1 : w.cell? ⟨B1, 0, none⟩ = some (.complex .f64 (pwN Q).1 (pwN Q).2)) (c2 : w.cell? ⟨B2, 0, none⟩ = some (.complex .f64 (hbN (((sdF Q m n).1 : Int) - 1)) (hbN (((sdF Q m n).2 : Int) - 1)))) :
    MoveW w 40 #[.pointer (some ⟨B0, 0, none⟩), .pointer (some ⟨B1, 0, none⟩), .pointer (some ⟨B2, 0, none⟩)] m n (tuF Q m n) (tvF Q m n) := by
  intro W x y hb hx hy
  obtain ⟨r1, r2⟩ := ro_place (m := m) (n := n) hx hy hQ
  obtain ⟨p1, p2, p3, p4⟩ := ro_small (m := m) (n := n) hx hy hm hn hQ
  obtain ⟨sd1, sd2⟩ := sd_small Q hm hn
  have hin := plS_in hx hy Q
  rw [pl_whole] at hin
  simp only at hin
  obtain ⟨re, im, hmul, hre, him⟩ := cx_mul (p := 2 * (x : Int) - ((m : Int) - 1)) (q := 2 * (y : Int) - ((n : Int) - 1)) hQ (by omega) (by omega) (by omega) (by omega)
  have hadd := cx_add p1 p2 p3 p4 (a := ((sdF Q m n).1 : Int) - 1) (b := ((sdF Q m n).2 : Int) - 1) (by omega) (by omega) (by omega) (by omega) hre him
  rw [r1, r2] at hadd
  exact w_pturn1a (x : Int) (y : Int) _ _ _ _ _ _ _ _ _ _ _ _ _ _ _ _ B0 B1 B2 W (f_int (by omega) (by omega)) (f_int (by omega) (by omega)) (cx_sub (by omega) (by omega) (by omega) (by omega) (by omega) (by omega) (by omega) (by omega)) hmul hadd (f_out (by omega) (by omega)) (f_out (by omega) (by omega)) (below_cell hb c0) (below_cell hb c1) (below_cell hb c2)
theorem move_mirror {m n : Nat} (hm : m ≤ 64) (hn : n ≤ 64) (B0 : Nat) (w : World) (c0 : w.cell? ⟨B0, 0, none⟩ = some (.complex .f64 (hbN ((m : Int) - 1)) (hbN ((n : Int) - 1)))) :
    MoveW w 43 #[.pointer (some ⟨B0, 0, none⟩)] m n (fun x y => m - 1 - x) (fun x y => y) := by
  intro W x y hb hx hy
  have hadd := cx_add (p := -(2 * (x : Int) - ((m : Int) - 1))) (q := 2 * (y : Int) - ((n : Int) - 1)) (a := (m : Int) - 1) (b := (n : Int) - 1) (by omega) (by omega) (by omega) (by omega) (by omega) (by omega) (by omega) (by omega) (f_neg (by omega) (by omega)) (vs_self _)
  rw [show -(2 * (x : Int) - ((m : Int) - 1)) + ((m : Int) - 1) = 2 * ((m - 1 - x : Nat) : Int) by omega, show 2 * (y : Int) - ((n : Int) - 1) + ((n : Int) - 1) = 2 * (y : Int) by omega] at hadd
  exact w_pmirr1a (x : Int) (y : Int) _ _ _ _ _ _ _ _ _ _ B0 W (f_int (by omega) (by omega)) (f_int (by omega) (by omega)) (cx_sub (by omega) (by omega) (by omega) (by omega) (by omega) (by omega) (by omega) (by omega)) hadd (f_out (by omega) (by omega)) (f_out (by omega) (by omega)) (below_cell hb c0)

set_option maxHeartbeats 400000 in
theorem w_pturning (m n : Nat) (q : Int) (w : World) (hm : m ≤ 64) (hn : n ≤ 64) :
    Calls Try.prog 28 #[.int .i64 m, .int .i64 n, .int .i64 q] w fun e w' => ∃ lb, e = .returned (.func (.func 40) #[] lb) ∧ MoveW w' 40 lb m n (tuF (qtN q) m n) (tvF (qtN q) m n) ∧ Below w.heap.size w w' := by
  have hmf : ∀ (fn : Fn) (first cap : Array Value) (w : World), (Instr.makeFunc fn first cap).run Try.prog w = .ok (.func fn first cap) w := fun _ _ _ _ => rfl
  have hst := run_store_cx
  have hQ := qtN_lt q
  obtain ⟨sd1, sd2⟩ := sd_small (qtN q) hm hn
  have cm1 := fun w => w_pmiddle22 m n w hm hn
  have cm2 := fun w => w_pmiddle22 (sdF (qtN q) m n).1 (sdF (qtN q) m n).2 w sd1 sd2
  have cs := fun w => w_psides22 m n q w
  have cw := fun w => w_ppower22 q w
  have mt := fun B0 B1 B2 w => move_turn (m := m) (n := n) (Q := qtN q) hm hn hQ B0 B1 B2 w
  obtain ⟨Q, hq⟩ : ∃ Q, qtN q = Q := ⟨_, rfl⟩
  simp only [hq] at hQ cm2 cs cw sd1 sd2 mt ⊢
  clear hq
  obtain ⟨⟨S1, S2⟩, hS⟩ : ∃ S, sdF Q m n = S := ⟨_, rfl⟩
  simp only [hS] at cm2 cs sd1 sd2 mt
  obtain ⟨⟨g0, g1⟩, hg⟩ : ∃ S, pwN Q = S := ⟨_, rfl⟩
  simp only [hg] at cw mt
  obtain ⟨f0, e0⟩ : ∃ f, hbN ((m : Int) - 1) = f := ⟨_, rfl⟩
  obtain ⟨f1, e1⟩ : ∃ f, hbN ((n : Int) - 1) = f := ⟨_, rfl⟩
  obtain ⟨h0, e2⟩ : ∃ f, hbN ((S1 : Int) - 1) = f := ⟨_, rfl⟩
  obtain ⟨h1, e3⟩ : ∃ f, hbN ((S2 : Int) - 1) = f := ⟨_, rfl⟩
  simp only [e0, e1] at cm1
  simp only [e2, e3] at cm2
  simp only [e0, e1, e2, e3] at mt
  clear e0 e1 e2 e3
  have MT := hid mt
  clear mt hS hg
  have b1 := box_below w (.cells #[.complex .f64 f0 f1] 59)
  have b2 := box_below (w.alloc (.cells #[.complex .f64 f0 f1] 59)) (.cells #[.complex .f64 h0 h1] 59)
  have b3 := box_below ((w.alloc (.cells #[.complex .f64 f0 f1] 59)).alloc (.cells #[.complex .f64 h0 h1] 59)) (.cells #[.complex .f64 g0 g1] 59)
  have sA := ((stands_new w #[.complex .f64 f0 f1] 59).below b2).below b3
  have sB := (stands_new (w.alloc (.cells #[.complex .f64 f0 f1] 59)) #[.complex .f64 h0 h1] 59).below b3
  have sC := stands_new ((w.alloc (.cells #[.complex .f64 f0 f1] 59)).alloc (.cells #[.complex .f64 h0 h1] 59)) #[.complex .f64 g0 g1] 59
  rw [size_al] at sB
  rw [size_al, size_al] at sC
  have R := hid (MT.out _ _ _ _ (sA.cell 0 _ rfl) (sC.cell 0 _ rfl) (sB.cell 0 _ rfl))
  have bw := hid (below_trans (below_trans b1 b2) b3)
  clear MT sA sB sC b1 b2 b3
  go_enter Try.func28, Try.ntmps28
  go_wp2_with (first | (go_at_call 38; first | (with_reducible refine (cm1 _).mono ?_; rintro e w1 ⟨rfl, hw⟩; obtain rfl := hw.symm) | (with_reducible refine (cm2 _).mono ?_; rintro e w1 ⟨rfl, hw⟩; obtain rfl := hw.symm)) | (go_at_call 32; refine (cs _).mono ?_; rintro e w1 ⟨rfl, hw⟩; obtain rfl := hw.symm) | (go_at_call 39; refine (cw _).mono ?_; rintro e w1 ⟨rfl, hw⟩; obtain rfl := hw.symm))
  go_ret
  exact ⟨_, rfl, R.out, bw.out⟩

theorem w_pmirroring (m n : Nat) (w : World) (hm : m ≤ 64) (hn : n ≤ 64) :
    Calls Try.prog 35 #[.int .i64 m, .int .i64 n] w fun e w' => ∃ lb, e = .returned (.func (.func 43) #[] lb) ∧ MoveW w' 43 lb m n (fun x y => m - 1 - x) (fun x y => y) ∧ Below w.heap.size w w' := by
  have hmf : ∀ (fn : Fn) (first cap : Array Value) (w : World), (Instr.makeFunc fn first cap).run Try.prog w = .ok (.func fn first cap) w := fun _ _ _ _ => rfl
  have hst := run_store_cx
  have cm1 := fun w => w_pmiddle22 m n w hm hn
  have mt := fun B0 w => move_mirror (m := m) (n := n) hm hn B0 w
  obtain ⟨f0, e0⟩ : ∃ f, hbN ((m : Int) - 1) = f := ⟨_, rfl⟩
  obtain ⟨f1, e1⟩ : ∃ f, hbN ((n : Int) - 1) = f := ⟨_, rfl⟩
  simp only [e0, e1] at cm1
  simp only [e0, e1] at mt
  clear e0 e1
  have bw := hid (box_below w (.cells #[.complex .f64 f0 f1] 59))
  have R := hid (mt _ _ ((stands_new w #[.complex .f64 f0 f1] 59).cell 0 _ rfl))
  clear mt
  go_enter Try.func35, Try.ntmps35
  go_wp2_with (first | (go_at_call 38; refine (cm1 _).mono ?_; rintro e w1 ⟨rfl, hw⟩; obtain rfl := hw.symm))
  go_ret
  exact ⟨_, rfl, R.out, bw.out⟩

theorem enters_turn : EntersW 40 := enters_of Try.func40 (by kernel_rfl) rfl
theorem enters_mirror : EntersW 43 := enters_of Try.func43 (by kernel_rfl) rfl

/-- Place, of a point that lies in the picture -/
theorem w_pplace22_in (W H q x y : Int) (w : World) (hs : szI W H = true) (x0 : 0 ≤ x) (x1 : x < W) (y0 : 0 ≤ y) (y1 : y < H) :
    Calls Try.prog 10 #[.int .i64 W, .int .i64 H, .int .i64 q, .int .i64 x, .int .i64 y] w fun e w' => e = .returned (.tuple #[.int .i64 (plI W H q x y).1, .int .i64 (plI W H q x y).2]) ∧ Below w.heap.size w w' := by
  have hp : plI W H q x y = (((plS (qtN q) (W.toNat, H.toNat, x.toNat, y.toNat)).2.2.1 : Int), ((plS (qtN q) (W.toNat, H.toNat, x.toNat, y.toNat)).2.2.2 : Int)) := by
    unfold plI
    rw [if_pos (by simp only [hs, decide_eq_true x0, decide_eq_true x1, decide_eq_true y0, decide_eq_true y1, Bool.and_true])]
  have cs := w_psized22 W H
  have ci := w_pwithin22 W H x y
  rw [hs] at cs
  simp only [decide_eq_true x0, decide_eq_true x1, decide_eq_true y0, decide_eq_true y1, Bool.and_true] at ci
  obtain ⟨a, b, c, d⟩ := (szI_iff W H).1 hs
  rw [hp]
  clear hp hs
  obtain ⟨W, rfl⟩ : ∃ m : Nat, W = m := ⟨W.toNat, by omega⟩
  obtain ⟨H, rfl⟩ : ∃ m : Nat, H = m := ⟨H.toNat, by omega⟩
  obtain ⟨x, rfl⟩ : ∃ m : Nat, x = m := ⟨x.toNat, by omega⟩
  obtain ⟨y, rfl⟩ : ∃ m : Nat, y = m := ⟨y.toNat, by omega⟩
  simp only [Int.toNat_natCast]
  rw [pl_whole]
  simp only
  have ct := w_pturning W H q w (by omega) (by omega)
  have en := enters_turn
  unfold EntersW at en
  have hx : x < W := by omega
  have hy : y < H := by omega
  generalize tuF (qtN q) W H = U at ct ⊢
  generalize tvF (qtN q) W H = V at ct ⊢
  clear x0 x1 y0 y1 a b c d
  go_enter Try.func10, Try.ntmps10
  go_wp2_with (first | (go_at_call 26; refine (cs _).mono ?_; rintro e w1 ⟨rfl, hw⟩; obtain rfl := hw.symm) | (go_at_call 27; refine (ci _).mono ?_; rintro e w1 ⟨rfl, hw⟩; obtain rfl := hw.symm) | (go_at_call 28; refine ct.mono ?_; rintro e w2 ⟨lb, rfl, hM, hB⟩; have hc := hM w2 x y (Below.refl _ _) hx hy) | (refine hc.mono ?_; rintro e w3 ⟨rfl, kk, hw⟩; subst hw))
  go_ret2
  exact ⟨rfl, below_drewN hB kk⟩
theorem plI_out {W H q x y : Int} (h : (szI W H && decide (0 ≤ x) && decide (x < W) && decide (0 ≤ y) && decide (y < H)) = false) : plI W H q x y = (0, 0) := by
  unfold plI
  rw [if_neg (by rw [h]; exact Bool.false_ne_true)]
/-- Place of the landed package -/
theorem w_pplace22a (W H q x y : Int) (w : World) :
    Calls Try.prog 10 #[.int .i64 W, .int .i64 H, .int .i64 q, .int .i64 x, .int .i64 y] w fun e w' => e = .returned (.tuple #[.int .i64 (plI W H q x y).1, .int .i64 (plI W H q x y).2]) ∧ Below w.heap.size w w' := by
  cases hi : (decide (0 ≤ x) && decide (x < W) && decide (0 ≤ y) && decide (y < H))
  · cases hs : szI W H
    · rw [plI_out (by rw [hs]; rfl)]
      have cs := w_psized22 W H
      rw [hs] at cs
      clear hi hs
      go_enter Try.func10, Try.ntmps10
      go_wp2_with (first | (go_at_call 26; refine (cs _).mono ?_; rintro e w1 ⟨rfl, hw⟩; obtain rfl := hw.symm))
      go_ret2
      exact ⟨rfl, Below.refl _ _⟩
    · rw [plI_out (by rw [hs, Bool.true_and]; exact hi)]
      have cs := w_psized22 W H
      have ci := w_pwithin22 W H x y
      rw [hs] at cs
      rw [hi] at ci
      clear hi hs
      go_enter Try.func10, Try.ntmps10
      go_wp2_with (first | (go_at_call 26; refine (cs _).mono ?_; rintro e w1 ⟨rfl, hw⟩; obtain rfl := hw.symm) | (go_at_call 27; refine (ci _).mono ?_; rintro e w1 ⟨rfl, hw⟩; obtain rfl := hw.symm))
      go_ret2
      exact ⟨rfl, Below.refl _ _⟩
  · cases hs : szI W H
    · rw [plI_out (by rw [hs]; rfl)]
      have cs := w_psized22 W H
      rw [hs] at cs
      clear hi hs
      go_enter Try.func10, Try.ntmps10
      go_wp2_with (first | (go_at_call 26; refine (cs _).mono ?_; rintro e w1 ⟨rfl, hw⟩; obtain rfl := hw.symm))
      go_ret2
      exact ⟨rfl, Below.refl _ _⟩
    · simp only [Bool.and_eq_true, decide_eq_true_eq] at hi
      exact w_pplace22_in W H q x y w hs hi.1.1.1 hi.1.1.2 hi.1.2 hi.2

/-
  Package screen's moved: a picture's points brought to their new places one by one.
-/
theorem tmod_nat (k m : Nat) : (k : Int).tmod (m : Int) = ((k % m : Nat) : Int) := by
  rw [Int.tmod_eq_emod_of_nonneg (by omega)]
  exact (Int.natCast_emod k m).symm
theorem tdiv_nat (k m : Nat) : (k : Int).tdiv (m : Int) = ((k / m : Nat) : Int) := by
  rw [Int.tdiv_eq_ediv_of_nonneg (by omega)]
  exact (Int.natCast_ediv k m).symm

set_option maxHeartbeats 4000000 in
set_option maxRecDepth 10000 in
theorem w_pmoved (m n a b : Nat) (P : List Int) (vP : Value) (f : Nat) (lb : Array Value) (u v : Nat → Nat → Nat) (o : Nat → Nat → Nat) (g : Nat → Nat → Int) (w : World) (hm : m ≤ 64) (hn : n ≤ 64) (ha : a ≤ 64) (hb : b ≤ 64) (hP : P.length = m * n) (r : Rd .u8 w vP P)
    (hmv : MvOK m n a b P u v o g) (en : EntersW f) (hM : MoveW w f lb m n u v) :
    Calls Try.prog 33 #[.agg #[.int .i64 m, .int .i64 n, vP], .int .i64 a, .int .i64 b, .func (.func f) #[] lb] w fun e w' => ∃ v', e = .returned v' ∧ OwPc w.heap.size w' v' (a, b, mkP a b g) ∧ Below w.heap.size w w' := by
  have bw := below_trans (box_below w (.cells #[.int .i64 (m : Int), .int .i64 (n : Int), vP] 28)) (box_below _ (.cells #[.int .i64 0, .int .i64 0, .slice none 0 0] 28))
  have s1 := (stands_new w #[.int .i64 (m : Int), .int .i64 (n : Int), vP] 28).below (box_below _ (.cells #[.int .i64 0, .int .i64 0, .slice none 0 0] 28))
  have s2 := stands_new (w.alloc (.cells #[.int .i64 (m : Int), .int .i64 (n : Int), vP] 28)) #[.int .i64 0, .int .i64 0, .slice none 0 0] 28
  rw [size_al] at s2
  have hWH : m * n ≤ 4096 := Nat.le_trans (Nat.mul_le_mul hm hn) (by omega)
  have r1 := r.below bw
  have hM1 := hM.below bw
  have hlen := rd_len r uB (P := Try.prog)
  obtain ⟨pa, pq, rfl⟩ := rd_slice r
  have hPm : P.length ≤ 4096 := by omega
  have HP := hid hP
  have HMV := hid hmv
  unfold EntersW at en
  clear r hP hM hmv
  go_enter Try.func33, Try.ntmps33
  go_upto_region 1 with fail
  generalize (w.alloc (.cells #[.int .i64 (m : Int), .int .i64 (n : Int), .slice pa P.length pq] 28)).alloc (.cells #[.int .i64 0, .int .i64 0, .slice none 0 0] 28) = W0 at bw s1 s2 r1 hM1 ⊢
  have hmk := fun w => mk_zero (P.length : Int) P.length rfl (by omega) w
  have z0 := s1.cell 0 _ rfl
  have z1 := s1.cell 1 _ rfl
  have z2 := s1.cell 2 _ rfl
  have bz := box_below W0 (.cells (madeCells #[.int .u8 0] P.length) 5)
  have bq := below_trans bz (box_below (W0.alloc (.cells (madeCells #[.int .u8 0] P.length) 5)) (.cells #[.int .i64 (a : Int), .int .i64 (b : Int), .slice (some ⟨W0.heap.size, 0, none⟩) P.length P.length] 28))
  have oz : Own8 W0.heap.size ((W0.alloc (.cells (madeCells #[.int .u8 0] P.length) 5)).alloc (.cells #[.int .i64 (a : Int), .int .i64 (b : Int), .slice (some ⟨W0.heap.size, 0, none⟩) P.length P.length] 28)) (.slice (some ⟨W0.heap.size, 0, none⟩) P.length P.length) (List.replicate P.length 0) := own8_below (own_zero P.length (by unfold maxLen; omega) W0) (box_below _ _)
  have sq := stands_new (W0.alloc (.cells (madeCells #[.int .u8 0] P.length) 5)) #[.int .i64 (a : Int), .int .i64 (b : Int), .slice (some ⟨W0.heap.size, 0, none⟩) P.length P.length] 28
  rw [size_al] at sq
  have Z0 := hid (fun W9 (g : Below W0.heap.size W0 W9) => below_cell g z0)
  have Z2 := hid (fun W9 (g : Below W0.heap.size W0 W9) => below_cell g z2)
  have S2 := hid s2
  go_upto_region 2 with fail
  generalize (W0.alloc (.cells (madeCells #[.int .u8 0] P.length) 5)).alloc (.cells #[.int .i64 (a : Int), .int .i64 (b : Int), .slice (some ⟨W0.heap.size, 0, none⟩) P.length P.length] 28) = W1 at bq oz sq ⊢
  have q0 := mvF_0 a b o g
  rw [HMV.out.area, ← HP.out] at q0
  rw [← q0] at oz
  have bp : BoxP W0.heap.size W1 (W0.heap.size + 1) a b (.slice (some ⟨W0.heap.size, 0, none⟩) P.length P.length) (mvF a b o g 0) := ⟨sq, oz, by omega, fun g hg => by simp [Value.ownBlock] at hg; omega⟩
  have y2 := below_cell bq z2
  obtain ⟨B, hB⟩ : ∃ B, W0.heap.size + 1 = B := ⟨_, rfl⟩
  obtain ⟨vZ, hvZ⟩ : ∃ v, Value.slice (some ⟨W0.heap.size, 0, none⟩) P.length P.length = v := ⟨_, rfl⟩
  rw [hB, hvZ] at bp
  rw [hB]
  clear q0 oz sq bz hmk s1 s2 z0 z1 z2 hB hvZ
  go_upto_region 3 with fail
  clear y2
  go_loopw [10, 11, 12, 13, 24] (fun _ _ _ _ I wx => ∃ k : Nat, k ≤ P.length ∧ I = .int .i64 k ∧ BoxP W0.heap.size wx B a b vZ (mvF a b o g k) ∧ Below W0.heap.size W0 wx) (fun _ _ _ _ I _ => (P.length - intOf I).toNat)
  case atStart => exact ⟨0, by omega, rfl, bp, bq⟩
  case round =>
    clear bp bq
    obtain ⟨k, hk, rfl, bp, bc⟩ := hrel
    by_cases hlt : (k : Int) < P.length
    · have hkN : k < m * n := by have := HP.out; omega
      obtain ⟨hI, hset⟩ := HMV.out.step hkN
      obtain ⟨p1, p2, p3⟩ := px_split hkN
      have hu := HMV.out.inu _ _ p1 p2
      have hv := HMV.out.inv _ _ p1 p2
      have hmul : v (k % m) (k / m) * a ≤ 4096 := by have := Nat.mul_le_mul (Nat.le_of_lt hv) (Nat.le_refl a); have := Nat.mul_le_mul hb ha; omega
      have z0 := Z0.out wr bc
      have y2 := (bp.1).cell 2 _ rfl
      obtain ⟨ad, i1, i2⟩ := rd_idx (r1.below bc) uB zB (k : Int) (by omega) hlt
      rw [Int.toNat_natCast] at i2
      have hm0 : ((m : Int) == 0) = false := by rw [beq_eq_false_iff_ne]; omega
      have t1 := tmod_nat k m
      have t2 := tdiv_nat k m
      obtain ⟨X, hX⟩ : ∃ X, k % m = X := ⟨_, rfl⟩
      obtain ⟨Y, hY⟩ : ∃ X, k / m = X := ⟨_, rfl⟩
      rw [hX] at t1 p1 p3
      rw [hY] at t2 p2 p3
      rw [hX, hY] at hI hset hu hv hmul
      have hc := hid (fun n => hM1 (wr.drewN n) X Y (below_drewN bc n) p1 p2)
      obtain ⟨U, hU⟩ : ∃ Z, u X Y = Z := ⟨_, rfl⟩
      obtain ⟨V, hV⟩ : ∃ Z, v X Y = Z := ⟨_, rfl⟩
      rw [hU, hV] at hI hset hc
      rw [hU] at hu
      rw [hV] at hv hmul
      obtain ⟨A, hA⟩ : ∃ A, V * a = A := ⟨_, rfl⟩
      have e1 : IntKind.i64.wrap ((V : Int) * (a : Int)) = (A : Int) := by rw [← hA]; exact wr_mul V a hmul
      rw [hA] at hI hset hmul
      obtain ⟨I2, hi2⟩ : ∃ k, A + U = k := ⟨_, rfl⟩
      have e5 : IntKind.i64.wrap ((A : Int) + (U : Int)) = (I2 : Int) := by rw [IntKind.wrap_i64]; omega
      rw [hi2] at hI hset
      obtain ⟨C, hC⟩ : ∃ C, P.getD k 0 = C := ⟨_, rfl⟩
      rw [hC] at i2 hset
      have w1 : IntKind.i64.wrap (X : Int) = X := by rw [IntKind.wrap_i64]; omega
      have w2 : IntKind.i64.wrap (Y : Int) = Y := by rw [IntKind.wrap_i64]; omega
      clear hX hY hU hV hA hC hi2 p3
      go_upto_region 5 with fail
      go_quiet (exact Calls.quiet_of (hc.out _))
      have D : Below wr.heap.size wr (wr.drewN nq) := below_drewN (Below.refl _ _) nq
      have bp5 := bp.below D
      have bc5 := below_trans bc D
      generalize wr.drewN nq = W5 at bp5 bc5 ⊢
      clear bp bc hc y2 z0 i1 i2 D
      obtain ⟨ae, g1, g2, g3, g4, g5⟩ := bp5.set (I2 : Int) (by omega) (by rw [mvF_len]; omega)
      have bp6 := g5 C
      rw [Int.toNat_natCast, hset] at bp6
      have bc6 := bc5.setCell g4 (.int .u8 C)
      have y2 := (bp5.1).cell 2 _ rfl
      have BP6 := hid bp6
      have BC6 := hid bc6
      clear bp6 bc6 g5 bp5
      go_wp2_with fail
      go_roundw
      case rel => exact ⟨k + 1, by omega, by go_num, BP6.out, BC6.out⟩
      case measure => simp [intOf]; omega
    · obtain rfl : k = P.length := by omega
      rw [HP.out, HMV.out.all] at bp
      have t0 := bp.1.cell 0 _ rfl
      have t1 := bp.1.cell 1 _ rfl
      have t2 := bp.1.cell 2 _ rfl
      have SR := S2.out.below bc
      have r0 := SR.cell 0 _ rfl
      have r1 := SR.cell 1 _ rfl
      have r2 := SR.cell 2 _ rfl
      have rf := SR.free
      obtain ⟨za, zq, hz⟩ := own_form bp.2.1
      obtain ⟨zl, hzl⟩ : ∃ l, (mkP a b g).length = l := ⟨_, rfl⟩
      rw [hzl] at hz
      subst hz
      go_wp2_with fail
      obtain ⟨k1, k2⟩ := set3q SR (.int .i64 a) (.int .i64 b) (.slice za zl zq)
      have J7 := below_set3 (below_trans bw bc) (w.heap.size + 1) (.int .i64 a) (.int .i64 b) (.slice za zl zq) (by omega)
      (try simp only [Exit.inBlock, Exit.then])
      refine bodyPost_ret (res_row1 rfl _ _ (w.heap.size + 1) 28 _ (0, 0) _ rfl k1 Try.underlying28 rfl infoPc) rfl ?_
      exact ⟨_, rfl, ⟨_, rfl, own8_base (k2 _ (own8_kept (by decide)) bp.2.1) bw.size⟩, J7⟩

/-
  Package screen's Turn and Mirror.
-/
/-- a picture written into the result's box: the parameter's box keeps its cells -/
theorem keep3 {w1 w2 : World} {c0 c1 c2 : Value} {B : Nat} (g : Below w1.heap.size w1 w2)
    (h : ∀ W9, Below w1.heap.size w1 W9 → (W9.cell? ⟨B, 0, none⟩ = some c0 ∧ W9.cell? ⟨B, 1, none⟩ = some c1 ∧ W9.cell? ⟨B, 2, none⟩ = some c2)) :
    ∀ a0 a1 a2 : Value, ((((w2.setCell ⟨B + 1, 0, none⟩ a0).setCell ⟨B + 1, 1, none⟩ a1).setCell ⟨B + 1, 2, none⟩ a2).cell? ⟨B, 0, none⟩ = some c0 ∧ (((w2.setCell ⟨B + 1, 0, none⟩ a0).setCell ⟨B + 1, 1, none⟩ a1).setCell ⟨B + 1, 2, none⟩ a2).cell? ⟨B, 1, none⟩ = some c1 ∧ (((w2.setCell ⟨B + 1, 0, none⟩ a0).setCell ⟨B + 1, 1, none⟩ a1).setCell ⟨B + 1, 2, none⟩ a2).cell? ⟨B, 2, none⟩ = some c2) := by
  obtain ⟨h0, h1, h2⟩ := h w2 g
  intro a0 a1 a2
  refine ⟨?_, ?_, ?_⟩
  · rw [World.cell?_setCell_far _ _ _ _ (by show B + 1 ≠ B; omega), World.cell?_setCell_far _ _ _ _ (by show B + 1 ≠ B; omega), World.cell?_setCell_far _ _ _ _ (by show B + 1 ≠ B; omega)]; exact h0
  · rw [World.cell?_setCell_far _ _ _ _ (by show B + 1 ≠ B; omega), World.cell?_setCell_far _ _ _ _ (by show B + 1 ≠ B; omega), World.cell?_setCell_far _ _ _ _ (by show B + 1 ≠ B; omega)]; exact h1
  · rw [World.cell?_setCell_far _ _ _ _ (by show B + 1 ≠ B; omega), World.cell?_setCell_far _ _ _ _ (by show B + 1 ≠ B; omega), World.cell?_setCell_far _ _ _ _ (by show B + 1 ≠ B; omega)]; exact h2

set_option maxHeartbeats 4000000 in
set_option maxRecDepth 10000 in
theorem w_pturn22a (p : PicI) (v : Value) (q : Int) (w : World) (h : RdPc w v p) (hz : p.2.2.length ≤ 140737488351232) :
    Calls Try.prog 16 #[v, .int .i64 q] w fun e w' => ∃ v', e = .returned (.tuple #[v', .int .i64 (tnI p q 1).2]) ∧ OwPc w.heap.size w' v' (tnI p q 1).1 ∧ Below w.heap.size w w' := by
  obtain ⟨vP, rfl, r⟩ := h
  obtain ⟨W, H, P⟩ := p
  simp only at r hz ⊢
  have bw := below_trans (box_below w (.cells #[.int .i64 W, .int .i64 H, vP] 28)) (box_below _ (.cells #[.int .i64 0, .int .i64 0, .slice none 0 0] 28))
  have s1 := (stands_new w #[.int .i64 W, .int .i64 H, vP] 28).below (box_below _ (.cells #[.int .i64 0, .int .i64 0, .slice none 0 0] 28))
  have s2 := stands_new (w.alloc (.cells #[.int .i64 W, .int .i64 H, vP] 28)) #[.int .i64 0, .int .i64 0, .slice none 0 0] 28
  rw [size_al] at s2
  have r1 := r.below bw
  have cF := fun W9 (g : Below w.heap.size w W9) => w_pformed22a W H vP P W9 (r.below g) hz
  cases hf : fmI (W, H, P)
  · simp only [hf] at cF
    have hT : tnI (W, H, P) q 1 = (noP, 1) := by unfold tnI; rw [hf]; rfl
    rw [hT]
    obtain ⟨pa, pq, rfl⟩ := rd_slice r
    clear r hT hf
    go_enter Try.func16, Try.ntmps16
    go_upto_region 1 with fail
    generalize (w.alloc (.cells #[.int .i64 W, .int .i64 H, .slice pa P.length pq] 28)).alloc (.cells #[.int .i64 0, .int .i64 0, .slice none 0 0] 28) = W0 at bw s1 s2 r1 ⊢
    have cf := cF W0 bw
    have z0 := s1.cell 0 _ rfl
    have z1 := s1.cell 1 _ rfl
    have z2 := s1.cell 2 _ rfl
    clear cF
    go_upto_region 2 with (first | (go_at_call 20; refine cf.mono ?_; rintro e w1 ⟨rfl, b1⟩) | fail)
    have SR := s2.below b1
    have y0 := SR.cell 0 _ rfl
    have y1 := SR.cell 1 _ rfl
    have y2 := SR.cell 2 _ rfl
    have yf := SR.free
    go_wp2_with fail
    obtain ⟨k1, k2⟩ := set3q SR (.int .i64 0) (.int .i64 0) (.slice none 0 0)
    have J7 := below_set3 (below_trans bw b1) (w.heap.size + 1) (.int .i64 0) (.int .i64 0) (.slice none 0 0) (by omega)
    (try simp only [Exit.inBlock, Exit.then])
    refine bodyPost_ret (res_row2 rfl _ _ (w.heap.size + 1) 28 _ (0, 0) _ rfl k1 Try.underlying28 rfl infoPc) rfl ?_
    exact ⟨_, rfl, ⟨_, rfl, own8_nil _ _⟩, J7⟩
  · simp only [hf] at cF
    obtain ⟨f1, f2, f3⟩ := fm_toP hf
    have hT : tnI (W, H, P) q 1 = (ofP (pcT (qtN q) (toP (W, H, P))), 0) := by unfold tnI; rw [hf]; rfl
    rw [hT]
    obtain ⟨p, hp⟩ : ∃ p, toP (W, H, P) = p := ⟨_, rfl⟩
    rw [hp] at f1 f2 f3 ⊢
    obtain ⟨m, n, P'⟩ := p
    obtain ⟨rfl, rfl, rfl⟩ : (m : Int) = W ∧ (n : Int) = H ∧ P' = P := by
      simp only [ofP] at f3
      injection f3 with a b
      injection b with b c
      exact ⟨a, b, c⟩
    obtain ⟨pa, pq, rfl⟩ := rd_slice r
    obtain ⟨hm, hn⟩ := f2
    unfold pcF at f1
    simp only at f1 hm hn
    have cs := fun w => w_psides22 m n q w
    have hQ := qtN_lt q
    have hmv := hid (mv_turn m n P' f1 (qtN q) hQ)
    have hto := mv_turned m n P' f1 (qtN q)
    obtain ⟨sd1, sd2⟩ := sd_small (qtN q) hm hn
    have cT := fun w => w_pturning m n q w hm hn
    rw [← hto]
    obtain ⟨Q, hq⟩ : ∃ Q, qtN q = Q := ⟨_, rfl⟩
    simp only [hq] at cs hQ hmv sd1 sd2 cT ⊢
    clear hto hq
    obtain ⟨⟨a, b⟩, hS⟩ : ∃ S, sdF Q m n = S := ⟨_, rfl⟩
    simp only [hS] at cs hmv sd1 sd2 ⊢
    generalize tuF Q m n = U at cT hmv
    generalize tvF Q m n = V at cT hmv
    generalize toF Q m n = O at hmv
    generalize tgF Q (m, n, P') = G at hmv ⊢
    clear hS
    simp only [ofP]
    obtain ⟨zl, hzl⟩ : ∃ l, mkP a b G = l := ⟨_, rfl⟩
    have F1 := hid f1
    clear r hT hf f3 hp f1
    go_enter Try.func16, Try.ntmps16
    go_upto_region 1 with fail
    generalize (w.alloc (.cells #[.int .i64 (m : Int), .int .i64 (n : Int), .slice pa P'.length pq] 28)).alloc (.cells #[.int .i64 0, .int .i64 0, .slice none 0 0] 28) = W0 at bw s1 s2 r1 ⊢
    have cf := cF W0 bw
    have y0 := s1.cell 0 _ rfl
    have y1 := s1.cell 1 _ rfl
    have y2 := s1.cell 2 _ rfl
    clear cF
    go_upto_region 3 with (first | (go_at_call 20; refine cf.mono ?_; rintro e W1 ⟨rfl, b1⟩) | fail)
    have SR := hid (s2.below b1)
    have r2 := r1.below b1
    have z0 := below_cell b1 y0
    have z1 := below_cell b1 y1
    have z2 := below_cell b1 y2
    have bw1 := below_trans bw b1
    have CM := hid (fun W9 lb (g : Below W1.heap.size W1 W9) (hM : MoveW W9 40 lb m n U V) => w_pmoved m n a b P' _ _ lb U V O G W9 hm hn sd1 sd2 F1.out (r2.below g) hmv.out enters_turn hM)
    simp only [hzl] at CM
    have HZ := hid hzl
    clear hzl hmv r2
    clear y0 y1 y2 s1 s2 cf b1 bw r1
    go_upto_region 4 with (first | (go_at_call 32; refine (cs _).mono ?_; rintro e w9 ⟨rfl, hw⟩; obtain rfl := hw.symm) | fail)
    have HS : Hid (∀ W9, Below W1.heap.size W1 W9 → (W9.cell? ⟨w.heap.size, 0, none⟩ = some (.int .i64 m) ∧ W9.cell? ⟨w.heap.size, 1, none⟩ = some (.int .i64 n) ∧ W9.cell? ⟨w.heap.size, 2, none⟩ = some (.slice pa P'.length pq))) := fun W9 g => ⟨below_cell g z0, below_cell g z1, below_cell g z2⟩
    clear z0 z1 z2
    go_region_held (fun W9 => W9.cell? ⟨w.heap.size, 0, none⟩ = some (.int .i64 m) ∧ W9.cell? ⟨w.heap.size, 1, none⟩ = some (.int .i64 n) ∧ W9.cell? ⟨w.heap.size, 2, none⟩ = some (.slice pa P'.length pq)) (first | with_reducible exact HS.out _ (bd0 _) | with_reducible exact HS.out _ RU.out | with_reducible exact HS.out _ RV.out | with_reducible exact K5.out _ _ _) (first
      | (go_at_call 28; refine (cT _).mono ?_; rintro e qU ⟨lb, rfl, hMv, bU⟩; have RU : Hid (Below W1.heap.size W1 qU) := below_trans (bd0 _) bU; have MU := hid hMv; clear hMv bU)
      | (go_at_call 33; refine (CM.out _ _ RU.out MU.out).mono ?_; rintro e qV ⟨v', rfl, ⟨vX, rfl, oV⟩, bV⟩; obtain ⟨xa, xq, rfl⟩ := own_form oV; have RV : Hid (Below W1.heap.size W1 qV) := below_trans RU.out bV; have SV : Stands qV (w.heap.size + 1) #[.int .i64 0, .int .i64 0, .slice none 0 0] 28 := SR.out.below RV.out; have y0 := SV.cell 0 _ rfl; have y1 := SV.cell 1 _ rfl; have y2 := SV.cell 2 _ rfl; have yf := SV.free; have K5 := hid (keep3 RV.out HS.out); have OV := hid oV; clear oV bV SV))
    all_goals go_wp2_with fail
    all_goals (
      have SV : Stands qV (w.heap.size + 1) #[.int .i64 0, .int .i64 0, .slice none 0 0] 28 := SR.out.below RV.out
      obtain ⟨k1, k2⟩ := set3q SV (.int .i64 (a : Int)) (.int .i64 (b : Int)) (.slice xa zl.length xq)
      have J7 := below_set3 (below_trans bw1 RV.out) (w.heap.size + 1) (.int .i64 (a : Int)) (.int .i64 (b : Int)) (.slice xa zl.length xq) (by omega)
      (try simp only [Exit.inBlock, Exit.then])
      refine bodyPost_ret (res_row2 rfl _ _ (w.heap.size + 1) 28 _ (0, 0) _ rfl k1 Try.underlying28 rfl infoPc) rfl ?_
      exact ⟨_, rfl, ⟨_, rfl, by simp only [HZ.out]; exact own8_base (k2 _ (own8_kept (by decide)) OV.out) (Nat.le_trans bw1.size RU.out.size)⟩, J7⟩)

set_option maxHeartbeats 4000000 in
set_option maxRecDepth 10000 in
theorem w_pmirror22a (p : PicI) (v : Value) (w : World) (h : RdPc w v p) (hz : p.2.2.length ≤ 140737488351232) :
    Calls Try.prog 18 #[v] w fun e w' => ∃ v', e = .returned (.tuple #[v', .int .i64 (miI p 1).2]) ∧ OwPc w.heap.size w' v' (miI p 1).1 ∧ Below w.heap.size w w' := by
  obtain ⟨vP, rfl, r⟩ := h
  obtain ⟨W, H, P⟩ := p
  simp only at r hz ⊢
  have bw := below_trans (box_below w (.cells #[.int .i64 W, .int .i64 H, vP] 28)) (box_below _ (.cells #[.int .i64 0, .int .i64 0, .slice none 0 0] 28))
  have s1 := (stands_new w #[.int .i64 W, .int .i64 H, vP] 28).below (box_below _ (.cells #[.int .i64 0, .int .i64 0, .slice none 0 0] 28))
  have s2 := stands_new (w.alloc (.cells #[.int .i64 W, .int .i64 H, vP] 28)) #[.int .i64 0, .int .i64 0, .slice none 0 0] 28
  rw [size_al] at s2
  have r1 := r.below bw
  have cF := fun W9 (g : Below w.heap.size w W9) => w_pformed22a W H vP P W9 (r.below g) hz
  cases hf : fmI (W, H, P)
  · simp only [hf] at cF
    have hT : miI (W, H, P) 1 = (noP, 1) := by unfold miI; rw [hf]; rfl
    rw [hT]
    obtain ⟨pa, pq, rfl⟩ := rd_slice r
    clear r hT hf
    go_enter Try.func18, Try.ntmps18
    go_upto_region 1 with fail
    generalize (w.alloc (.cells #[.int .i64 W, .int .i64 H, .slice pa P.length pq] 28)).alloc (.cells #[.int .i64 0, .int .i64 0, .slice none 0 0] 28) = W0 at bw s1 s2 r1 ⊢
    have cf := cF W0 bw
    have z0 := s1.cell 0 _ rfl
    have z1 := s1.cell 1 _ rfl
    have z2 := s1.cell 2 _ rfl
    clear cF
    go_upto_region 2 with (first | (go_at_call 20; refine cf.mono ?_; rintro e w1 ⟨rfl, b1⟩) | fail)
    have SR := s2.below b1
    have y0 := SR.cell 0 _ rfl
    have y1 := SR.cell 1 _ rfl
    have y2 := SR.cell 2 _ rfl
    have yf := SR.free
    go_wp2_with fail
    obtain ⟨k1, k2⟩ := set3q SR (.int .i64 0) (.int .i64 0) (.slice none 0 0)
    have J7 := below_set3 (below_trans bw b1) (w.heap.size + 1) (.int .i64 0) (.int .i64 0) (.slice none 0 0) (by omega)
    (try simp only [Exit.inBlock, Exit.then])
    refine bodyPost_ret (res_row2 rfl _ _ (w.heap.size + 1) 28 _ (0, 0) _ rfl k1 Try.underlying28 rfl infoPc) rfl ?_
    exact ⟨_, rfl, ⟨_, rfl, own8_nil _ _⟩, J7⟩
  · simp only [hf] at cF
    obtain ⟨f1, f2, f3⟩ := fm_toP hf
    have hT : miI (W, H, P) 1 = (ofP (pcM (toP (W, H, P))), 0) := by unfold miI; rw [hf]; rfl
    rw [hT]
    obtain ⟨p, hp⟩ : ∃ p, toP (W, H, P) = p := ⟨_, rfl⟩
    rw [hp] at f1 f2 f3 ⊢
    obtain ⟨m, n, P'⟩ := p
    obtain ⟨rfl, rfl, rfl⟩ : (m : Int) = W ∧ (n : Int) = H ∧ P' = P := by
      simp only [ofP] at f3
      injection f3 with a b
      injection b with b c
      exact ⟨a, b, c⟩
    obtain ⟨pa, pq, rfl⟩ := rd_slice r
    obtain ⟨hm, hn⟩ := f2
    unfold pcF at f1
    simp only at f1 hm hn
    have hmv := hid (mv_mirror m n P')
    have cT := fun w => w_pmirroring m n w hm hn
    simp only [pcM, ofP]
    obtain ⟨zl, hzl⟩ : ∃ l, mkP m n (fun x y => pxA m P' (m - 1 - x) y) = l := ⟨_, rfl⟩
    have F1 := hid f1
    clear r hT hf f3 hp f1
    go_enter Try.func18, Try.ntmps18
    go_upto_region 1 with fail
    generalize (w.alloc (.cells #[.int .i64 (m : Int), .int .i64 (n : Int), .slice pa P'.length pq] 28)).alloc (.cells #[.int .i64 0, .int .i64 0, .slice none 0 0] 28) = W0 at bw s1 s2 r1 ⊢
    have cf := cF W0 bw
    have y0 := s1.cell 0 _ rfl
    have y1 := s1.cell 1 _ rfl
    have y2 := s1.cell 2 _ rfl
    clear cF
    go_upto_region 3 with (first | (go_at_call 20; refine cf.mono ?_; rintro e W1 ⟨rfl, b1⟩) | fail)
    have SR := hid (s2.below b1)
    have r2 := r1.below b1
    have z0 := below_cell b1 y0
    have z1 := below_cell b1 y1
    have z2 := below_cell b1 y2
    have bw1 := below_trans bw b1
    have CM := hid (fun W9 lb (g : Below W1.heap.size W1 W9) (hM : MoveW W9 43 lb m n (fun x y => m - 1 - x) (fun x y => y)) => w_pmoved m n m n P' _ _ lb _ _ _ _ W9 hm hn hm hn F1.out (r2.below g) hmv.out enters_mirror hM)
    simp only [hzl] at CM
    have HZ := hid hzl
    clear hzl hmv r2
    clear y0 y1 y2 s1 s2 cf b1 bw r1
    have HS : Hid (∀ W9, Below W1.heap.size W1 W9 → (W9.cell? ⟨w.heap.size, 0, none⟩ = some (.int .i64 m) ∧ W9.cell? ⟨w.heap.size, 1, none⟩ = some (.int .i64 n) ∧ W9.cell? ⟨w.heap.size, 2, none⟩ = some (.slice pa P'.length pq))) := fun W9 g => ⟨below_cell g z0, below_cell g z1, below_cell g z2⟩
    clear z0 z1 z2
    go_region_held (fun W9 => W9.cell? ⟨w.heap.size, 0, none⟩ = some (.int .i64 m) ∧ W9.cell? ⟨w.heap.size, 1, none⟩ = some (.int .i64 n) ∧ W9.cell? ⟨w.heap.size, 2, none⟩ = some (.slice pa P'.length pq)) (first | with_reducible exact HS.out _ (bd0 _) | with_reducible exact HS.out _ RU.out | with_reducible exact HS.out _ RV.out | with_reducible exact K5.out _ _ _) (first
      | (go_at_call 35; refine (cT _).mono ?_; rintro e qU ⟨lb, rfl, hMv, bU⟩; have RU : Hid (Below W1.heap.size W1 qU) := below_trans (bd0 _) bU; have MU := hid hMv; clear hMv bU)
      | (go_at_call 33; refine (CM.out _ _ RU.out MU.out).mono ?_; rintro e qV ⟨v', rfl, ⟨vX, rfl, oV⟩, bV⟩; obtain ⟨xa, xq, rfl⟩ := own_form oV; have RV : Hid (Below W1.heap.size W1 qV) := below_trans RU.out bV; have SV : Stands qV (w.heap.size + 1) #[.int .i64 0, .int .i64 0, .slice none 0 0] 28 := SR.out.below RV.out; have y0 := SV.cell 0 _ rfl; have y1 := SV.cell 1 _ rfl; have y2 := SV.cell 2 _ rfl; have yf := SV.free; have K5 := hid (keep3 RV.out HS.out); have OV := hid oV; clear oV bV SV))
    all_goals go_wp2_with fail
    all_goals (
      have SV : Stands qV (w.heap.size + 1) #[.int .i64 0, .int .i64 0, .slice none 0 0] 28 := SR.out.below RV.out
      obtain ⟨k1, k2⟩ := set3q SV (.int .i64 (m : Int)) (.int .i64 (n : Int)) (.slice xa zl.length xq)
      have J7 := below_set3 (below_trans bw1 RV.out) (w.heap.size + 1) (.int .i64 (m : Int)) (.int .i64 (n : Int)) (.slice xa zl.length xq) (by omega)
      (try simp only [Exit.inBlock, Exit.then])
      refine bodyPost_ret (res_row2 rfl _ _ (w.heap.size + 1) 28 _ (0, 0) _ rfl k1 Try.underlying28 rfl infoPc) rfl ?_
      exact ⟨_, rfl, ⟨_, rfl, by simp only [HZ.out]; exact own8_base (k2 _ (own8_kept (by decide)) OV.out) (Nat.le_trans bw1.size RU.out.size)⟩, J7⟩)

/-
  A picture drawn on another one, point by point of the one that is drawn. No Go text in sight.
-/
/-- which point of t, drawn at x, y, lies over a point: beyond all of them where none does -/
def drO (t : Pic) (x y : Int) (i j : Nat) : Nat :=
  if 0 ≤ (i : Int) - x ∧ (i : Int) - x < t.1 ∧ 0 ≤ (j : Int) - y ∧ (j : Int) - y < t.2.1 then ((j : Int) - y).toNat * t.1 + ((i : Int) - x).toNat else t.1 * t.2.1
/-- p, over which the first k points of t are drawn -/
def eF (p t : Pic) (x y : Int) (k : Nat) : List Int := flF p.1 p.2.1 (drO t x y) (drA p t x y) (fun i j => pxA p.1 p.2.2 i j) k
theorem eF_len (p t : Pic) (x y : Int) (k : Nat) : (eF p t x y k).length = p.1 * p.2.1 := fl_len _ _ _ _ _ _
theorem eF_0 {p : Pic} (hp : pcF p) (t : Pic) (x y : Int) : eF p t x y 0 = p.2.2 := by unfold eF; rw [fl_0, mkP_self hp]
theorem eF_all (p t : Pic) (x y : Int) : eF p t x y (t.1 * t.2.1) = (drF p t x y).2.2 := by
  have hf := drF_f p t x y
  unfold pcF at hf
  apply px_ext (W := p.1) (H := p.2.1) (eF_len _ _ _ _ _) hf
  intro i j hi hj
  have hd := drF_at p t x y hi hj
  have hd : pxA p.1 (drF p t x y).2.2 i j = drA p t x y i j := hd
  rw [hd]
  unfold eF
  rw [fl_at _ _ _ _ hi hj]
  by_cases h : 0 ≤ (i : Int) - x ∧ (i : Int) - x < t.1 ∧ 0 ≤ (j : Int) - y ∧ (j : Int) - y < t.2.1
  · have ho : drO t x y i j < t.1 * t.2.1 := by
      unfold drO
      rw [if_pos h]
      exact px_lt (by omega) (by omega)
    rw [if_pos ho]
  · have ho : drO t x y i j = t.1 * t.2.1 := by unfold drO; rw [if_neg h]
    rw [if_neg (by omega)]
    unfold drA
    rw [if_neg (fun z => h ⟨z.1, z.2.1, z.2.2.1, z.2.2.2.1⟩)]
/-- where the k-th point of t comes to -/
theorem drO_is {t : Pic} {x y : Int} {i j k : Nat} (hk : k < t.1 * t.2.1) : drO t x y i j = k ↔ ((i : Int) = x + (k % t.1 : Nat) ∧ (j : Int) = y + (k / t.1 : Nat)) := by
  obtain ⟨h1, h2, h3⟩ := px_split hk
  generalize k % t.1 = U at h1 h3 ⊢
  generalize k / t.1 = V at h2 h3 ⊢
  constructor
  · intro h
    unfold drO at h
    split at h
    · rename_i c
      rw [← h3] at h
      obtain ⟨g1, g2⟩ := px_inj (show ((i : Int) - x).toNat < t.1 by omega) h1 h
      omega
    · omega
  · rintro ⟨g1, g2⟩
    unfold drO
    rw [if_pos (by omega), show ((j : Int) - y).toNat = V by omega, show ((i : Int) - x).toNat = U by omega]
    exact h3
theorem drA_is {p t : Pic} {x y : Int} {i j k : Nat} (hk : k < t.1 * t.2.1) (h1 : (i : Int) = x + (k % t.1 : Nat)) (h2 : (j : Int) = y + (k / t.1 : Nat)) :
    drA p t x y i j = if t.2.2.getD k 0 = 0 then pxA p.1 p.2.2 i j else t.2.2.getD k 0 := by
  obtain ⟨g1, g2, g3⟩ := px_split hk
  generalize k % t.1 = U at g1 g3 h1
  generalize k / t.1 = V at g2 g3 h2
  have hp : pxA t.1 t.2.2 ((i : Int) - x).toNat ((j : Int) - y).toNat = t.2.2.getD k 0 := by
    rw [show ((j : Int) - y).toNat = V by omega, show ((i : Int) - x).toNat = U by omega]
    unfold pxA
    rw [g3]
  unfold drA
  rw [hp]
  by_cases c : t.2.2.getD k 0 = 0
  · rw [if_pos c, if_neg (fun z => z.2.2.2.2 c)]
  · rw [if_neg c, if_pos ⟨by omega, by omega, by omega, by omega, c⟩]
theorem eF_set {p t : Pic} {x y : Int} {k c r : Nat} (hk : k < t.1 * t.2.1) (h1 : (c : Int) = x + (k % t.1 : Nat)) (h2 : (r : Int) = y + (k / t.1 : Nat)) (hc : c < p.1) (hr : r < p.2.1) (h0 : ¬ t.2.2.getD k 0 = 0) :
    r * p.1 + c < p.1 * p.2.1 ∧ (eF p t x y k).set (r * p.1 + c) (t.2.2.getD k 0) = eF p t x y (k + 1) := by
  refine ⟨px_lt hc hr, ?_⟩
  have := fl_set (drA p t x y) (fun i j => pxA p.1 p.2.2 i j) hc hr ((drO_is (x := x) (y := y) hk).2 ⟨h1, h2⟩) (fun X Y hX hY h => by
    have := (drO_is hk).1 h
    omega)
  rw [drA_is hk h1 h2, if_neg h0] at this
  exact this
theorem eF_skip {p t : Pic} {x y : Int} {k : Nat} (hk : k < t.1 * t.2.1) (h : t.2.2.getD k 0 = 0 ∨ ¬ (0 ≤ x + (k % t.1 : Nat) ∧ x + (k % t.1 : Nat) < p.1 ∧ 0 ≤ y + (k / t.1 : Nat) ∧ y + (k / t.1 : Nat) < p.2.1)) :
    eF p t x y (k + 1) = eF p t x y k := by
  unfold eF
  apply px_ext (fl_len _ _ _ _ _ _) (fl_len _ _ _ _ _ _)
  intro X Y hX hY
  rw [fl_at _ _ _ _ hX hY, fl_at _ _ _ _ hX hY]
  by_cases c : drO t x y X Y < k
  · rw [if_pos (by omega), if_pos c]
  · rw [if_neg c]
    by_cases c2 : drO t x y X Y < k + 1
    · rw [if_pos c2]
      obtain ⟨e1, e2⟩ := (drO_is hk).1 (show drO t x y X Y = k by omega)
      rw [drA_is hk e1 e2]
      rcases h with h | h
      · rw [if_pos h]
      · exact absurd ⟨by omega, by omega, by omega, by omega⟩ h
    · rw [if_neg c2]

end Go.Proofs.Ythihkfimledccaa
