/-
  Sum, number, headed, mark, Clone of the landed package head: what they return, for all bytes.
-/
import Derived.Test.YtfnjebmjaokalaaPh1
import Derived.Test.YtfnjebmjaokalaaRp2
import Derived.Lib.BytesEntry
namespace Go.Proofs.Ytfnjebmjaokalaa
open Go.ChangeShapes Go.WideShapes Go.ChangeAt Go.RowKit
set_option linter.unusedVariables false
set_option linter.unusedSimpArgs false

/-- a cut whose end is a cell -/
theorem rd_cutU {P : Program} {k : IntKind} {w : World} {v : Value} {xs : List Int} (h : Rd k w v xs) {t : TypeId} (ht : P.underlying t = some (.slice (P.elem t))) (hs : ∀ w, (sizeOf (P.elem t)).run P w = .ok 1 w) (lo hi : Int) (h0 : 0 ≤ lo) (h1 : lo ≤ hi) (h2 : hi ≤ xs.length) :
    ∃ v', Rd k w v' ((xs.drop lo.toNat).take (hi - lo).toNat) ∧ (∀ w', (Instr.slice t v (some (.int .i64 lo)) (some (.int .u32 hi)) none).run P w' = .ok v' w') := by
  obtain ⟨v', r, a, b, c⟩ := rd_cutI h ht hs lo hi h0 h1 h2
  refine ⟨v', r, fun w' => ?_⟩
  have := a w'
  obtain ⟨ao, cap, rfl, hc, hn, hx⟩ := rd_form h
  rw [run_slice_lh w' t ao xs.length cap ht .i64 .i64 lo hi (by omega) (by omega) (by omega)] at this
  rw [run_slice_lh w' t ao xs.length cap ht .i64 .u32 lo hi (by omega) (by omega) (by omega)]
  exact this
theorem or_joinQ (y b k : Nat) (h : b < 2 ^ k) : (y * 2 ^ k ||| b) = y * 2 ^ k + b := by
  rw [Nat.mul_comm, Nat.two_pow_add_eq_or_of_lt h]
theorem or32Q (y b : Int) (y0 : 0 ≤ y) (b0 : 0 ≤ b) (hb : b < 256) (hy : y * 256 + b < 4294967296) : bits .or .u32 (y * 256) b = y * 256 + b := by
  obtain ⟨n, rfl⟩ := Int.eq_ofNat_of_zero_le y0
  obtain ⟨m, rfl⟩ := Int.eq_ofNat_of_zero_le b0
  have e : (n : Int) * 256 = ((n * 2 ^ 8 : Nat) : Int) := by omega
  rw [e] at hy ⊢
  rw [u32_or _ _ (by omega) (by omega) (by omega) (by omega), Int.toNat_natCast, Int.toNat_natCast, or_joinQ n m 8 (by omega)]
  omega
theorem be_bd : ∀ (k : Nat) (l : List Int), bytesL l → l.length = k → 0 ≤ beV l ∧ beV l < 256 ^ k := by
  intro k
  induction k with
  | zero =>
    intro l hb hl
    have : l = [] := List.eq_nil_of_length_eq_zero hl
    subst this
    simp [beV]
  | succ k ih =>
    intro l hb hl
    have hne : l ≠ [] := by intro h; subst h; simp at hl
    rw [← List.dropLast_concat_getLast hne] at hb hl ⊢
    have h1 := ih l.dropLast (fun x hx => hb x (List.mem_append.2 (Or.inl hx))) (by rw [List.length_append] at hl; simp only [List.length_cons, List.length_nil] at hl; omega)
    have h2 := hb (l.getLast hne) (by simp)
    rw [beV_snoc, Int.pow_succ]
    omega
theorem be_small (l : List Int) (hb : bytesL l) (hl : l.length ≤ 3) : 0 ≤ beV l ∧ beV l < 16777216 := by
  have h := be_bd l.length l hb rfl
  refine ⟨h.1, ?_⟩
  have : (256 : Int) ^ l.length ≤ 16777216 := by
    match hl' : l.length, hl with
    | 0, _ => decide
    | 1, _ => decide
    | 2, _ => decide
    | 3, _ => decide
  omega

set_option maxHeartbeats 1000000 in
theorem w_psum (v : Value) (xs : List Int) (w : World) (h : Rd .u8 w v xs) (hb : bytesL xs) (hz : xs.length ≤ 140737488355328) :
    Calls Try.prog 11 #[v] w fun e w' => e = .returned (.int .i64 (sumF xs)) ∧ w' = w := by
  have hlen := rd_len h uB (P := Try.prog)
  go_enter Try.func11, Try.ntmps11
  go_wp2_with fail
  go_loopw [3, 8] (fun U I wx => ∃ k : Nat, (k : Int) ≤ xs.length ∧ I = .int .i64 k ∧ U = .int .u16 (sumF (xs.take k)) ∧ wx = w) (fun _ I _ => (xs.length - intOf I).toNat)
  case atStart => exact ⟨0, by omega, rfl, rfl, rfl⟩
  case round =>
    obtain ⟨k, hk, rfl, rfl, rfl⟩ := hrel
    by_cases hlt : (k : Int) < xs.length
    · obtain ⟨ad, b, q1, q2, q3, q4, q5⟩ := mem_at h hb k (by omega) (by omega)
      have hkk : k < xs.length := by omega
      have hsm := sum_bd (xs.take k)
      have hnx : Hid (sumF (xs.take (k + 1)) = (sumF (xs.take k) + b) % 65536) := by
        show _ = _
        rw [List.take_succ_eq_append_getElem hkk, sum_snoc]
        congr 2
        rw [← q5, List.getD_eq_getElem?_getD]
        simp [hkk]
      obtain ⟨a, ha⟩ : ∃ a, sumF (xs.take k) = a := ⟨_, rfl⟩
      rw [ha] at hsm hnx ⊢
      obtain ⟨m0, m1⟩ := hsm
      have hw : IntKind.u16.wrap (a + b) = (a + b) % 65536 := by rw [IntKind.wrap_u16]
      clear ha q5
      go_wp2_with fail
      go_roundw
      case rel => exact ⟨k + 1, by omega, by go_num, by rw [hnx.out], trivial⟩
      case measure => simp [intOf]; omega
    · have e : Hid (xs.take k = xs) := List.take_of_length_le (by omega)
      have hsm := sum_bd (xs.take k)
      obtain ⟨m0, m1⟩ := hsm
      go_wp2_with fail
      go_ret
      rw [e.out]
      exact ⟨rfl, rfl⟩

set_option maxHeartbeats 1000000 in
theorem w_pnumber (v : Value) (X : List Int) (w : World) (r1 : Rd .u8 w v X) (tb : bytesL X) (hl : X.length ≤ 4) :
    Calls Try.prog 19 #[v] w fun e w' => e = .returned (.int .u32 (beV X)) ∧ w' = w := by
  have hlen := rd_len r1 uB (P := Try.prog)
  have hXl : (X.length : Int) ≤ 4 := by omega
  go_enter Try.func19, Try.ntmps19
  go_wp2_with fail
  go_loopw [3, 8] (fun U I wx => ∃ k : Nat, (k : Int) ≤ X.length ∧ I = .int .i64 k ∧ U = .int .u32 (beV (X.take k)) ∧ wx = w) (fun _ I _ => (X.length - intOf I).toNat)
  case atStart => exact ⟨0, by omega, rfl, rfl, rfl⟩
  case round =>
    obtain ⟨k, hk, rfl, rfl, rfl⟩ := hrel
    by_cases hlt : (k : Int) < X.length
    · obtain ⟨ad, b, q1, q2, q3, q4, q5⟩ := mem_at r1 tb k (by omega) (by omega)
      have hkk : k < X.length := by omega
      have hsm := be_small (X.take k) (fun x hx => tb x (List.mem_of_mem_take hx)) (by simp; omega)
      have hnx : Hid (beV (X.take (k + 1)) = beV (X.take k) * 256 + b) := by
        show _ = _
        rw [List.take_succ_eq_append_getElem hkk, beV_snoc]
        congr 1
        rw [← q5, List.getD_eq_getElem?_getD]
        simp [hkk]
      obtain ⟨a, ha⟩ : ∃ a, beV (X.take k) = a := ⟨_, rfl⟩
      rw [ha] at hsm hnx ⊢
      have hor := or32Q a b hsm.1 q3 q4 (by omega)
      obtain ⟨m0, m1⟩ := hsm
      have hw : IntKind.u32.wrap (a * 256) = a * 256 := by rw [IntKind.wrap_u32]; omega
      clear ha q5
      go_wp2_with fail
      go_roundw
      case rel => exact ⟨k + 1, by omega, by go_num, by rw [hnx.out], trivial⟩
      case measure => simp [intOf]; omega
    · have e : Hid (X.take k = X) := List.take_of_length_le (by omega)
      go_wp2_with fail
      go_ret
      rw [e.out]
      exact ⟨rfl, rfl⟩

set_option maxHeartbeats 1000000 in
theorem w_pmark (wide : Bool) (w : World) : Calls Try.prog 16 #[.bool wide] w fun e w' => e = .returned (.int .u8 (mkF wide)) ∧ w' = w := by
  cases wide
  all_goals go_enter Try.func16, Try.ntmps16
  all_goals go_wp2_with fail
  all_goals go_ret
  all_goals exact ⟨rfl, rfl⟩

set_option maxHeartbeats 1000000 in
theorem w_pheaded (v : Value) (xs : List Int) (w : World) (h : Rd .u8 w v xs) (hb : bytesL xs) (hz : xs.length ≤ 140737488355328) :
    Calls Try.prog 18 #[v] w fun e w' => e = .returned (.bool (decide (8 ≤ xs.length ∧ xs.length ≤ 8192) && decide ((xs.getD 0 0 = 241 ∨ xs.getD 0 0 = 253) ∧ xs.getD 1 0 = 8))) ∧ Below w.heap.size w w' := by
  have hlen := rd_len h uB (P := Try.prog)
  by_cases h1 : (xs.length : Int) < 8
  · have e : (decide (8 ≤ xs.length ∧ xs.length ≤ 8192) && decide ((xs.getD 0 0 = 241 ∨ xs.getD 0 0 = 253) ∧ xs.getD 1 0 = 8)) = false := by
      rw [decide_eq_false (by omega), Bool.false_and]
    rw [e]
    go_enter Try.func18, Try.ntmps18
    go_wp2_with fail
    go_ret
    exact ⟨rfl, Below.refl _ _⟩
  by_cases h2 : (8192 : Int) < xs.length
  · have e : (decide (8 ≤ xs.length ∧ xs.length ≤ 8192) && decide ((xs.getD 0 0 = 241 ∨ xs.getD 0 0 = 253) ∧ xs.getD 1 0 = 8)) = false := by
      rw [decide_eq_false (by omega), Bool.false_and]
    rw [e]
    go_enter Try.func18, Try.ntmps18
    go_wp2_with fail
    go_ret
    exact ⟨rfl, Below.refl _ _⟩
  obtain ⟨ad, b0, q1, q2, q3, q4, q5⟩ := mem_at h hb 0 (by omega) (by omega)
  obtain ⟨ae, b1, p1, p2, p3, p4, p5⟩ := mem_at h hb 1 (by omega) (by omega)
  rw [show (0 : Int).toNat = 0 from rfl] at q5
  rw [show (1 : Int).toNat = 1 from rfl] at p5
  rw [q5, p5, decide_eq_true (show 8 ≤ xs.length ∧ xs.length ≤ 8192 by omega), Bool.true_and]
  clear q5 p5
  by_cases h3 : b0 = 241
  · subst h3
    by_cases h4 : b1 = 8
    · subst h4
      go_enter Try.func18, Try.ntmps18
      go_wp2_with fail
      go_ret
      exact ⟨rfl, Below.refl _ _⟩
    · have hq : (b1 == 8) = false := by simpa using h4
      have e : decide ((241 = (241 : Int) ∨ (241 : Int) = 253) ∧ b1 = 8) = false := by rw [decide_eq_false_iff_not]; omega
      rw [e]
      go_enter Try.func18, Try.ntmps18
      go_wp2_with fail
      go_ret
      exact ⟨rfl, Below.refl _ _⟩
  · have hq3 : (b0 == 241) = false := by simpa using h3
    by_cases h5 : b0 = 253
    · subst h5
      by_cases h4 : b1 = 8
      · subst h4
        go_enter Try.func18, Try.ntmps18
        go_wp2_with fail
        go_ret
        exact ⟨rfl, Below.refl _ _⟩
      · have hq : (b1 == 8) = false := by simpa using h4
        have e : decide ((253 = (241 : Int) ∨ (253 : Int) = 253) ∧ b1 = 8) = false := by rw [decide_eq_false_iff_not]; omega
        rw [e]
        go_enter Try.func18, Try.ntmps18
        go_wp2_with fail
        go_ret
        exact ⟨rfl, Below.refl _ _⟩
    · have hq5 : (b0 == 253) = false := by simpa using h5
      have e : decide ((b0 = (241 : Int) ∨ b0 = 253) ∧ b1 = 8) = false := by rw [decide_eq_false_iff_not]; omega
      rw [e]
      go_enter Try.func18, Try.ntmps18
      go_wp2_with fail
      go_ret
      exact ⟨rfl, Below.refl _ _⟩

set_option maxHeartbeats 1000000 in
theorem w_pclone8 (v : Value) (xs : List Int) (w : World) (h : Rd .u8 w v xs) (hz : xs.length ≤ 140737488355328) :
    Calls Try.prog 20 #[v] w fun e w' => ∃ v', e = .returned v' ∧ Rd .u8 w' v' xs ∧ Below w.heap.size w w' := by
  obtain ⟨i0, hi, hz0, hz1, hz2⟩ := info_parts infoU8
  obtain ⟨ao, cap, rfl, hc, hn, hx⟩ := rd_form h
  cases ao with
  | none =>
    have hc0 := hn rfl
    have hl : xs = [] := List.eq_nil_of_length_eq_zero (by omega)
    subst hl
    subst hc0
    show Calls _ _ #[.slice none 0 0] _ _
    have q := Lib.run_eql_slice_nil (P := Try.prog) w 22 5 none 0 0 0 0 Try.underlying22
    go_enter Try.func20, Try.ntmps20
    go_wp2_with fail
    go_ret
    exact ⟨_, rfl, Rd_nil, Below.refl _ _⟩
  | some a =>
    have q := Lib.run_eql_slice_nil (P := Try.prog) w 22 5 (some a) xs.length cap 0 0 Try.underlying22
    have ha := h.below (box_below w (.cells #[] 5))
    go_enter Try.func20, Try.ntmps20
    go_wp2_with (at_builtin; refine wpList_append_rd (k := .u8) rfl _ _ 22 rfl w.heap.size 5 i0 1 Try.underlying22 hi hz0 hz1 hz2 _ [] rfl (World.ownsRow_made w #[] 0 (Nat.le_refl _) (Nat.zero_le _) rfl) _ xs rfl ha (by unfold maxLen; simp; omega) (by simp; omega) (by simp) ?_; intro v5 w5 ho5 hg5)
    go_ret
    exact ⟨v5, rfl, by simpa using (Rd_own ho5).1, below_grown (box_below w _) hg5 (fun k hk => by simp [Value.ownBlock, Act.eval] at hk; omega)⟩
end Go.Proofs.Ytfnjebmjaokalaa
