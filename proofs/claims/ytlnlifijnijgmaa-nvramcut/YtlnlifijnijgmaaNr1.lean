/-
  Sum of the document's answer for layer 18: what it returns, for all bytes.
-/
import Derived.Test.YtlnlifijnijgmaaPn2
import Derived.Test.YtlnlifijnijgmaaRp2
import Derived.Laws.BitsAllLaws
namespace Go.Proofs.Ytlnlifijnijgmaa
open Go.ChangeShapes Go.WideShapes Go.ChangeAt Go.RowKit
set_option linter.unusedVariables false
set_option linter.unusedSimpArgs false

theorem xor_low (h x : Nat) (hx : x < 256) : h - h % 256 + (h % 256 ^^^ x) = h ^^^ x := by
  have e1 : (h ^^^ x) % 256 = h % 256 ^^^ x := by
    have := @Nat.xor_mod_two_pow h x 8
    rw [show (2 : Nat) ^ 8 = 256 from rfl] at this
    rw [this, Nat.mod_eq_of_lt hx]
  have e2 : (h ^^^ x) / 256 = h / 256 := by
    have := @Nat.shiftRight_xor_distrib 8 h x
    rw [Nat.shiftRight_eq_div_pow, Nat.shiftRight_eq_div_pow, Nat.shiftRight_eq_div_pow, show (2 : Nat) ^ 8 = 256 from rfl, Nat.div_eq_of_lt hx, Nat.xor_zero] at this
    exact this
  have h1 := Nat.div_add_mod h 256
  have h2 := Nat.div_add_mod (h ^^^ x) 256
  rw [e1, e2] at h2
  omega
/-- one step of the sum, as the document's answer takes it -/
theorem step_low (a b : Int) (a0 : 0 ≤ a) (a1 : a < 4294967296) (b0 : 0 ≤ b) (b1 : b < 256) : ∃ X Y : Int, bits .xor .u64 (a % 256) b = X ∧ 0 ≤ X ∧ X < 256 ∧ a - a % 256 + X = Y ∧ 0 ≤ Y ∧ Y < 4294967296 ∧ fnvS a b = Y * 16777619 % 4294967296 := by
  refine ⟨(((a % 256).toNat ^^^ b.toNat : Nat) : Int), ((a.toNat ^^^ b.toNat : Nat) : Int), u64_xor _ _ (by omega) (by omega) (by omega) (by omega), by omega, ?_, ?_, by omega, ?_, ?_⟩
  · have := Nat.xor_lt_two_pow (n := 8) (x := (a % 256).toNat) (y := b.toNat) (by omega) (by omega)
    omega
  · have := xor_low a.toNat b.toNat (by omega)
    have e : (a % 256).toNat = a.toNat % 256 := by omega
    rw [e]
    omega
  · have := xor_lt32 (a := a.toNat) (b := b.toNat) (by omega) (by omega)
    omega
  · unfold fnvS
    omega

set_option maxHeartbeats 2000000 in
theorem w_rsum18 (g : Int) (v : Value) (xs : List Int) (w : World) (g0 : 0 ≤ g) (g1 : g < 256) (h : Rd .u8 w v xs) (hb : bytesL xs) (hz : xs.length ≤ 140737488351232) :
    Calls Try.prog 11 #[.int .u8 g, v] w fun e w' => e = .returned (.int .u32 (nsF g xs)) ∧ Below w.heap.size w w' := by
  obtain ⟨i0, hi, hz0, hz1, hz2⟩ := info_parts infoU8
  have hlen := rd_len h uB (P := Try.prog)
  obtain ⟨L, hL⟩ : ∃ L : Int, (xs.length : Int) = L := ⟨_, rfl⟩
  have hns : Hid (nsF g xs = fnvL 2166136261 ([g, L / 256 % 256, L % 256] ++ xs)) := by show _ = _; rw [← hL]; rfl
  have hL0 : 0 ≤ L := by omega
  have hL1 : L ≤ 140737488351232 := by omega
  rw [hL] at hlen
  have HL := hid hL
  clear hL
  have w0 : IntKind.u64.wrap L = L := by rw [IntKind.wrap_u64]; omega
  have t1 : L.tdiv 256 = L / 256 := Int.tdiv_eq_ediv_of_nonneg hL0
  have t2 : (L / 256).tmod 256 = L / 256 % 256 := Int.tmod_eq_emod_of_nonneg (by omega)
  have t3 : L.tmod 256 = L % 256 := Int.tmod_eq_emod_of_nonneg hL0
  have w1 : IntKind.u8.wrap (L / 256 % 256) = L / 256 % 256 := by rw [IntKind.wrap_u8]; omega
  have w2 : IntKind.u8.wrap (L % 256) = L % 256 := by rw [IntKind.wrap_u8]; omega
  have o0 : Own8 w.heap.size (w.alloc (.cells #[.int .u8 g, .int .u8 (L / 256 % 256), .int .u8 (L % 256)] 5)) (.slice (some ⟨w.heap.size, 0, none⟩) 3 3) [g, L / 256 % 256, L % 256] := ⟨by simp, .inr ⟨w.heap.size, 3, _, rfl, Nat.le_refl _, heap_alloc_new w _, by simp, by decide, rfl, rfl⟩⟩
  have r0 := h.below (box_below w (.cells #[.int .u8 g, .int .u8 (L / 256 % 256), .int .u8 (L % 256)] 5))
  have b0 := box_below w (.cells #[.int .u8 g, .int .u8 (L / 256 % 256), .int .u8 (L % 256)] 5)
  have hyb : bytesL ([g, L / 256 % 256, L % 256] ++ xs) := bytes_app (fun x hx => by simp only [List.mem_cons, List.not_mem_nil, or_false] at hx; omega) hb
  have hyl : (([g, L / 256 % 256, L % 256] ++ xs).length : Int) = L + 3 := by rw [List.length_append, ← HL.out]; simp; omega
  have hyt := fun k => fnvL_bd (([g, L / 256 % 256, L % 256] ++ xs).take k) 2166136261 (by omega)
  go_enter Try.func11, Try.ntmps11
  go_wp2_with (at_builtin; refine wpList_append_rd (k := .u8) rfl _ _ 22 rfl w.heap.size 5 i0 1 Try.underlying22 hi hz0 hz1 hz2 _ [g, L / 256 % 256, L % 256] rfl o0 v xs rfl r0 (by unfold maxLen; simp only [List.length_cons, List.length_nil]; omega) (by simp only [List.length_cons, List.length_nil]; omega) (by simp) ?_; intro v3 w3 o3 g3; have b3 := below_grown b0 g3 (fun k hk => (o0.lt k hk).1))
  have r3 := (Rd_own o3).1
  obtain ⟨ys, hys⟩ : ∃ ys, [g, L / 256 % 256, L % 256] ++ xs = ys := ⟨_, rfl⟩
  rw [hys] at hns hyb hyl hyt r3
  have hl3 := rd_len r3 uB (P := Try.prog)
  have HY := hid hyl
  have hy1 : (ys.length : Int) ≤ 140737488351235 := by omega
  clear o3 o0 r0 hys hyl
  go_loopw [7, 8] (fun U I wx => ∃ k : Nat, (k : Int) ≤ ys.length ∧ I = .int .i64 k ∧ U = .int .u64 (fnvL 2166136261 (ys.take k)) ∧ wx = w3) (fun _ I _ => (ys.length - intOf I).toNat)
  case atStart => exact ⟨0, by omega, rfl, rfl, rfl⟩
  case round =>
    obtain ⟨k, hk, rfl, rfl, rfl⟩ := hrel
    by_cases hlt : (k : Int) < ys.length
    · obtain ⟨ad, b, q1, q2, q3, q4, q5⟩ := mem_at r3 hyb k (by omega) (by omega)
      have hkk : k < ys.length := by omega
      have hsm := hyt k
      have hnx : Hid (fnvL 2166136261 (ys.take (k + 1)) = fnvS (fnvL 2166136261 (ys.take k)) b) := by
        show _ = _
        rw [List.take_succ_eq_append_getElem hkk, fnvL_snoc]
        congr 1
        rw [← q5, List.getD_eq_getElem?_getD]
        simp [hkk]
      obtain ⟨a, ha⟩ : ∃ a, fnvL 2166136261 (ys.take k) = a := ⟨_, rfl⟩
      rw [ha] at hsm hnx ⊢
      obtain ⟨m0, m1⟩ := hsm
      obtain ⟨X, Y, x1, x2, x3, x4, x5, x6, x7⟩ := step_low a b m0 m1 q3 q4
      have HF := hid x7
      have t4 : a.tmod 256 = a % 256 := Int.tmod_eq_emod_of_nonneg m0
      have t5 : (Y * 16777619).tmod 4294967296 = Y * 16777619 % 4294967296 := Int.tmod_eq_emod_of_nonneg (by omega)
      clear ha q5 x7 hyt
      go_wp2_with fail
      go_roundw
      case rel => exact ⟨k + 1, by omega, by go_num, by rw [hnx.out, HF.out], trivial⟩
      case measure => simp [intOf]; omega
    · have e : Hid (ys.take k = ys) := List.take_of_length_le (by omega)
      have hsm := hyt k
      obtain ⟨m0, m1⟩ := hsm
      go_wp2_with fail
      go_ret
      rw [hns.out, e.out]
      exact ⟨rfl, b3⟩
end Go.Proofs.Ytlnlifijnijgmaa
