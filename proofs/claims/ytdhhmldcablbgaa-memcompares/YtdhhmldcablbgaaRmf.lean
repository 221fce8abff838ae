/-
  Fetch and Text of the document's answer for a memory of bytes.
-/
import Derived.Test.YtdhhmldcablbgaaRmm
namespace Go.Proofs.Ytdhhmldcablbgaa
open Go.ChangeShapes Go.WideShapes Go.ChangeAt Go.RowKit
set_option linter.unusedVariables false
set_option linter.unusedSimpArgs false

/-- a byte of the memory: its address' rule, its cell, its bounds -/
theorem mem_at {w : World} {v : Value} {xs : List Int} (h : Rd .u8 w v xs) (hb : bytesL xs) (i : Int) (h0 : 0 ≤ i) (h1 : i < xs.length) :
    ∃ (ad : Addr) (b : Int), (∀ w', (Instr.indexAt 22 v (.int .i64 i)).run Try.prog w' = .ok (.pointer (some ad)) w') ∧ w.cell? ad = some (.int .u8 b) ∧ 0 ≤ b ∧ b < 256 ∧ xs.getD i.toNat 0 = b := by
  obtain ⟨ad, h2, h3⟩ := rd_idx h uB zB i h0 h1
  have hm : xs.getD i.toNat 0 ∈ xs := by
    rw [List.getD_eq_getElem?_getD, List.getElem?_eq_getElem (by omega)]
    simp
  exact ⟨ad, _, h2, h3, (hb _ hm).1, (hb _ hm).2, rfl⟩
theorem take_one (xs : List Int) (p : Nat) (h : p < xs.length) : (xs.drop p).take 1 = [xs.getD p 0] := by
  rw [List.drop_eq_getElem_cons h, List.getD_eq_getElem?_getD, List.getElem?_eq_getElem h]; rfl
theorem take_more (xs : List Int) (p n : Nat) (h : p < xs.length) : (xs.drop p).take (n + 1) = xs.getD p 0 :: (xs.drop (p + 1)).take n := by
  rw [List.drop_eq_getElem_cons h, List.getD_eq_getElem?_getD, List.getElem?_eq_getElem h]; rfl

set_option maxHeartbeats 1000000 in
theorem w_rfetch (v : Value) (xs : List Int) (a s : Int) (w : World) (h : Rd .u8 w v xs) (hB : bytesL xs) (hz : xs.length ≤ 140737488355328) (a0 : 0 ≤ a) (a1 : a < 4294967296) (s0 : 0 ≤ s) (s1 : s < 4294967296) :
    Calls Try.prog 12 #[v, .int .u32 a, .int .u32 s] w fun e w' => e = .returned (.tuple #[.int .u32 (fetF xs a s).1, .int .i64 (fetF xs a s).2]) ∧ Below w.heap.size w w' := by
  have cw := w_rwrong v xs a s w h hz a0 a1 s0 s1
  by_cases hw : wrongF xs.length a s = 0
  · obtain ⟨hs, hm, hl, hr⟩ := wrong_ok hw
    rw [hw] at cw
    have e : fetF xs a s = (beV ((xs.drop a.toNat).take s.toNat), 0) := by unfold fetF; rw [if_pos hw]
    rw [e]
    clear e hw hm
    obtain ⟨ad0, b0, r0, c0, l0, u0, g0⟩ := mem_at h hB a (by omega) (by omega)
    rcases hs with rfl | rfl | rfl
    · have e : beV ((xs.drop a.toNat).take (1 : Int).toNat) = b0 := by
        rw [show (1 : Int).toNat = 1 from rfl, take_one xs a.toNat (by omega), g0]; simp [beV]
      rw [e]
      clear e g0
      go_enter Try.func12, Try.ntmps12
      go_wp2_with (go_at_call 29; refine cw.mono ?_; rintro e w1 ⟨rfl, rfl⟩)
      go_rounds 2
      go_ret2
      exact ⟨rfl, Below.refl _ _⟩
    · obtain ⟨ad1, b1, r1, c1, l1, u1, g1⟩ := mem_at h hB (a + 1) (by omega) (by omega)
      have e : beV ((xs.drop a.toNat).take (2 : Int).toNat) = b0 * 256 + b1 := by
        rw [show (2 : Int).toNat = 1 + 1 from rfl, take_more xs a.toNat 1 (by omega), take_one xs (a.toNat + 1) (by omega), g0, show a.toNat + 1 = (a + 1).toNat by omega, g1]; simp [beV]
      rw [e]
      clear e g0 g1
      go_enter Try.func12, Try.ntmps12
      go_wp2_with (go_at_call 29; refine cw.mono ?_; rintro e w1 ⟨rfl, rfl⟩)
      go_rounds 3
      go_ret2
      exact ⟨rfl, Below.refl _ _⟩
    · obtain ⟨ad1, b1, r1, c1, l1, u1, g1⟩ := mem_at h hB (a + 1) (by omega) (by omega)
      obtain ⟨ad2, b2, r2, c2, l2, u2, g2⟩ := mem_at h hB (a + 2) (by omega) (by omega)
      obtain ⟨ad3, b3, r3, c3, l3, u3, g3⟩ := mem_at h hB (a + 3) (by omega) (by omega)
      have e : beV ((xs.drop a.toNat).take (4 : Int).toNat) = ((b0 * 256 + b1) * 256 + b2) * 256 + b3 := by
        rw [show (4 : Int).toNat = 3 + 1 from rfl, take_more xs a.toNat 3 (by omega), take_more xs (a.toNat + 1) 2 (by omega), take_more xs (a.toNat + 1 + 1) 1 (by omega), take_one xs (a.toNat + 1 + 1 + 1) (by omega), g0, show a.toNat + 1 = (a + 1).toNat by omega, g1, show (a + 1).toNat + 1 = (a + 2).toNat by omega, g2, show (a + 2).toNat + 1 = (a + 3).toNat by omega, g3]; simp [beV]
      rw [e]
      clear e g0 g1 g2 g3
      go_enter Try.func12, Try.ntmps12
      go_wp2_with (go_at_call 29; refine cw.mono ?_; rintro e w1 ⟨rfl, rfl⟩)
      go_rounds 5
      go_ret2
      exact ⟨rfl, Below.refl _ _⟩
  · obtain ⟨E, hE⟩ : ∃ E, wrongF xs.length a s = E := ⟨_, rfl⟩
    have e : fetF xs a s = (0, E) := by unfold fetF; rw [if_neg hw, hE]
    rw [e]
    rw [hE] at cw hw
    have hb : (E != 0) = true := by simpa using hw
    clear e hE hw
    go_enter Try.func12, Try.ntmps12
    go_wp2_with (go_at_call 29; refine cw.mono ?_; rintro e w1 ⟨rfl, rfl⟩)
    go_ret2
    exact ⟨rfl, Below.refl _ _⟩

theorem w_rtext (v : Value) (xs : List Int) (a n : Int) (w : World) (h : Rd .u8 w v xs) (hB : bytesL xs) (hz : xs.length ≤ 140737488355328) (a0 : 0 ≤ a) (a1 : a < 4294967296) (n0 : 0 ≤ n) (n1 : n < 4294967296) :
    Calls Try.prog 17 #[v, .int .u32 a, .int .u32 n] w fun e w' => e = .returned (.tuple #[.string (strOfNums (texF xs a n).1), .int .i64 (texF xs a n).2]) ∧ Below w.heap.size w w' := by
  have cin := w_rin v xs a n w h hz a0 a1 n0 n1
  cases hi : inF xs.length a n
  · have e : texF xs a n = ([], 9) := by unfold texF; rw [hi]; rfl
    rw [e]
    rw [hi] at cin
    clear e
    go_enter Try.func17, Try.ntmps17
    go_wp2_with (go_at_call 32; refine cin.mono ?_; rintro e w1 ⟨rfl, rfl⟩)
    go_ret2
    exact ⟨rfl, Below.refl _ _⟩
  · obtain ⟨A, hA⟩ : ∃ A, (xs.drop a.toNat).take n.toNat = A := ⟨_, rfl⟩
    have e : texF xs a n = (A, 0) := by unfold texF; rw [hi, hA]; rfl
    rw [e]
    rw [hi] at cin
    simp [inF] at hi
    obtain ⟨va, ra, c1, x1, x2⟩ := rd_cutI h uB zB a (a + n) (by omega) (by omega) (by omega)
    rw [show (a + n - a).toNat = n.toNat by omega, hA] at ra
    have cs := rd_strT ra
    obtain ⟨T, hT⟩ : ∃ T, strOfNums A = T := ⟨_, rfl⟩
    show Calls _ _ _ _ fun e w' => e = .returned (.tuple #[.string (strOfNums A), .int .i64 0]) ∧ _
    rw [hT] at cs ⊢
    clear e hA x1 x2 hT
    go_enter Try.func17, Try.ntmps17
    go_wp2_with (go_at_call 32; refine cin.mono ?_; rintro e w1 ⟨rfl, rfl⟩)
    go_ret2
    exact ⟨rfl, Below.refl _ _⟩
end Go.Proofs.Ytdhhmldcablbgaa
