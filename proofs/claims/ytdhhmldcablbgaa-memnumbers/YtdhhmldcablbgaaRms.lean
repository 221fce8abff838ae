/-
  Store and Put of the document's answer for a memory of bytes.
-/
import Derived.Test.YtdhhmldcablbgaaRmf
namespace Go.Proofs.Ytdhhmldcablbgaa
open Go.ChangeShapes Go.WideShapes Go.ChangeAt Go.RowKit
set_option linter.unusedVariables false
set_option linter.unusedSimpArgs false

/-- a row of bytes of the call's own -/
def Own8 (base : Nat) (w : World) (v : Value) (xs : List Int) : Prop := w.ownsRow base 5 1 v xs.length (xs.map (Value.int .u8))

theorem set_snoc (m : List Int) (p : Nat) (q : List Int) (y : Int) (hp : p + 1 + q.length ≤ m.length) :
    (m.take (p + 1) ++ q ++ m.drop (p + 1 + q.length)).set p y = m.take p ++ (y :: q) ++ m.drop (p + (q.length + 1)) := by
  rw [List.take_succ_eq_append_getElem (show p < m.length by omega)]
  have : (m.take p).length = p := by simp; omega
  simp only [List.append_assoc]
  rw [List.set_append_right _ _ (by omega), this, Nat.sub_self]
  simp only [List.cons_append, List.nil_append, List.set_cons_zero]
  rw [show p + 1 + q.length = p + (q.length + 1) by omega]

/-- the lowest bytes of v, as many as have been written by now -/
theorem beB_low (n : Nat) (v : Int) : ∃ q, beB (n + 1) v = q ++ [v % 256] ∧ q = beB n (v / 256) := ⟨_, rfl, rfl⟩

set_option maxHeartbeats 1000000 in
theorem w_rstore (v : Value) (xs : List Int) (a s x : Int) (w : World) (h : Rd .u8 w v xs) (hB : bytesL xs) (hz : xs.length ≤ 140737488355328) (a0 : 0 ≤ a) (a1 : a < 4294967296) (s0 : 0 ≤ s) (s1 : s < 4294967296) (x0 : 0 ≤ x) (x1 : x < 4294967296) :
    Calls Try.prog 14 #[v, .int .u32 a, .int .u32 s, .int .u32 x] w fun e w' => ∃ v1, e = .returned (.tuple #[v1, .int .i64 (stoF xs a s x).2]) ∧ Rd .u8 w' v1 (stoF xs a s x).1 ∧ Below w.heap.size w w' := by
  have cw := w_rwrong v xs a s w h hz a0 a1 s0 s1
  by_cases hw : wrongF xs.length a s = 0
  · obtain ⟨hs, hm, hl, hr⟩ := wrong_ok hw
    rw [hw] at cw
    have e : stoF xs a s x = (xs.take a.toNat ++ beB s.toNat x ++ xs.drop (a.toNat + s.toNat), 0) := by unfold stoF; rw [if_pos hw]
    rw [e]
    clear e hw hm
    have s4 : s ≤ 4 := by omega
    have s1' : 1 ≤ s := by omega
    clear hs
    have cc := w_rcopy v xs w h hz
    obtain ⟨F, hF⟩ : ∃ F, xs.take a.toNat ++ beB s.toNat x ++ xs.drop (a.toNat + s.toNat) = F := ⟨_, rfl⟩
    rw [hF]
    have HF := hid hF
    clear hF
    go_enter Try.func14, Try.ntmps14
    go_wp2_with (first
      | (go_at_call 29; refine cw.mono ?_; rintro e w1 ⟨rfl, rfl⟩)
      | (go_at_call 10; refine cc.mono ?_; rintro e w2 ⟨u, rfl, ho, hb⟩))
    go_loopw [3, 12] (fun X I wx => ∃ (k : Nat) (y : Int) (ys q : List Int), (k : Int) ≤ s ∧ I = .int .i64 ((k : Int) - 1) ∧ X = .int .u32 y ∧ 0 ≤ y ∧ y < 4294967296 ∧ Hid (ys = xs.take (a.toNat + k) ++ q ++ xs.drop (a.toNat + k + q.length)) ∧ Hid (k + q.length = s.toNat) ∧ Hid (beB s.toNat x = beB k y ++ q) ∧ (ys.length : Int) = xs.length ∧ Own8 w1.heap.size wx u ys ∧ Below w1.heap.size w1 wx) (fun _ I _ => (intOf I + 1).toNat)
    case atStart => exact ⟨s.toNat, x, xs, [], by omega, by rw [show ((s.toNat : Nat) : Int) = s by omega], rfl, x0, x1, hid (by simp), hid (by simp), hid (by simp), rfl, ho, hb⟩
    case round =>
      obtain ⟨k, y, ys, q, hk, rfl, rfl, y0, y1, hys, hkq, hbe, hyl, ho2, hb2⟩ := hrel
      rcases Nat.eq_zero_or_pos k with hk0 | hk0
      · subst hk0
        have e : Hid (F = ys) := by
          show _ = _
          rw [hys.out, ← HF.out, hbe.out, ← hkq.out]
          simp [beB]
        go_wp2_with fail
        go_ret2
        rw [e.out]
        exact ⟨u, rfl, (Rd_own ho2).1, hb2⟩
      · obtain ⟨j, rfl⟩ : ∃ j, k = j + 1 := ⟨k - 1, by omega⟩
        have hj : (0 : Int) ≤ j := by omega
        obtain ⟨ad, r1, c1, f1, hbl, hst⟩ := own_set ho2 uB zB (a + j) (by omega) (by have := hkq.out; omega)
        rw [show (a + (j : Int)).toNat = a.toNat + j by omega] at hst
        have hst2 := hid (hst (y % 256))
        have hb3 := hid (hb2.setCell hbl (.int .u8 (y % 256)))
        have hys2 : Hid (ys.set (a.toNat + j) (y % 256) = xs.take (a.toNat + j) ++ (y % 256 :: q) ++ xs.drop (a.toNat + j + (y % 256 :: q).length)) := by
          show _ = _
          rw [hys.out, ← Nat.add_assoc, set_snoc xs (a.toNat + j) q (y % 256) (by have := hkq.out; omega)]
          rfl
        have hkq2 : Hid (j + (y % 256 :: q).length = s.toNat) := by show _ = _; have := hkq.out; simp; omega
        have hbe2 : Hid (beB s.toNat x = beB j (y / 256) ++ (y % 256 :: q)) := by show _ = _; rw [hbe.out]; simp [beB]
        have hm : y.tmod 256 = y % 256 := Int.tmod_eq_emod_of_nonneg y0
        have hd : y.tdiv 256 = y / 256 := Int.tdiv_eq_ediv_of_nonneg y0
        obtain ⟨r, hrr⟩ : ∃ r, y % 256 = r := ⟨_, rfl⟩
        have r0 : 0 ≤ r := by omega
        have r2 : r < 256 := by omega
        rw [hrr] at hst2 hb3 hys2 hkq2 hbe2 hm
        obtain ⟨z, hzz⟩ : ∃ z, y / 256 = z := ⟨_, rfl⟩
        have z0 : 0 ≤ z := by omega
        have z1 : z < 4294967296 := by omega
        rw [hzz] at hbe2 hd
        clear hst hrr hzz
        go_wp2_with fail
        go_roundw
        case rel => exact ⟨j, z, ys.set (a.toNat + j) r, r :: q, by omega, rfl, rfl, z0, z1, hys2, hkq2, hbe2, by rw [List.length_set]; exact hyl, hst2.out, hb3.out⟩
        case measure => simp [intOf]
  · obtain ⟨E, hE⟩ : ∃ E, wrongF xs.length a s = E := ⟨_, rfl⟩
    have e : stoF xs a s x = ([], E) := by unfold stoF; rw [if_neg hw, hE]
    rw [e]
    rw [hE] at cw hw
    have hb : (E != 0) = true := by simpa using hw
    clear e hE hw
    go_enter Try.func14, Try.ntmps14
    go_wp2_with (go_at_call 29; refine cw.mono ?_; rintro e w1 ⟨rfl, rfl⟩)
    go_ret2
    exact ⟨_, rfl, Rd_nil, Below.refl _ _⟩

set_option maxHeartbeats 1000000 in
theorem w_rput (v : Value) (xs : List Int) (a : Int) (T : ByteArray) (w : World) (h : Rd .u8 w v xs) (hz : xs.length ≤ 140737488355328) (a0 : 0 ≤ a) (a1 : a < 4294967296) (hT : T.size ≤ maxLen) :
    Calls Try.prog 19 #[v, .int .u32 a, .string T] w fun e w' => ∃ v1, e = .returned (.tuple #[v1, .int .i64 (putF xs a (LB T)).2]) ∧ Rd .u8 w' v1 (putF xs a (LB T)).1 ∧ Below w.heap.size w w' := by
  have hlen := rd_len h uB (P := Try.prog)
  unfold maxLen at hT
  by_cases h1 : a ≤ xs.length
  · by_cases h2 : (T.size : Int) ≤ (xs.length : Int) - a
    · have e : putF xs a (LB T) = (xs.take a.toNat ++ LB T ++ xs.drop (a.toNat + T.size), 0) := by
        unfold putF
        rw [LB_len, if_pos (by simp [inF]; omega)]
      rw [e]
      clear e
      obtain ⟨va, ra, x1, c1, x2⟩ := rd_cutI h uB zB 0 a (by omega) (by omega) (by omega)
      have c1' := c1 rfl
      obtain ⟨vb, rb, x3, x4, c2⟩ := rd_cutI h uB zB (a + T.size) xs.length (by omega) (by omega) (by omega)
      have c2' := c2 rfl
      rw [show (a - 0).toNat = a.toNat by omega, show (0 : Int).toNat = 0 from rfl, List.drop_zero] at ra
      rw [show (a + (T.size : Int)).toNat = a.toNat + T.size by omega, List.take_of_length_le (by simp; omega)] at rb
      have lA : (xs.take a.toNat).length = a.toNat := by simp; omega
      have lB : (xs.drop (a.toNat + T.size)).length = xs.length - (a.toNat + T.size) := by simp
      obtain ⟨A, hA⟩ : ∃ A, xs.take a.toNat = A := ⟨_, rfl⟩
      obtain ⟨B, hB⟩ : ∃ B, xs.drop (a.toNat + T.size) = B := ⟨_, rfl⟩
      rw [hA] at ra lA ⊢
      rw [hB] at rb lB ⊢
      clear c1 c2 x1 x2 x3 x4 hA hB
      have cc := w_rcopy va A w ra (by omega)
      obtain ⟨i0, hi, hz0, hz1, hz2⟩ := info_parts infoU8
      have lC : (A ++ LB T).length = A.length + T.size := by rw [List.length_append, LB_len]
      obtain ⟨C, hC⟩ : ∃ C, A ++ LB T = C := ⟨_, rfl⟩
      rw [hC] at lC ⊢
      go_enter Try.func19, Try.ntmps19
      go_upto_region 5 with (first
        | (go_at_call 10; refine cc.mono ?_; rintro e w2 ⟨u, rfl, ho, hb⟩)
        | (at_builtin; refine wpList_append_rds rfl _ _ 22 9 rfl w.heap.size 5 i0 Try.underlying22 Try.underlying9 hi hz0 hz1 hz2 u A rfl ho T rfl (by unfold maxLen; omega) (by omega) hb.size ?_; intro v2 w3 ho3 hg3; rw [hC] at ho3))
      have hb3 := below_grown hb hg3 (fun k hk => (ho.lt k hk).1)
      clear hg3
      go_wp2_with (at_builtin; refine wpList_append_rd (k := .u8) rfl _ _ 22 rfl w.heap.size 5 i0 1 Try.underlying22 hi hz0 hz1 hz2 v2 C rfl ho3 vb B rfl (rb.below hb3) (by unfold maxLen; omega) (by omega) hb3.size ?_; intro v4 w4 ho4 hg4)
      go_ret2
      exact ⟨v4, rfl, (Rd_own ho4).1, below_grown hb3 hg4 (fun k hk => (ho3.lt k hk).1)⟩
    · have e : putF xs a (LB T) = ([], 9) := by
        unfold putF
        rw [LB_len, if_neg (by simp [inF]; omega)]
      rw [e]
      clear e
      go_enter Try.func19, Try.ntmps19
      go_wp2_with fail
      go_ret2
      exact ⟨_, rfl, Rd_nil, Below.refl _ _⟩
  · have e : putF xs a (LB T) = ([], 9) := by
      unfold putF
      rw [LB_len, if_neg (by simp [inF]; omega)]
    rw [e]
    clear e
    go_enter Try.func19, Try.ntmps19
    go_wp2_with fail
    go_ret2
    exact ⟨_, rfl, Rd_nil, Below.refl _ _⟩
end Go.Proofs.Ytdhhmldcablbgaa
