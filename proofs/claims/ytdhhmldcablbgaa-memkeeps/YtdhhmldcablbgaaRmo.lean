/-
  Move, Fill, Compare, Allot of the document's answer for a memory of bytes.
-/
import Derived.Test.YtdhhmldcablbgaaRms
namespace Go.Proofs.Ytdhhmldcablbgaa
open Go.ChangeShapes Go.WideShapes Go.ChangeAt Go.RowKit
set_option linter.unusedVariables false
set_option linter.unusedSimpArgs false

set_option maxHeartbeats 1000000 in
theorem w_rmove (v : Value) (xs : List Int) (f t n : Int) (w : World) (h : Rd .u8 w v xs) (hB : bytesL xs) (hz : xs.length ≤ 140737488355328) (f0 : 0 ≤ f) (f1 : f < 4294967296) (t0 : 0 ≤ t) (t1 : t < 4294967296) (n0 : 0 ≤ n) (n1 : n < 4294967296) :
    Calls Try.prog 21 #[v, .int .u32 f, .int .u32 t, .int .u32 n] w fun e w' => ∃ v1, e = .returned (.tuple #[v1, .int .i64 (movF xs f t n).2]) ∧ Rd .u8 w' v1 (movF xs f t n).1 ∧ Below w.heap.size w w' := by
  have ct := w_rtext v xs f n w h hB hz f0 f1 n0 n1
  cases hi : inF xs.length f n
  · have e : movF xs f t n = ([], 9) := by unfold movF; rw [hi]; simp
    have e2 : texF xs f n = ([], 9) := by unfold texF; rw [hi]; rfl
    rw [e]
    rw [e2] at ct
    clear e e2
    go_enter Try.func21, Try.ntmps21
    go_wp2_with (go_at_call 17; refine ct.mono ?_; rintro e w1 ⟨rfl, b1⟩)
    go_ret2
    exact ⟨_, rfl, Rd_nil, b1⟩
  · obtain ⟨A, hA⟩ : ∃ A, (xs.drop f.toNat).take n.toNat = A := ⟨_, rfl⟩
    have e2 : texF xs f n = (A, 0) := by unfold texF; rw [hi, hA]; rfl
    have hAB : bytesL A := by rw [← hA]; exact bytes_take (bytes_drop hB _) _
    have hAl : A.length ≤ xs.length := by rw [← hA]; simp; omega
    have ct : Calls Try.prog 17 #[v, .int .u32 f, .int .u32 n] w fun e w' => e = .returned (.tuple #[.string (strOfNums A), .int .i64 0]) ∧ Below w.heap.size w w' := by
      rw [e2] at ct
      exact ct
    have hTs : (strOfNums A).size ≤ maxLen := by rw [strOfNums_size]; unfold maxLen; omega
    have hTL : LB (strOfNums A) = A := LB_nums A hAB
    obtain ⟨T, hT⟩ : ∃ T, strOfNums A = T := ⟨_, rfl⟩
    rw [hT] at ct hTs hTL
    cases hj : inF xs.length t n
    · have e : movF xs f t n = ([], 9) := by unfold movF; rw [hj]; simp
      rw [e]
      clear e
      go_enter Try.func21, Try.ntmps21
      go_wp2_with (first
        | (go_at_call 17; refine ct.mono ?_; rintro e w1 ⟨rfl, b1⟩)
        | (go_at_call 32; refine (w_rin v xs t n _ (h.below b1) hz t0 t1 n0 n1).mono ?_; rintro e w2 ⟨rfl, rfl⟩; rw [hj]))
      go_ret2
      exact ⟨_, rfl, Rd_nil, b1⟩
    · have e : movF xs f t n = putF xs t (LB T) := by unfold movF; rw [if_pos ⟨hi, hj⟩, hA, hTL]
      rw [e]
      clear e hTL hT hA
      go_enter Try.func21, Try.ntmps21
      go_wp2_with (first
        | (go_at_call 17; refine ct.mono ?_; rintro e w1 ⟨rfl, b1⟩)
        | (go_at_call 32; refine (w_rin v xs t n _ (h.below b1) hz t0 t1 n0 n1).mono ?_; rintro e w2 ⟨rfl, rfl⟩; rw [hj])
        | (go_at_call 19; refine (w_rput v xs t T _ (h.below b1) hz t0 t1 hTs).mono ?_; rintro e w3 ⟨u, rfl, ru, b3⟩))
      go_ret2
      exact ⟨u, rfl, ru, below_trans b1 b3⟩

theorem fill_step (m : List Int) (p k : Nat) (y : Int) (hp : p + k < m.length) :
    (m.take p ++ List.replicate k y ++ m.drop (p + k)).set (p + k) y = m.take p ++ List.replicate (k + 1) y ++ m.drop (p + (k + 1)) := by
  have h1 : (m.take p ++ List.replicate k y).length = p + k := by simp; omega
  rw [List.set_append_right _ _ (by omega), h1, Nat.sub_self, List.drop_eq_getElem_cons hp, List.set_cons_zero, List.replicate_succ']
  simp [Nat.add_assoc]

set_option maxHeartbeats 1000000 in
theorem w_rfill (v : Value) (xs : List Int) (a n x : Int) (w : World) (h : Rd .u8 w v xs) (hz : xs.length ≤ 140737488355328) (a0 : 0 ≤ a) (a1 : a < 4294967296) (n0 : 0 ≤ n) (n1 : n < 4294967296) (x0 : 0 ≤ x) (x1 : x < 4294967296) :
    Calls Try.prog 23 #[v, .int .u32 a, .int .u32 n, .int .u32 x] w fun e w' => ∃ v1, e = .returned (.tuple #[v1, .int .i64 (filF xs a n x).2]) ∧ Rd .u8 w' v1 (filF xs a n x).1 ∧ Below w.heap.size w w' := by
  have cin := w_rin v xs a n w h hz a0 a1 n0 n1
  cases hi : inF xs.length a n
  · have e : filF xs a n x = ([], 9) := by unfold filF; rw [hi]; rfl
    rw [e]
    rw [hi] at cin
    clear e
    go_enter Try.func23, Try.ntmps23
    go_wp2_with (go_at_call 32; refine cin.mono ?_; rintro e w1 ⟨rfl, rfl⟩)
    go_ret2
    exact ⟨_, rfl, Rd_nil, Below.refl _ _⟩
  · have hm : x.tmod 256 = x % 256 := Int.tmod_eq_emod_of_nonneg x0
    have e : filF xs a n x = (xs.take a.toNat ++ List.replicate n.toNat (x % 256) ++ xs.drop (a.toNat + n.toNat), 0) := by unfold filF; rw [if_pos hi]
    rw [e]
    rw [hi] at cin
    obtain ⟨y, hy⟩ : ∃ y, x % 256 = y := ⟨_, rfl⟩
    have y0 : 0 ≤ y := by omega
    have y1 : y < 256 := by omega
    rw [hy] at hm ⊢
    obtain ⟨F, hF⟩ : ∃ F, xs.take a.toNat ++ List.replicate n.toNat y ++ xs.drop (a.toNat + n.toNat) = F := ⟨_, rfl⟩
    rw [hF]
    have HF := hid hF
    simp [inF] at hi
    obtain ⟨h1, h2⟩ := hi
    clear e hy hF
    have cc := w_rcopy v xs w h hz
    go_enter Try.func23, Try.ntmps23
    go_wp2_with (first
      | (go_at_call 32; refine cin.mono ?_; rintro e w1 ⟨rfl, rfl⟩)
      | (go_at_call 10; refine cc.mono ?_; rintro e w2 ⟨u, rfl, ho, hb⟩))
    go_loopw [11] (fun I wx => ∃ (k : Nat) (ys : List Int), (k : Int) ≤ n ∧ I = .int .i64 k ∧ Hid (ys = xs.take a.toNat ++ List.replicate k y ++ xs.drop (a.toNat + k)) ∧ (ys.length : Int) = xs.length ∧ Own8 w1.heap.size wx u ys ∧ Below w1.heap.size w1 wx) (fun I _ => (n - intOf I).toNat)
    case atStart => exact ⟨0, xs, by omega, rfl, hid (by simp), rfl, ho, hb⟩
    case round =>
      obtain ⟨k, ys, hk, rfl, hys, hyl, ho2, hb2⟩ := hrel
      by_cases hlt : (k : Int) < n
      · obtain ⟨ad, r1, c1, f1, hbl, hst⟩ := own_set ho2 uB zB (a + k) (by omega) (by omega)
        rw [show (a + (k : Int)).toNat = a.toNat + k by omega] at hst
        have hst2 := hid (hst y)
        have hb3 := hid (hb2.setCell hbl (.int .u8 y))
        have hys2 : Hid (ys.set (a.toNat + k) y = xs.take a.toNat ++ List.replicate (k + 1) y ++ xs.drop (a.toNat + (k + 1))) := by
          show _ = _
          rw [hys.out, fill_step xs a.toNat k y (by omega)]
        clear hst
        go_wp2_with fail
        go_roundw
        case rel => exact ⟨k + 1, ys.set (a.toNat + k) y, by omega, by go_num, hys2, by rw [List.length_set]; exact hyl, hst2.out, hb3.out⟩
        case measure => simp [intOf]; omega
      · have hkn : Hid (k = n.toNat) := by show _ = _; omega
        have e : Hid (F = ys) := by
          show _ = _
          rw [hys.out, ← HF.out, hkn.out]
        go_wp2_with fail
        go_ret2
        rw [e.out]
        exact ⟨u, rfl, (Rd_own ho2).1, hb2⟩

theorem cmp_step (xs : List Int) (a b : Nat) (n k : Nat) (hk : k < n) (ha : a + n ≤ xs.length) (hb : b + n ≤ xs.length) :
    cmpL (((xs.drop a).take n).drop k) (((xs.drop b).take n).drop k) = if xs.getD (b + k) 0 < xs.getD (a + k) 0 then 1 else if xs.getD (a + k) 0 < xs.getD (b + k) 0 then 4294967295 else cmpL (((xs.drop a).take n).drop (k + 1)) (((xs.drop b).take n).drop (k + 1)) := by
  have g : ∀ c, c + n ≤ xs.length → ((xs.drop c).take n).drop k = xs.getD (c + k) 0 :: ((xs.drop c).take n).drop (k + 1) := by
    intro c hc
    rw [List.drop_eq_getElem_cons (by simp; omega), List.getElem_take, List.getElem_drop, List.getD_eq_getElem?_getD, List.getElem?_eq_getElem (by omega)]
    rfl
  rw [g a ha, g b hb]
  rfl

set_option maxHeartbeats 1000000 in
theorem w_rcompare (v : Value) (xs : List Int) (a b n : Int) (w : World) (h : Rd .u8 w v xs) (hB : bytesL xs) (hz : xs.length ≤ 140737488355328) (a0 : 0 ≤ a) (a1 : a < 4294967296) (b0 : 0 ≤ b) (b1 : b < 4294967296) (n0 : 0 ≤ n) (n1 : n < 4294967296) :
    Calls Try.prog 25 #[v, .int .u32 a, .int .u32 b, .int .u32 n] w fun e w' => e = .returned (.tuple #[.int .u32 (cmpF xs a b n).1, .int .i64 (cmpF xs a b n).2]) ∧ Below w.heap.size w w' := by
  cases hi : inF xs.length a n
  · have e : cmpF xs a b n = (0, 9) := by unfold cmpF; rw [hi]; simp
    rw [e]
    clear e
    have c1 := w_rin v xs a n w h hz a0 a1 n0 n1
    rw [hi] at c1
    go_enter Try.func25, Try.ntmps25
    go_wp2_with (go_at_call 32; refine c1.mono ?_; rintro e w1 ⟨rfl, rfl⟩)
    go_ret2
    exact ⟨rfl, Below.refl _ _⟩
  · have c1 := w_rin v xs a n w h hz a0 a1 n0 n1
    rw [hi] at c1
    have c2 := w_rin v xs b n w h hz b0 b1 n0 n1
    cases hj : inF xs.length b n
    · have e : cmpF xs a b n = (0, 9) := by unfold cmpF; rw [hj]; simp
      rw [e]
      rw [hj] at c2
      clear e
      go_enter Try.func25, Try.ntmps25
      go_wp2_with fail
      refine c1.mono ?_
      rintro e w1 ⟨rfl, rfl⟩
      go_wp2_with fail
      refine c2.mono ?_
      rintro e w2 ⟨rfl, rfl⟩
      go_wp2_with fail
      go_ret2
      exact ⟨rfl, Below.refl _ _⟩
    · obtain ⟨R, hR⟩ : ∃ R, cmpL ((xs.drop a.toNat).take n.toNat) ((xs.drop b.toNat).take n.toNat) = R := ⟨_, rfl⟩
      have e : cmpF xs a b n = (R, 0) := by unfold cmpF; rw [if_pos ⟨hi, hj⟩, hR]
      rw [e]
      rw [hj] at c2
      have HR := hid hR
      simp [inF] at hi hj
      obtain ⟨p1, p2⟩ := hi
      obtain ⟨q1, q2⟩ := hj
      clear e hR
      go_enter Try.func25, Try.ntmps25
      go_wp2_with fail
      refine c1.mono ?_
      rintro e w1 ⟨rfl, rfl⟩
      go_wp2_with fail
      refine c2.mono ?_
      rintro e w2 ⟨rfl, rfl⟩
      go_wp2_with fail
      go_loopw [10] (fun I wx => ∃ (k : Nat), (k : Int) ≤ n ∧ I = .int .i64 k ∧ Hid (R = cmpL (((xs.drop a.toNat).take n.toNat).drop k) (((xs.drop b.toNat).take n.toNat).drop k)) ∧ Below w2.heap.size w2 wx) (fun I _ => (n - intOf I).toNat)
      case atStart => exact ⟨0, by omega, rfl, hid (by rw [List.drop_zero, List.drop_zero]; exact HR.out.symm), Below.refl _ _⟩
      case round =>
        obtain ⟨k, hk, rfl, hc, hb⟩ := hrel
        by_cases hlt : (k : Int) < n
        · obtain ⟨ad0, x, r0, d0, l0, u0, g0⟩ := mem_at (h.below hb) hB (a + k) (by omega) (by omega)
          obtain ⟨ad1, y, r1, d1, l1, u1, g1⟩ := mem_at (h.below hb) hB (b + k) (by omega) (by omega)
          have hs := cmp_step xs a.toNat b.toNat n.toNat k (by omega) (by omega) (by omega)
          rw [show a.toNat + k = (a + k).toNat by omega, show b.toNat + k = (b + k).toNat by omega, g0, g1] at hs
          have hc2 := hc.out
          rw [hs] at hc2
          have Hc := hid hc2
          clear hs hc2 g0 g1 hc
          have hwa : IntKind.i64.wrap (a + (k : Int)) = a + k := by rw [IntKind.wrap_i64]; omega
          have hwb : IntKind.i64.wrap (b + (k : Int)) = b + k := by rw [IntKind.wrap_i64]; omega
          by_cases h1 : y < x
          · have e : Hid (R = 1) := by show _ = _; rw [Hc.out, if_pos h1]
            go_wp2_with fail
            go_quiet (fail)
            go_wp2_with fail
            go_ret2
            rw [e.out]
            exact ⟨rfl, below_drewN hb _⟩
          · by_cases h2 : x < y
            · have e : Hid (R = 4294967295) := by show _ = _; rw [Hc.out, if_neg h1, if_pos h2]
              go_wp2_with fail
              go_quiet (fail)
              go_wp2_with fail
              go_ret2
              rw [e.out]
              exact ⟨rfl, below_drewN hb _⟩
            · have e : Hid (R = cmpL (((xs.drop a.toNat).take n.toNat).drop (k + 1)) (((xs.drop b.toNat).take n.toNat).drop (k + 1))) := by show _ = _; rw [Hc.out, if_neg h1, if_neg h2]
              go_wp2_with fail
              go_quiet (fail)
              go_wp2_with fail
              go_roundw
              case rel => exact ⟨k + 1, by omega, by go_num, e, below_drewN hb _⟩
              case measure => simp [intOf]; omega
        · have e : Hid (R = 0) := by
            show _ = _
            rw [hc.out, List.drop_eq_nil_of_le (by simp; omega)]
            rfl
          go_wp2_with fail
          go_ret2
          rw [e.out]
          exact ⟨rfl, hb⟩

set_option maxHeartbeats 1000000 in
theorem w_rallot (v : Value) (xs : List Int) (n : Int) (w : World) (h : Rd .u8 w v xs) (hz : xs.length ≤ 140737488355328) (n0 : 0 ≤ n) (n1 : n < 4294967296) :
    Calls Try.prog 27 #[v, .int .u32 n] w fun e w' => ∃ v1, e = .returned (.tuple #[v1, .int .u32 (allF xs n).2.1, .int .i64 (allF xs n).2.2]) ∧ Rd .u8 w' v1 (allF xs n).1 ∧ Below w.heap.size w w' := by
  have hlen := rd_len h uB (P := Try.prog)
  by_cases h1 : (4096 : Int) < xs.length
  · have e : allF xs n = ([], 0, 10) := by unfold allF; rw [if_pos h1]
    rw [e]
    clear e
    go_enter Try.func27, Try.ntmps27
    go_wp2_with fail
    go_ret3
    exact ⟨_, rfl, Rd_nil, Below.refl _ _⟩
  · obtain ⟨P, hP⟩ : ∃ P, allAt xs.length = P := ⟨_, rfl⟩
    have hPP : ((xs.length : Int) + 3).tdiv 4 * 4 = P := by rw [← hP, Int.tdiv_eq_ediv_of_nonneg (by omega)]; rfl
    have hP0 : (xs.length : Int) ≤ P := by rw [← hP]; unfold allAt; omega
    have hP1 : P ≤ 4096 := by rw [← hP]; unfold allAt; omega
    obtain ⟨Z, hZ⟩ : ∃ Z, ((xs.length : Int) + 3).tdiv 4 = Z := ⟨_, rfl⟩
    rw [hZ] at hPP
    have hZ0 : 0 ≤ Z := by rw [← hZ, Int.tdiv_eq_ediv_of_nonneg (by omega)]; omega
    by_cases h2 : 4096 - P < n
    · have e : allF xs n = ([], 0, 10) := by unfold allF; rw [if_neg h1, hP, if_pos h2]
      rw [e]
      clear e hP
      go_enter Try.func27, Try.ntmps27
      go_wp2_with fail
      go_ret3
      exact ⟨_, rfl, Rd_nil, Below.refl _ _⟩
    · have e : allF xs n = (xs ++ List.replicate (P + n - xs.length).toNat 0, P, 0) := by unfold allF; rw [if_neg h1, hP, if_neg h2]
      rw [e]
      obtain ⟨F, hF⟩ : ∃ F, xs ++ List.replicate (P + n - xs.length).toNat (0 : Int) = F := ⟨_, rfl⟩
      rw [hF]
      have HF := hid hF
      clear e hP hF
      have cc := w_rcopy v xs w h hz
      obtain ⟨i0, hi, hz0, hz1, hz2⟩ := info_parts infoU8
      have hw : IntKind.u32.wrap P = P := by rw [IntKind.wrap_u32]; omega
      go_enter Try.func27, Try.ntmps27
      go_wp2_with (go_at_call 10; refine cc.mono ?_; rintro e w2 ⟨u, rfl, ho, hb⟩)
      go_loopw [8, 9] (fun U I wx => ∃ (k : Nat) (ys : List Int), (xs.length : Int) + k ≤ P + n ∧ I = .int .i64 ((xs.length : Int) + k) ∧ Hid (ys = xs ++ List.replicate k 0) ∧ (ys.length : Int) = xs.length + k ∧ Own8 w.heap.size wx U ys ∧ Below w.heap.size w wx) (fun _ I _ => (P + n - intOf I).toNat)
      case atStart => exact ⟨0, xs, by omega, by simp, hid (by simp), by simp, ho, hb⟩
      case round =>
        obtain ⟨k, ys, hk, rfl, hys, hyl, ho2, hb2⟩ := hrel
        by_cases hlt : (xs.length : Int) + k < P + n
        · have ho3 := World.ownsRow.alloc ho2 (.cells #[.int .u8 0] 5)
          have hb3 := hb2.alloc hb2.size (.cells #[.int .u8 0] 5)
          have hys2 : Hid (ys ++ [0] = xs ++ List.replicate (k + 1) 0) := by show _ = _; rw [hys.out, List.replicate_succ']; simp
          go_wp2_with (at_builtin; refine wpList_append_rd (k := .u8) rfl _ _ 22 rfl w.heap.size 5 i0 1 Try.underlying22 hi hz0 hz1 hz2 _ ys rfl ho3 _ [0] rfl (rd_one _ 0 5) (by unfold maxLen; simp; omega) (by simp; omega) hb3.size ?_; intro v4 w4 ho4 hg4)
          go_roundw
          case rel => exact ⟨k + 1, ys ++ [0], by omega, by go_num, hys2, by simp; omega, ho4, below_grown hb3 hg4 (fun k hk => (ho3.lt k hk).1)⟩
          case measure => simp [intOf]; omega
        · have e : Hid (F = ys) := by
            show _ = _
            rw [hys.out, ← HF.out, show (P + n - xs.length).toNat = k by omega]
          go_wp2_with fail
          go_ret3
          rw [e.out]
          exact ⟨_, rfl, (Rd_own ho2).1, hb2⟩
end Go.Proofs.Ytdhhmldcablbgaa
