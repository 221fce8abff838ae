/-
  Store, Move, Fill, Compare, Allot of package mem: each answers its plain function, for all memories and numbers.
-/
import Derived.Test.YtdhhmldcablbgaaMs2
import Derived.Lib.Bytealg
namespace Go.Proofs.Ytdhhmldcablbgaa
open Go.ChangeShapes Go.WideShapes Go.ChangeAt Go.RowKit
set_option linter.unusedVariables false
set_option linter.unusedSimpArgs false

set_option maxHeartbeats 1000000 in
theorem w_mstore (v : Value) (xs : List Int) (a s x : Int) (w : World) (h : Rd .u8 w v xs) (hB : bytesL xs) (hz : xs.length ≤ 140737488355328) (a0 : 0 ≤ a) (a1 : a < 4294967296) (s0 : 0 ≤ s) (s1 : s < 4294967296) (x0 : 0 ≤ x) (x1 : x < 4294967296) :
    Calls Try.prog 13 #[v, .int .u32 a, .int .u32 s, .int .u32 x] w fun e w' => ∃ v1, e = .returned (.tuple #[v1, .int .i64 (stoF xs a s x).2]) ∧ Rd .u8 w' v1 (stoF xs a s x).1 ∧ Below w.heap.size w w' := by
  by_cases hw : wrongF xs.length a s = 0
  · obtain ⟨hs, hm, hl, hr⟩ := wrong_ok hw
    have e : stoF xs a s x = (xs.take a.toNat ++ beB s.toNat x ++ xs.drop (a.toNat + s.toNat), 0) := by unfold stoF; rw [if_pos hw]
    rw [e]
    have cw := w_number_ok v xs a s w h hz a0 hw
    have co := w_opened_in v xs a s w h hz a0 s0 (by simp [inF]; omega)
    obtain ⟨u, hu⟩ : ∃ u, cut3 v a.toNat s.toNat = u := ⟨_, rfl⟩
    rw [hu] at cw
    have s4 : s ≤ 4 := by omega
    have s1' : 1 ≤ s := by omega
    obtain ⟨F, hF⟩ : ∃ F, xs.take a.toNat ++ beB s.toNat x ++ xs.drop (a.toNat + s.toNat) = F := ⟨_, rfl⟩
    rw [hF]
    have HF := hid hF
    clear e hw hm hs hF hu
    go_enter Try.func13, Try.ntmps13
    go_wp2_with (first
      | (go_at_call 28; refine cw.mono ?_; rintro e w1 ⟨rfl, rfl⟩)
      | (go_at_call 30; refine co.mono ?_; rintro e w2 ⟨vp, rfl, hp, hb, hbe⟩; have hlen := plc_len hp uB (P := Try.prog); simp only [Int.toNat_of_nonneg s0] at hlen))
    go_loopw [41] (fun I wx => ∃ (k j : Nat) (y : Int) (ys q : List Int), (k : Int) ≤ s ∧ I = .int .i64 k ∧ Hid (k + j = s.toNat) ∧ Hid (y = x / 256 ^ k) ∧ 0 ≤ y ∧ y < 4294967296 ∧ Hid (q.length = k) ∧ Hid (ys = xs.take (a.toNat + j) ++ q ++ xs.drop (a.toNat + j + q.length)) ∧ Hid (beB s.toNat x = beB j y ++ q) ∧ (ys.length : Int) = xs.length ∧ Blk .u8 5 wx w1.heap.size ys ∧ Below w1.heap.size w1 wx) (fun I _ => (s - intOf I).toNat)
    case atStart => exact ⟨0, s.toNat, x, xs, [], by omega, rfl, hid (by omega), hid (by simp), x0, x1, hid rfl, hid (by simp), hid (by simp), rfl, hb, hbe⟩
    case round =>
      obtain ⟨k, j, y, ys, q, hk, rfl, hkj, hyx, y0, y1, hql, hys, hbq, hyl, hb2, hbe2⟩ := hrel
      by_cases hlt : (k : Int) < s
      · have hj1 : Hid (0 < j) := by show _ < _; have := hkj.out; omega
        obtain ⟨i, rfl⟩ : ∃ i, j = i + 1 := ⟨j - 1, by have := hj1.out; omega⟩
        have hsk : Hid (s - 1 - k = i) := by show _ = _; have := hkj.out; omega
        obtain ⟨ad, r1, c1, f1, hbl, hst⟩ := plc_set hp hb2 uB zB (by omega) (s - 1 - k) (by omega) (by omega)
        have hst2 := hst (y % 256)
        have hys2 : Hid (ys.set (a.toNat + (s - 1 - (k : Int)).toNat) (y % 256) = xs.take (a.toNat + i) ++ (y % 256 :: q) ++ xs.drop (a.toNat + i + (y % 256 :: q).length)) := by
          show _ = _
          rw [hys.out, hsk.out, Int.toNat_natCast, ← Nat.add_assoc, set_snoc xs (a.toNat + i) q (y % 256) (by have := hkj.out; have := hql.out; omega)]
          rfl
        have hbq2 : Hid (beB s.toNat x = beB i (y / 256) ++ (y % 256 :: q)) := by show _ = _; rw [hbq.out]; simp [beB]
        have hyx2 : Hid (y / 256 = x / 256 ^ (k + 1)) := by show _ = _; rw [hyx.out, Int.pow_succ, Int.ediv_ediv_of_nonneg (Int.le_of_lt (Int.pow_pos (by decide)))]
        obtain ⟨r, hrr⟩ : ∃ r, y % 256 = r := ⟨_, rfl⟩
        have r0 : 0 ≤ r := by omega
        have r2 : r < 256 := by omega
        rw [hrr] at hst2 hys2 hbq2
        have hE : Hid (x / 2 ^ (8 * k) % 256 = r) := by
          show _ = _
          rw [Int.pow_mul, ← hrr, hyx.out]
          rfl
        have hb3 := hid (hbe2.setCell hbl (.int .u8 r))
        have hst3 := hid hst2
        have hkj2 : Hid (k + 1 + i = s.toNat) := by show _ = _; have := hkj.out; omega
        have hql2 : Hid ((r :: q).length = k + 1) := by show _ = _; have := hql.out; simp; omega
        clear hst hst2 hrr
        go_wp2_with fail
        go_roundw
        case rel =>
          rw [hE.out]
          exact ⟨k + 1, i, y / 256, _, r :: q, by omega, by go_num, hkj2, hyx2, by omega, by omega, hql2, hys2, hbq2, by rw [List.length_set]; exact hyl, hst3.out, hb3.out⟩
        case measure => simp [intOf]; omega
      · have hj0 : Hid (j = 0) := by show _ = _; have := hkj.out; omega
        have e : Hid (F = ys) := by
          show _ = _
          rw [hys.out, ← HF.out, hbq.out, hj0.out, hql.out, show k = s.toNat by omega]
          simp [beB]
        have hrd := hb2.rd (by unfold maxLen; omega)
        rw [show ys.length = xs.length by omega] at hrd
        go_wp2_with fail
        go_ret2
        rw [e.out]
        exact ⟨_, rfl, hrd, hbe2⟩
  · obtain ⟨E, hE⟩ : ∃ E, wrongF xs.length a s = E := ⟨_, rfl⟩
    have e : stoF xs a s x = ([], E) := by unfold stoF; rw [if_neg hw, hE]
    rw [e]
    have cw := w_number_bad v xs a s w h hz a0 a1 s0 s1 hw
    rw [hE] at cw hw
    have hb : (E != 0) = true := by simpa using hw
    clear e hE hw
    go_enter Try.func13, Try.ntmps13
    go_wp2_with (go_at_call 28; refine cw.mono ?_; rintro e w1 ⟨rfl, rfl⟩)
    go_ret2
    exact ⟨_, rfl, Rd_nil, Below.refl _ _⟩

set_option maxHeartbeats 1000000 in
theorem w_mfill (v : Value) (xs : List Int) (a n x : Int) (w : World) (h : Rd .u8 w v xs) (hB : bytesL xs) (hz : xs.length ≤ 140737488355328) (a0 : 0 ≤ a) (a1 : a < 4294967296) (n0 : 0 ≤ n) (n1 : n < 4294967296) (x0 : 0 ≤ x) (x1 : x < 4294967296) :
    Calls Try.prog 22 #[v, .int .u32 a, .int .u32 n, .int .u32 x] w fun e w' => ∃ v1, e = .returned (.tuple #[v1, .int .i64 (filF xs a n x).2]) ∧ Rd .u8 w' v1 (filF xs a n x).1 ∧ Below w.heap.size w w' := by
  cases hi : inF xs.length a n
  · have e : filF xs a n x = ([], 9) := by unfold filF; rw [hi]; rfl
    rw [e]
    have co := w_opened_out v xs a n w h hz a0 a1 n0 (by omega) hi
    clear e
    go_enter Try.func22, Try.ntmps22
    go_wp2_with (go_at_call 30; refine co.mono ?_; rintro e w1 ⟨rfl, rfl⟩)
    go_rounds 1
    go_ret2
    exact ⟨_, rfl, Rd_nil, Below.refl _ _⟩
  · have e : filF xs a n x = (xs.take a.toNat ++ List.replicate n.toNat (x % 256) ++ xs.drop (a.toNat + n.toNat), 0) := by unfold filF; rw [if_pos hi]
    rw [e]
    have co := w_opened_in v xs a n w h hz a0 n0 hi
    obtain ⟨y, hy⟩ : ∃ y, x % 256 = y := ⟨_, rfl⟩
    have y0 : 0 ≤ y := by omega
    have y1 : y < 256 := by omega
    have hwx : IntKind.u8.wrap x = y := by rw [IntKind.wrap_u8]; omega
    rw [hy]
    obtain ⟨F, hF⟩ : ∃ F, xs.take a.toNat ++ List.replicate n.toNat y ++ xs.drop (a.toNat + n.toNat) = F := ⟨_, rfl⟩
    rw [hF]
    have HF := hid hF
    simp [inF] at hi
    obtain ⟨h1, h2⟩ := hi
    clear e hy hF
    go_enter Try.func22, Try.ntmps22
    go_wp2_with (go_at_call 30; refine co.mono ?_; rintro e w2 ⟨vp, rfl, hp, hb, hbe⟩; have hlen := plc_len hp uB (P := Try.prog); simp only [Int.toNat_of_nonneg n0] at hlen)
    go_loopw [25] (fun I wx => ∃ (k : Nat) (ys : List Int), (k : Int) ≤ n ∧ I = .int .i64 k ∧ Hid (ys = xs.take a.toNat ++ List.replicate k y ++ xs.drop (a.toNat + k)) ∧ (ys.length : Int) = xs.length ∧ Blk .u8 5 wx w.heap.size ys ∧ Below w.heap.size w wx) (fun I _ => (n - intOf I).toNat)
    case atStart => exact ⟨0, xs, by omega, rfl, hid (by simp), rfl, hb, hbe⟩
    case round =>
      obtain ⟨k, ys, hk, rfl, hys, hyl, hb2, hbe2⟩ := hrel
      by_cases hlt : (k : Int) < n
      · obtain ⟨ad, r1, c1, f1, hbl, hst⟩ := plc_set hp hb2 uB zB (by omega) k (by omega) (by omega)
        rw [Int.toNat_natCast] at hst
        have hst2 := hid (hst y)
        have hb3 := hid (hbe2.setCell hbl (.int .u8 y))
        have hys2 : Hid (ys.set (a.toNat + k) y = xs.take a.toNat ++ List.replicate (k + 1) y ++ xs.drop (a.toNat + (k + 1))) := by
          show _ = _
          rw [hys.out, fill_step xs a.toNat k y (by omega)]
        clear hst
        go_wp2_with fail
        go_roundw
        case rel => exact ⟨k + 1, ys.set (a.toNat + k) y, by omega, by go_num, hys2, by rw [List.length_set]; exact hyl, hst2.out, hb3.out⟩
        case measure => simp [intOf]; omega
      · have e : Hid (F = ys) := by
          show _ = _
          rw [hys.out, ← HF.out, show n.toNat = k by omega]
        have hrd := hb2.rd (by unfold maxLen; omega)
        rw [show ys.length = xs.length by omega] at hrd
        go_wp2_with fail
        go_ret2
        rw [e.out]
        exact ⟨_, rfl, hrd, hbe2⟩

set_option maxHeartbeats 1000000 in
theorem w_mmove (v : Value) (xs : List Int) (f t n : Int) (w : World) (h : Rd .u8 w v xs) (hB : bytesL xs) (hz : xs.length ≤ 140737488355328) (f0 : 0 ≤ f) (f1 : f < 4294967296) (t0 : 0 ≤ t) (t1 : t < 4294967296) (n0 : 0 ≤ n) (n1 : n < 4294967296) :
    Calls Try.prog 20 #[v, .int .u32 f, .int .u32 t, .int .u32 n] w fun e w' => ∃ v1, e = .returned (.tuple #[v1, .int .i64 (movF xs f t n).2]) ∧ Rd .u8 w' v1 (movF xs f t n).1 ∧ Below w.heap.size w w' := by
  cases hi : inF xs.length f n
  · have e : movF xs f t n = ([], 9) := by unfold movF; rw [hi]; simp
    rw [e]
    have c1 := w_stretch_out v xs f n w h hz f0 f1 n0 (by omega) hi
    clear e
    go_enter Try.func20, Try.ntmps20
    go_wp2_with (go_at_call 31; refine c1.mono ?_; rintro e w1 ⟨rfl, rfl⟩)
    go_ret2
    exact ⟨_, rfl, Rd_nil, Below.refl _ _⟩
  · have c1 := w_stretch_in v xs f n w h hz f0 n0 hi
    have hi2 := hi
    simp [inF] at hi2
    obtain ⟨p1, p2⟩ := hi2
    obtain ⟨ra, _⟩ := rd_cut3 h uB zB f n f0 n0 (by omega)
    obtain ⟨u, hu⟩ : ∃ u, cut3 v f.toNat n.toNat = u := ⟨_, rfl⟩
    obtain ⟨A, hA⟩ : ∃ A, (xs.drop f.toNat).take n.toNat = A := ⟨_, rfl⟩
    have hAl : A.length = n.toNat := by rw [← hA]; simp; omega
    rw [hu, hA] at ra
    rw [hu] at c1
    clear hu
    cases hj : inF xs.length t n
    · have e : movF xs f t n = ([], 9) := by unfold movF; rw [hj]; simp
      rw [e]
      have c2 := w_opened_out v xs t n w h hz t0 t1 n0 (by omega) hj
      have cp := fun ty w' => run_copy_nowhere_rd (P := Try.prog) ra w' 22 22 ty 5 Try.underlying22 sz8
      clear e
      go_enter Try.func20, Try.ntmps20
      go_wp2_with (first
        | (go_at_call 31; refine c1.mono ?_; rintro e w1 ⟨rfl, rfl⟩)
        | (go_at_call 30; refine c2.mono ?_; rintro e w2 ⟨rfl, rfl⟩))
      go_ret2
      exact ⟨_, rfl, Rd_nil, Below.refl _ _⟩
    · have e : movF xs f t n = (xs.take t.toNat ++ A ++ xs.drop (t.toNat + A.length), 0) := by
        unfold movF
        rw [if_pos ⟨hi, hj⟩, hA]
        unfold putF
        rw [if_pos (by rw [hAl, Int.toNat_of_nonneg n0]; exact hj)]
      rw [e]
      have c2 := w_opened_in v xs t n w h hz t0 n0 hj
      simp [inF] at hj
      obtain ⟨q1, q2⟩ := hj
      obtain ⟨F, hF⟩ : ∃ F, xs.take t.toNat ++ A ++ xs.drop (t.toNat + A.length) = F := ⟨_, rfl⟩
      have hFl : F.length = xs.length := by
        rw [← hF]
        exact lay_len xs A t.toNat (by omega)
      rw [hF]
      have HF := hid hF
      clear e hF hA
      go_enter Try.func20, Try.ntmps20
      go_wp2_with (first
        | (go_at_call 31; refine c1.mono ?_; rintro e w1 ⟨rfl, rfl⟩)
        | (go_at_call 30; refine c2.mono ?_; rintro e w2 ⟨vp, rfl, hp, hb, hbe⟩; obtain ⟨w3, hcp, hb3, hbe3⟩ := run_copy_rd 22 22 5 Try.underlying22 sz8 hp (ra.below hbe) (Nat.le_of_eq hAl) hb (by omega) hbe (Nat.le_refl _); rw [HF.out] at hb3))
      go_ret2
      refine ⟨_, rfl, ?_, hbe3⟩
      have := hb3.rd (by unfold maxLen; omega)
      rwa [hFl] at this

theorem w_mallot (v : Value) (xs : List Int) (n : Int) (w : World) (h : Rd .u8 w v xs) (hB : bytesL xs) (hz : xs.length ≤ 140737488355328) (n0 : 0 ≤ n) (n1 : n < 4294967296) :
    Calls Try.prog 26 #[v, .int .u32 n] w fun e w' => ∃ v1, e = .returned (.tuple #[v1, .int .u32 (allF xs n).2.1, .int .i64 (allF xs n).2.2]) ∧ Rd .u8 w' v1 (allF xs n).1 ∧ Below w.heap.size w w' := by
  have hlen := rd_len h uB (P := Try.prog)
  obtain ⟨P, hP⟩ : ∃ P, allAt xs.length = P := ⟨_, rfl⟩
  obtain ⟨Z, hZ⟩ : ∃ Z, ((xs.length : Int) + 4 - 1) / 4 = Z := ⟨_, rfl⟩
  have hZ2 : Z = ((xs.length : Int) + 3) / 4 := by rw [← hZ]; congr 1; omega
  have hPZ : Z * 4 = P := by rw [← hP, hZ2]; rfl
  have hZ0 : 0 ≤ Z := by omega
  have hP0 : (xs.length : Int) ≤ P := by omega
  have hP1 : P ≤ xs.length + 3 := by omega
  by_cases h2 : 4096 - P < n
  · have e : allF xs n = ([], 0, 10) := by unfold allF; rw [hP]; split <;> rfl
    rw [e]
    clear e hP hZ2
    go_enter Try.func26, Try.ntmps26
    go_wp2_with fail
    go_ret3
    exact ⟨_, rfl, Rd_nil, Below.refl _ _⟩
  · have e : allF xs n = (xs ++ List.replicate (P + n - xs.length).toNat 0, P, 0) := by unfold allF; rw [hP, if_neg (by omega), if_neg h2]
    rw [e]
    have c1 := w_fresh v xs (P + n).toNat w h (by omega) (by omega)
    rw [Int.toNat_of_nonneg (by omega), show (P + n).toNat - xs.length = (P + n - xs.length).toNat by omega] at c1
    obtain ⟨F, hF⟩ : ∃ F, xs ++ List.replicate (P + n - xs.length).toNat (0 : Int) = F := ⟨_, rfl⟩
    have hFl : F.length = (P + n).toNat := by rw [← hF]; simp; omega
    rw [hF] at c1 ⊢
    have hw : IntKind.u32.wrap P = P := by rw [IntKind.wrap_u32]; omega
    clear e hP hF hZ2
    go_enter Try.func26, Try.ntmps26
    go_wp2_with (go_at_call 34; refine c1.mono ?_; rintro e w1 ⟨rfl, hb, hbe⟩)
    go_ret3
    refine ⟨_, rfl, ?_, hbe⟩
    have := hb.rd (by unfold maxLen; omega)
    rwa [hFl] at this
end Go.Proofs.Ytdhhmldcablbgaa
