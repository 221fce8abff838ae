/-
  Store, Move, Fill, Compare, Allot of package mem: each answers its plain function, for all memories and numbers.
-/
import Derived.Test.YtdhhmldcablbgabMs2
import Derived.Lib.Bytealg
namespace Go.Proofs.Ytdhhmldcablbgab
open Go.ChangeShapes Go.WideShapes Go.ChangeAt Go.RowKit
set_option linter.unusedVariables false
set_option linter.unusedSimpArgs false

set_option maxHeartbeats 1000000 in
theorem w_mmove (v : Value) (xs : List Int) (f t n : Int) (w : World) (h : Rd .u8 w v xs) (hB : bytesL xs) (hz : xs.length ≤ 140737488355328) (f0 : 0 ≤ f) (f1 : f < 4294967296) (t0 : 0 ≤ t) (t1 : t < 4294967296) (n0 : 0 ≤ n) (n1 : n < 4294967296) :
    Calls Try.prog 6 #[v, .int .u32 f, .int .u32 t, .int .u32 n] w fun e w' => ∃ v1, e = .returned (.tuple #[v1, .int .i64 (movF xs f t n).2]) ∧ Rd .u8 w' v1 (movF xs f t n).1 ∧ Below w.heap.size w w' := by
  cases hi : inF xs.length f n
  · have e : movF xs f t n = ([], 9) := by unfold movF; rw [hi]; simp
    rw [e]
    have c1 := w_stretch_out v xs f n w h hz f0 f1 n0 (by omega) hi
    clear e
    go_enter Try.func6, Try.ntmps6
    go_wp2_with (go_at_call 11; refine c1.mono ?_; rintro e w1 ⟨rfl, rfl⟩)
    go_ret2
    exact ⟨_, rfl, Rd_nil, Below.refl _ _⟩
  · have c1 := w_stretch_in v xs f n w h hz f0 n0 hi
    have hi2 := hi
    simp [inF] at hi2
    obtain ⟨p1, p2⟩ := hi2
    obtain ⟨ra, _⟩ := rd_cut3 h uB zB f n f0 n0 (by omega)
    obtain ⟨u, hu⟩ : ∃ u, cut3 v f.toNat n.toNat = u := ⟨_, rfl⟩
    obtain ⟨A, hA⟩ : ∃ A, (xs.drop f.toNat).take n.toNat = A := ⟨_, rfl⟩
    have hAl : A.length = n.toNat := by rw [← hA]; simp; omega
    rw [hu, hA] at ra
    rw [hu] at c1
    clear hu
    cases hj : inF xs.length t n
    · have e : movF xs f t n = ([], 9) := by unfold movF; rw [hj]; simp
      rw [e]
      have c2 := w_opened_out v xs t n w h hz t0 t1 n0 (by omega) hj
      have cp := fun ty w' => run_copy_nowhere_rd (P := Try.prog) ra w' 22 22 ty 5 Try.underlying22 sz8
      clear e
      go_enter Try.func6, Try.ntmps6
      go_wp2_with (first
        | (go_at_call 11; refine c1.mono ?_; rintro e w1 ⟨rfl, rfl⟩)
        | (go_at_call 12; refine c2.mono ?_; rintro e w2 ⟨rfl, rfl⟩))
      go_ret2
      exact ⟨_, rfl, Rd_nil, Below.refl _ _⟩
    · have e : movF xs f t n = (xs.take t.toNat ++ A ++ xs.drop (t.toNat + A.length), 0) := by
        unfold movF
        rw [if_pos ⟨hi, hj⟩, hA]
        unfold putF
        rw [if_pos (by rw [hAl, Int.toNat_of_nonneg n0]; exact hj)]
      rw [e]
      have c2 := w_opened_in v xs t n w h hz t0 n0 hj
      simp [inF] at hj
      obtain ⟨q1, q2⟩ := hj
      obtain ⟨F, hF⟩ : ∃ F, xs.take t.toNat ++ A ++ xs.drop (t.toNat + A.length) = F := ⟨_, rfl⟩
      have hFl : F.length = xs.length := by
        rw [← hF]
        exact lay_len xs A t.toNat (by omega)
      rw [hF]
      have HF := hid hF
      clear e hF hA
      go_enter Try.func6, Try.ntmps6
      go_wp2_with (first
        | (go_at_call 11; refine c1.mono ?_; rintro e w1 ⟨rfl, rfl⟩)
        | (go_at_call 12; refine c2.mono ?_; rintro e w2 ⟨vp, rfl, hp, hb, hbe⟩; obtain ⟨w3, hcp, hb3, hbe3⟩ := run_copy_rd 22 22 5 Try.underlying22 sz8 hp (ra.below hbe) (Nat.le_of_eq hAl) hb (by omega) hbe (Nat.le_refl _); rw [HF.out] at hb3))
      go_ret2
      refine ⟨_, rfl, ?_, hbe3⟩
      have := hb3.rd (by unfold maxLen; omega)
      rwa [hFl] at this

theorem w_mallot (v : Value) (xs : List Int) (n : Int) (w : World) (h : Rd .u8 w v xs) (hB : bytesL xs) (hz : xs.length ≤ 140737488355328) (n0 : 0 ≤ n) (n1 : n < 4294967296) :
    Calls Try.prog 10 #[v, .int .u32 n] w fun e w' => ∃ v1, e = .returned (.tuple #[v1, .int .u32 (allF xs n).2.1, .int .i64 (allF xs n).2.2]) ∧ Rd .u8 w' v1 (allF xs n).1 ∧ Below w.heap.size w w' := by
  have hlen := rd_len h uB (P := Try.prog)
  obtain ⟨P, hP⟩ : ∃ P, allAt xs.length = P := ⟨_, rfl⟩
  obtain ⟨Z, hZ⟩ : ∃ Z, ((xs.length : Int) + 4 - 1) / 4 = Z := ⟨_, rfl⟩
  have hZ2 : Z = ((xs.length : Int) + 3) / 4 := by rw [← hZ]; congr 1; omega
  have hPZ : Z * 4 = P := by rw [← hP, hZ2]; rfl
  have hZ0 : 0 ≤ Z := by omega
  have hP0 : (xs.length : Int) ≤ P := by omega
  have hP1 : P ≤ xs.length + 3 := by omega
  by_cases h2 : 4096 - P < n
  · have e : allF xs n = ([], 0, 10) := by unfold allF; rw [hP]; split <;> rfl
    rw [e]
    clear e hP hZ2
    go_enter Try.func10, Try.ntmps10
    go_wp2_with fail
    go_ret3
    exact ⟨_, rfl, Rd_nil, Below.refl _ _⟩
  · have e : allF xs n = (xs ++ List.replicate (P + n - xs.length).toNat 0, P, 0) := by unfold allF; rw [hP, if_neg (by omega), if_neg h2]
    rw [e]
    have c1 := w_fresh v xs (P + n).toNat w h (by omega) (by omega)
    rw [Int.toNat_of_nonneg (by omega), show (P + n).toNat - xs.length = (P + n - xs.length).toNat by omega] at c1
    obtain ⟨F, hF⟩ : ∃ F, xs ++ List.replicate (P + n - xs.length).toNat (0 : Int) = F := ⟨_, rfl⟩
    have hFl : F.length = (P + n).toNat := by rw [← hF]; simp; omega
    rw [hF] at c1 ⊢
    have hw : IntKind.u32.wrap P = P := by rw [IntKind.wrap_u32]; omega
    clear e hP hF hZ2
    go_enter Try.func10, Try.ntmps10
    go_wp2_with (go_at_call 14; refine c1.mono ?_; rintro e w1 ⟨rfl, hb, hbe⟩)
    go_ret3
    refine ⟨_, rfl, ?_, hbe⟩
    have := hb.rd (by unfold maxLen; omega)
    rwa [hFl] at this
end Go.Proofs.Ytdhhmldcablbgab
