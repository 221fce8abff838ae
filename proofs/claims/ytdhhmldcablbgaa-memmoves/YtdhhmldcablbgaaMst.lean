/-
  bytes.Compare, and Compare of package mem: it answers its plain function, for all memories and numbers.
-/
import Derived.Test.YtdhhmldcablbgaaMs3
import Derived.Lib.BytesEntry
import Derived.Laws.Externs
namespace Go.Proofs.Ytdhhmldcablbgaa
open Go.ChangeShapes Go.WideShapes Go.ChangeAt Go.RowKit
set_option linter.unusedVariables false
set_option linter.unusedSimpArgs false

theorem byte_lt (x y : Int) (hx : 0 ≤ x ∧ x < 256) (hy : 0 ≤ y ∧ y < 256) : (UInt8.ofNat x.toNat < UInt8.ofNat y.toNat) = (x < y) := by
  apply propext
  rw [UInt8.lt_iff_toNat_lt, UInt8.toNat_ofNat', UInt8.toNat_ofNat']
  omega
theorem cmp_bytes : ∀ xs ys : List Int, xs.length = ys.length → bytesL xs → bytesL ys →
    (Lib.compareBytes (Lib.bytesOf xs) (Lib.bytesOf ys) = 0 ∧ cmpL xs ys = 0) ∨ (Lib.compareBytes (Lib.bytesOf xs) (Lib.bytesOf ys) = 1 ∧ cmpL xs ys = 1) ∨ (Lib.compareBytes (Lib.bytesOf xs) (Lib.bytesOf ys) = -1 ∧ cmpL xs ys = 4294967295)
  | [], [], _, _, _ => Or.inl ⟨by simp [Lib.bytesOf, Lib.compareBytes], rfl⟩
  | [], _ :: _, h, _, _ => by simp at h
  | _ :: _, [], h, _, _ => by simp at h
  | x :: xs, y :: ys, h, hx, hy => by
    have ih := cmp_bytes xs ys (by simpa using h) (fun z hz => hx z (by simp [hz])) (fun z hz => hy z (by simp [hz]))
    have e : cmpL (x :: xs) (y :: ys) = if y < x then 1 else if x < y then 4294967295 else cmpL xs ys := rfl
    have e2 : Lib.compareBytes (Lib.bytesOf (x :: xs)) (Lib.bytesOf (y :: ys)) = if x < y then -1 else if y < x then 1 else Lib.compareBytes (Lib.bytesOf xs) (Lib.bytesOf ys) := by
      simp only [Lib.bytesOf, List.map_cons, Lib.compareBytes]
      simp only [byte_lt x y (hx x (by simp)) (hy y (by simp)), byte_lt y x (hy y (by simp)) (hx x (by simp))]
    rw [e, e2]
    by_cases h1 : y < x
    · rw [if_pos h1, if_neg (by omega), if_pos h1]
      exact Or.inr (Or.inl ⟨rfl, rfl⟩)
    · by_cases h2 : x < y
      · refine Or.inr (Or.inr ⟨?_, ?_⟩)
        · rw [if_pos h2]
        · rw [if_neg h1, if_pos h2]
      · rw [if_neg h1, if_neg h2, if_neg h2, if_neg h1]
        exact ih
theorem run_bytes_rd {P : Program} {w : World} {v : Value} {xs : List Int} (h : Rd .u8 w v xs) : (Extern.Bytes.bytesOf v).run P w = .ok ⟨(Lib.bytesOf xs).toArray⟩ w := by
  rcases h with ⟨ao, cap, rfl, hn, rfl⟩ | ⟨b, off, cap, rfl, h0, hc1, hc2, hc⟩
  · cases ao <;> rfl
  · have := Lib.run_loadBytesX (P := P) w xs ⟨b, off, none⟩ .empty (fun j x hj => by
      have hjl : j < xs.length := (List.getElem?_eq_some_iff.1 hj).1
      have e : (⟨b, off, none⟩ : Addr).add j = ⟨b, off + j, none⟩ := by unfold Addr.add; split <;> simp_all
      rw [e, hc j hjl, List.getD_eq_getElem?_getD, hj]
      rfl)
    simpa [Extern.Bytes.bytesOf] using this
theorem run_compare_rd {P : Program} {w : World} {va vb : Value} {xs ys : List Int} (ha : Rd .u8 w va xs) (hb : Rd .u8 w vb ys) :
    (Extern.BytealgCompare.compare #[va, vb]).run P w = .ok (.int .i64 (Lib.compareBytes (Lib.bytesOf xs) (Lib.bytesOf ys))) w := by
  change Sem.run P (do pure (goInt (Extern.BytealgCompare.cmp (← Extern.Bytes.bytesOf va) (← Extern.Bytes.bytesOf vb)))) w = _
  simp only [Sem.run_bind, run_bytes_rd ha, run_bytes_rd hb, Sem.run_pure, Result.andThen]
  rw [Lib.cmp_eq]
  rfl

theorem w_bcompare (va vb : Value) (xs ys : List Int) (w : World) (ha : Rd .u8 w va xs) (hb : Rd .u8 w vb ys) :
    Calls Try.prog 33 #[va, vb] w fun e w' => e = .returned (.int .i64 (Lib.compareBytes (Lib.bytesOf xs) (Lib.bytesOf ys))) ∧ w' = w := by
  have hc : (callFunc 35 #[va, vb]).run Try.prog w = .ok (.value (.int .i64 (Lib.compareBytes (Lib.bytesOf xs) (Lib.bytesOf ys)))) w := by
    rw [run_callFunc_extern Try.func35 (by kernel_rfl) (by kernel_rfl) (by kernel_rfl) (e := Extern.BytealgCompare.compare) (by kernel_rfl), run_compare_rd ha hb]
    rfl
  obtain ⟨C, hC⟩ : ∃ C, Lib.compareBytes (Lib.bytesOf xs) (Lib.bytesOf ys) = C := ⟨_, rfl⟩
  rw [hC] at hc ⊢
  clear hC
  go_enter Try.func33, Try.ntmps33
  go_wp2_with fail
  go_ret
  exact ⟨rfl, rfl⟩

theorem w_mcompare (v : Value) (xs : List Int) (a b n : Int) (w : World) (h : Rd .u8 w v xs) (hB : bytesL xs) (hz : xs.length ≤ 140737488355328) (a0 : 0 ≤ a) (a1 : a < 4294967296) (b0 : 0 ≤ b) (b1 : b < 4294967296) (n0 : 0 ≤ n) (n1 : n < 4294967296) :
    Calls Try.prog 24 #[v, .int .u32 a, .int .u32 b, .int .u32 n] w fun e w' => e = .returned (.tuple #[.int .u32 (cmpF xs a b n).1, .int .i64 (cmpF xs a b n).2]) ∧ Below w.heap.size w w' := by
  cases hi : inF xs.length a n
  · have e : cmpF xs a b n = (0, 9) := by unfold cmpF; rw [hi]; simp
    rw [e]
    have c1 := w_stretch_out v xs a n w h hz a0 a1 n0 (by omega) hi
    clear e
    go_enter Try.func24, Try.ntmps24
    go_wp2_with (go_at_call 31; refine c1.mono ?_; rintro e w1 ⟨rfl, rfl⟩)
    go_ret2
    exact ⟨rfl, Below.refl _ _⟩
  · have c1 := w_stretch_in v xs a n w h hz a0 n0 hi
    have hi2 := hi
    simp [inF] at hi2
    obtain ⟨ra, _⟩ := rd_cut3 h uB zB a n a0 n0 (by omega)
    obtain ⟨u, hu⟩ : ∃ u, cut3 v a.toNat n.toNat = u := ⟨_, rfl⟩
    rw [hu] at ra c1
    clear hu
    cases hj : inF xs.length b n
    · have e : cmpF xs a b n = (0, 9) := by unfold cmpF; rw [hj]; simp
      rw [e]
      have c2 := w_stretch_out v xs b n w h hz b0 b1 n0 (by omega) hj
      clear e
      go_enter Try.func24, Try.ntmps24
      go_wp2_with fail
      refine c1.mono ?_
      rintro e w1 ⟨rfl, rfl⟩
      go_wp2_with fail
      refine c2.mono ?_
      rintro e w2 ⟨rfl, rfl⟩
      go_wp2_with fail
      go_ret2
      exact ⟨rfl, Below.refl _ _⟩
    · have c2 := w_stretch_in v xs b n w h hz b0 n0 hj
      have hj2 := hj
      simp [inF] at hj2
      obtain ⟨rb, _⟩ := rd_cut3 h uB zB b n b0 n0 (by omega)
      obtain ⟨z, hzz⟩ : ∃ z, cut3 v b.toNat n.toNat = z := ⟨_, rfl⟩
      rw [hzz] at rb c2
      have e : cmpF xs a b n = (cmpL ((xs.drop a.toNat).take n.toNat) ((xs.drop b.toNat).take n.toNat), 0) := by unfold cmpF; rw [if_pos ⟨hi, hj⟩]
      rw [e]
      have c3 := w_bcompare _ _ _ _ w ra rb
      have hcb := cmp_bytes ((xs.drop a.toNat).take n.toNat) ((xs.drop b.toNat).take n.toNat) (by simp; omega) (bytes_take (bytes_drop hB _) _) (bytes_take (bytes_drop hB _) _)
      show Calls _ _ _ _ fun e w' => e = .returned (.tuple #[.int .u32 (cmpL ((xs.drop a.toNat).take n.toNat) ((xs.drop b.toNat).take n.toNat)), .int .i64 0]) ∧ _
      obtain ⟨C, hC⟩ : ∃ C, Lib.compareBytes (Lib.bytesOf ((xs.drop a.toNat).take n.toNat)) (Lib.bytesOf ((xs.drop b.toNat).take n.toNat)) = C := ⟨_, rfl⟩
      obtain ⟨R, hR⟩ : ∃ R, cmpL ((xs.drop a.toNat).take n.toNat) ((xs.drop b.toNat).take n.toNat) = R := ⟨_, rfl⟩
      rw [hC] at c3 hcb
      rw [hR] at hcb ⊢
      have hw : IntKind.u32.wrap C = R := by rw [IntKind.wrap_u32]; omega
      have hR0 : 0 ≤ R := by omega
      have hR1 : R < 4294967296 := by omega
      clear e hzz hC hR hcb ra rb
      go_enter Try.func24, Try.ntmps24
      go_wp2_with fail
      refine c1.mono ?_
      rintro e w1 ⟨rfl, rfl⟩
      go_wp2_with fail
      refine c2.mono ?_
      rintro e w2 ⟨rfl, rfl⟩
      go_wp2_with fail
      refine c3.mono ?_
      rintro e w3 ⟨rfl, rfl⟩
      go_wp2_with fail
      go_ret2
      exact ⟨rfl, Below.refl _ _⟩
end Go.Proofs.Ytdhhmldcablbgaa
