/-
  bytes.Compare, and Compare of package mem: it answers its plain function, for all memories and numbers.
-/
import Derived.Test.YtdhhmldcablbgabMs3
import Derived.Lib.BytesEntry
import Derived.Laws.Externs
namespace Go.Proofs.Ytdhhmldcablbgab
open Go.ChangeShapes Go.WideShapes Go.ChangeAt Go.RowKit
set_option linter.unusedVariables false
set_option linter.unusedSimpArgs false

theorem byte_lt (x y : Int) (hx : 0 ≤ x ∧ x < 256) (hy : 0 ≤ y ∧ y < 256) : (UInt8.ofNat x.toNat < UInt8.ofNat y.toNat) = (x < y) := by
  apply propext
  rw [UInt8.lt_iff_toNat_lt, UInt8.toNat_ofNat', UInt8.toNat_ofNat']
  omega
theorem cmp_bytes : ∀ xs ys : List Int, xs.length = ys.length → bytesL xs → bytesL ys →
    (Lib.compareBytes (Lib.bytesOf xs) (Lib.bytesOf ys) = 0 ∧ cmpL xs ys = 0) ∨ (Lib.compareBytes (Lib.bytesOf xs) (Lib.bytesOf ys) = 1 ∧ cmpL xs ys = 1) ∨ (Lib.compareBytes (Lib.bytesOf xs) (Lib.bytesOf ys) = -1 ∧ cmpL xs ys = 4294967295)
  | [], [], _, _, _ => Or.inl ⟨by simp [Lib.bytesOf, Lib.compareBytes], rfl⟩
  | [], _ :: _, h, _, _ => by simp at h
  | _ :: _, [], h, _, _ => by simp at h
  | x :: xs, y :: ys, h, hx, hy => by
    have ih := cmp_bytes xs ys (by simpa using h) (fun z hz => hx z (by simp [hz])) (fun z hz => hy z (by simp [hz]))
    have e : cmpL (x :: xs) (y :: ys) = if y < x then 1 else if x < y then 4294967295 else cmpL xs ys := rfl
    have e2 : Lib.compareBytes (Lib.bytesOf (x :: xs)) (Lib.bytesOf (y :: ys)) = if x < y then -1 else if y < x then 1 else Lib.compareBytes (Lib.bytesOf xs) (Lib.bytesOf ys) := by
      simp only [Lib.bytesOf, List.map_cons, Lib.compareBytes]
      simp only [byte_lt x y (hx x (by simp)) (hy y (by simp)), byte_lt y x (hy y (by simp)) (hx x (by simp))]
    rw [e, e2]
    by_cases h1 : y < x
    · rw [if_pos h1, if_neg (by omega), if_pos h1]
      exact Or.inr (Or.inl ⟨rfl, rfl⟩)
    · by_cases h2 : x < y
      · refine Or.inr (Or.inr ⟨?_, ?_⟩)
        · rw [if_pos h2]
        · rw [if_neg h1, if_pos h2]
      · rw [if_neg h1, if_neg h2, if_neg h2, if_neg h1]
        exact ih
theorem run_bytes_rd {P : Program} {w : World} {v : Value} {xs : List Int} (h : Rd .u8 w v xs) : (Extern.Bytes.bytesOf v).run P w = .ok ⟨(Lib.bytesOf xs).toArray⟩ w := by
  rcases h with ⟨ao, cap, rfl, hn, rfl⟩ | ⟨b, off, cap, rfl, h0, hc1, hc2, hc⟩
  · cases ao <;> rfl
  · have := Lib.run_loadBytesX (P := P) w xs ⟨b, off, none⟩ .empty (fun j x hj => by
      have hjl : j < xs.length := (List.getElem?_eq_some_iff.1 hj).1
      have e : (⟨b, off, none⟩ : Addr).add j = ⟨b, off + j, none⟩ := by unfold Addr.add; split <;> simp_all
      rw [e, hc j hjl, List.getD_eq_getElem?_getD, hj]
      rfl)
    simpa [Extern.Bytes.bytesOf] using this
theorem run_compare_rd {P : Program} {w : World} {va vb : Value} {xs ys : List Int} (ha : Rd .u8 w va xs) (hb : Rd .u8 w vb ys) :
    (Extern.BytealgCompare.compare #[va, vb]).run P w = .ok (.int .i64 (Lib.compareBytes (Lib.bytesOf xs) (Lib.bytesOf ys))) w := by
  change Sem.run P (do pure (goInt (Extern.BytealgCompare.cmp (← Extern.Bytes.bytesOf va) (← Extern.Bytes.bytesOf vb)))) w = _
  simp only [Sem.run_bind, run_bytes_rd ha, run_bytes_rd hb, Sem.run_pure, Result.andThen]
  rw [Lib.cmp_eq]
  rfl
end Go.Proofs.Ytdhhmldcablbgab
