/-
  strings.IndexAny of a slash or a colon.
-/
import Derived.Test.YtmjgiaomijghoaaDoorPly
import Derived.Lib.OthersKept
namespace Go.Proofs.YtmjgiaomijghoaaDoor
open Go.ChangeShapes Go.WideShapes Go.ChangeAt Go.RowKit
set_option linter.unusedVariables false
set_option linter.unusedSimpArgs false

theorem get_L (s : ByteArray) (j : Nat) (h : j < s.size) : (L s)[j]? = some ((s.get! j).toNat : Int) := by
  have h2 : j < s.data.toList.length := by rw [← Lib.size_eq]; exact h
  unfold L
  rw [List.getElem?_map, List.getElem?_eq_getElem h2]
  simp [ByteArray.get!, getElem!_pos, h]
theorem noE_skip {s : ByteArray} {k n : Nat} (h : NoE (L s) k) (hn : k + n ≤ s.size) (hg : ∀ j, j < n → 128 ≤ (s.get! (k + j)).toNat) : NoE (L s) (k + n) := by
  intro x hx
  rw [List.take_add, List.mem_append] at hx
  rcases hx with hx | hx
  · exact h x hx
  · obtain ⟨j, hj, rfl⟩ := List.mem_iff_getElem.1 hx
    rw [List.length_take] at hj
    have hjn : j < n := by omega
    have e : ((L s).drop k |>.take n)[j]? = some ((s.get! (k + j)).toNat : Int) := by
      rw [List.getElem?_take, if_pos hjn, List.getElem?_drop]
      exact get_L s (k + j) (by omega)
    have e2 := List.getElem?_eq_getElem (l := ((L s).drop k).take n) (i := j) (by rw [List.length_take]; exact hj)
    rw [e2] at e
    have e3 := Option.some.inj e
    have := hg j hjn
    rw [e3]
    omega

set_option maxHeartbeats 8000000 in
set_option maxRecDepth 1000000 in
theorem w_ixs (s : ByteArray) (w : World) (h8 : (s.size : Int) ≤ 8) :
    Calls Tryd.prog 32 #[.string s, .string ⟨#[47, 58]⟩] w fun e w' => ∃ i, e = .returned (.int .i64 i) ∧ AtE (L s) i ∧ Below w.heap.size w w' := by
  have h8z : decide ((8 : Int) < (s.size : Int)) = false := decide_eq_false (by omega)
  go_enter Tryd.func32, Tryd.ntmps32
  go_wp2_with (go_at_call 48; refine (w_suas _ _).mono ?_; rintro e w' ⟨rfl, hw⟩; rw [hw, h8z])
  go_loopg [9, 10] s.size (fun g _ _ wx => ∃ k : Nat, k ≤ s.size ∧ s.size ≤ k + g ∧ wx.heap[w.heap.size]? = some (.stringIter s k) ∧ Hid (NoE (L s) k) ∧ Below w.heap.size w wx)
  case atStart => exact ⟨0, by omega, by omega, World.iter_heap w s 0, hid (fun x hx => by simp at hx), (Below.refl _ w).alloc (Nat.le_refl _) _⟩
  case round =>
    obtain ⟨k, hk, hkg, hit, hno, hb⟩ := hrel
    by_cases hlt : k < s.size
    · obtain ⟨g', rfl⟩ : ∃ g', gk = g' + 1 := ⟨gk - 1, by omega⟩
      have hnx := fun ty => Lib.run_next_any_at (P := Tryd.prog) wr w.heap.size s k ty hit hlt
      have hd := L_drop s k hlt
      by_cases hhi : 128 ≤ (s[k]'hlt).toNat
      · obtain ⟨d1, d2⟩ := decode_high s k hlt hhi
        have d3 := decode_le s k
        obtain ⟨d4, d5⟩ := dec_cov s k hlt hhi
        obtain ⟨R, hR⟩ : ∃ R, (Utf8.decode s k).1 = R := ⟨_, rfl⟩
        obtain ⟨K, hK⟩ : ∃ K, (Utf8.decode s k).2 = K := ⟨_, rfl⟩
        rw [hR] at hnx d1 d3
        rw [hK] at hnx d2 d4 d5
        have hno2 : Hid (NoE (L s) (k + K)) := noE_skip hno.out d4 d5
        have hit2 := Lib.iterAt_heap wr w.heap.size s k (k + K) hit
        have hb2 := Lib.below_iterAt hb (k := w.heap.size) (Nat.le_refl _) s (k + K)
        obtain ⟨W, hWd⟩ : ∃ W, wr.iterAt w.heap.size s (k + K) = W := ⟨_, rfl⟩
        rw [hWd] at hnx hit2 hb2
        have cr := w_irh (R : Int) W (by omega) (by omega)
        clear hd hhi d5 hR hK hWd
        go_wp2_with (go_at_call 47; refine cr.mono ?_; rintro e w2 ⟨rfl, b2⟩)
        go_roundg g'
        case measure => omega
        case rel => exact ⟨k + K, d4, by omega, by have hl := (Array.getElem?_eq_some_iff.1 hit2).1; rw [b2.block _ hl]; exact hit2, hno2, below_trans hb2 b2⟩
      · have hda := decode_ascii s k hlt (by omega)
        rw [hda] at hnx
        have hit2 := Lib.iterAt_heap wr w.heap.size s k (k + 1) hit
        have hb2 := Lib.below_iterAt hb (k := w.heap.size) (Nat.le_refl _) s (k + 1)
        obtain ⟨W, hWd⟩ : ∃ W, wr.iterAt w.heap.size s (k + 1) = W := ⟨_, rfl⟩
        simp only [] at hnx
        rw [hWd] at hnx hit2 hb2
        have cr := w_irl ((s[k]'hlt).toNat : Int) W (by omega) (by omega)
        obtain ⟨x, hx⟩ : ∃ x, ((s[k]'hlt).toNat : Int) = x := ⟨_, rfl⟩
        rw [hx] at hnx hd cr
        have Hd := hid hd
        clear hd hx hhi hda hWd
        by_cases hc : x = 47 ∨ x = 58
        · have hA : Hid (AtE (L s) k) := exK_hit hno.out (by rw [L_len]; exact hlt) Hd.out hc
          go_wp2_with (go_at_call 47; refine cr.mono ?_; rintro e w2 ⟨i, rfl, hi, hw2⟩; obtain rfl := hw2.symm; have hi0 : (0 : Int) ≤ i := hi.2 hc; clear hi)
          go_ret
          exact ⟨_, rfl, hA.out, hb2⟩
        · have hno2 : Hid (NoE (L s) (k + 1)) := noE_snoc hno.out Hd.out (fun h => hc (Or.inl h)) (fun h => hc (Or.inr h))
          go_wp2_with (go_at_call 47; refine cr.mono ?_; rintro e w2 ⟨i, rfl, hi, hw2⟩; obtain rfl := hw2.symm; have hi0 : ¬ (0 : Int) ≤ i := fun h => hc (hi.1 h); clear hi)
          go_roundg g'
          case measure => omega
          case rel => exact ⟨k + 1, by omega, by omega, hit2, hno2, hb2⟩
    · have hnx := fun ty => Lib.run_next_end_at (P := Tryd.prog) wr w.heap.size s k ty hit hlt
      have hA : Hid (AtE (L s) (-1)) := exK_all (by rw [L_len, show s.size = k by omega]; exact hno.out)
      go_wp2_with fail
      go_ret
      exact ⟨_, rfl, hA.out, hb⟩

theorem w_ixany (s : ByteArray) (w : World) (hs : s.size ≤ maxLen) :
    Calls Tryd.prog 32 #[.string s, .string ⟨#[47, 58]⟩] w fun e w' => ∃ i, e = .returned (.int .i64 i) ∧ AtE (L s) i ∧ Below w.heap.size w w' := by
  by_cases h8 : (8 : Int) < s.size
  · exact w_ixl s w hs h8
  · exact w_ixs s w (by omega)
end Go.Proofs.YtmjgiaomijghoaaDoor
