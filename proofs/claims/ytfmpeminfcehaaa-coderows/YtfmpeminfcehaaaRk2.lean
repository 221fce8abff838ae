/-
  kind, all and Formed of the document's answer for code.
-/
import Derived.Test.YtfmpeminfcehaaaRk1
import Derived.Deep.RegionHeld2
namespace Go.Proofs.Ytfmpeminfcehaaa
open Go.ChangeShapes Go.WideShapes Go.ChangeAt Go.RowKit
set_option linter.unusedVariables false
set_option linter.unusedSimpArgs false

set_option maxHeartbeats 1000000 in
theorem w_r10kind (v : Dv) (c : List Opd) (n : Int) (w : World) (h : RdO w v.vc c) :
    Calls Try.prog 29 #[.agg v.cs, .int .i64 n] w fun e w' => e = .returned (.int .i64 (kndF c n)) ∧ Below w.heap.size w w' := by
  have bw := box_below w (.cells v.cs 26)
  have f0 := (stands_new w v.cs 26).cell 0 v.vc rfl
  have hla := slr_len h uO (P := Try.prog)
  obtain ⟨U, hU⟩ : ∃ X, v.cs = X := ⟨_, rfl⟩
  rw [hU] at f0 bw ⊢
  clear hU
  by_cases h0 : n < 0
  · have q0 : decide (n < 0) = true := decide_eq_true h0
    have hf : Hid (kndF c n = 0) := by show _ = _; unfold kndF; rw [if_pos (Or.inl h0)]
    go_enter Try.func29, Try.ntmps29
    go_wp2_with fail
    go_ret
    rw [hf.out]
    exact ⟨rfl, bw⟩
  · have q0 : decide (n < 0) = false := decide_eq_false h0
    by_cases h1 : (c.length : Int) ≤ n
    · have q1 : decide ((c.length : Int) ≤ n) = true := decide_eq_true h1
      have hf : Hid (kndF c n = 0) := by show _ = _; unfold kndF; rw [if_pos (Or.inr h1)]
      go_enter Try.func29, Try.ntmps29
      go_wp2_with fail
      go_ret
      rw [hf.out]
      exact ⟨rfl, bw⟩
    · have q1 : decide ((c.length : Int) ≤ n) = false := decide_eq_false h1
      obtain ⟨k, rfl⟩ : ∃ k : Nat, n = (k : Int) := ⟨n.toNat, by omega⟩
      have hk : k < c.length := by omega
      have hkI : (k : Int) < c.length := by omega
      obtain ⟨b1, o1, r1, j0, j1⟩ := op_at (RdO.below h bw) k hk
      have hf : Hid (kndF c k = c[k].1) := by
        show _ = _
        rw [knd_at (by omega) (by omega), List.getD_eq_getElem?_getD, Int.toNat_natCast, List.getElem?_eq_getElem hk]
        rfl
      obtain ⟨A, hA⟩ : ∃ A, c[k].1 = A := ⟨_, rfl⟩
      rw [hA] at j0 hf
      clear hA
      go_enter Try.func29, Try.ntmps29
      go_wp2_with fail
      go_ret
      rw [hf.out]
      exact ⟨rfl, bw⟩

set_option maxHeartbeats 2000000 in
set_option maxRecDepth 100000 in
theorem w_r10all (v : Dv) (c : List Opd) (vl : Value) (l : List Int) (K : Int) (w : World) (h : RdO w v.vc c) (hl : Rd .i64 w vl l) :
    Calls Try.prog 30 #[.agg v.cs, vl, .int .i64 K] w fun e w' => e = .returned (.bool (l.all (okOu c K))) ∧ Below w.heap.size w w' := by
  have bw := box_below w (.cells v.cs 26)
  have st := stands_new w v.cs 26
  have hla := rd_len hl uJ (P := Try.prog)
  have hm : l.length ≤ maxLen := by
    rcases hl with ⟨_, _, _, _, rfl⟩ | ⟨_, _, _, _, _, g1, g2, _⟩
    · simp
    · omega
  unfold maxLen at hm
  have ck := fun n W (g : Below w.heap.size w W) => w_r10kind v c n W (RdO.below h g)
  obtain ⟨x0, x1, x2, x3, x4⟩ := v
  simp only [Dv.cs] at st bw ck ⊢
  have HL := hid hl
  clear hl h
  go_enter Try.func30, Try.ntmps30
  go_upto_region 1 with fail
  generalize w.alloc (.cells #[x0, x1, x2, x3, x4] 26) = W0 at st bw ⊢
  go_wp2_with fail
  go_loopw [7] (fun I wx => ∃ k : Nat, (k : Int) ≤ l.length ∧ I = .int .i64 k ∧ Hid ((l.take k).all (okOu c K) = true) ∧ Below W0.heap.size W0 wx) (fun I _ => (l.length - intOf I).toNat)
  case atStart => exact ⟨0, by omega, rfl, hid rfl, Below.refl _ _⟩
  case round =>
    obtain ⟨k, hk, rfl, ht, hg⟩ := hrel
    by_cases hlt : (k : Int) < l.length
    · have hkl : k < l.length := by omega
      obtain ⟨a1, i1, c1⟩ := rd_idx (HL.out.below (below_trans bw hg)) uJ zJ k (by omega) hlt
      simp only [Int.toNat_natCast] at c1
      have hx : l.getD k 0 = l[k] := by rw [List.getD_eq_getElem?_getD, List.getElem?_eq_getElem hkl]; rfl
      rw [hx] at c1
      obtain ⟨X, hX⟩ : ∃ X, l[k] = X := ⟨_, rfl⟩
      rw [hX] at c1
      have Z : Hid (∀ W, Below wr.heap.size wr W → (W.cell? ⟨w.heap.size, 0, none⟩ = some x0 ∧ W.cell? ⟨w.heap.size, 1, none⟩ = some x1 ∧ W.cell? ⟨w.heap.size, 2, none⟩ = some x2 ∧ W.cell? ⟨w.heap.size, 3, none⟩ = some x3 ∧ W.cell? ⟨w.heap.size, 4, none⟩ = some x4) ∧ W.cell? a1 = some (.int .i64 X)) := by
        show ∀ W, _
        intro W q
        have s := (st.below hg).below q
        exact ⟨⟨s.cell 0 _ rfl, s.cell 1 _ rfl, s.cell 2 _ rfl, s.cell 3 _ rfl, s.cell 4 _ rfl⟩, below_cell q c1⟩
      have hrd : Hid (Below wr.heap.size wr wr.drew) := below_drewN (Below.refl _ _) 1
      have hkx := fun W g => ck X W g
      have CK := hid hkx
      have HB : Hid (Below w.heap.size w wr) := below_trans bw hg
      have hok : okOu c K X = decide (kndF c X = K) := rfl
      obtain ⟨A, hA⟩ : ∃ A, kndF c X = A := ⟨_, rfl⟩
      rw [hA] at hok CK
      clear hkx ck
      by_cases hAK : A = K
      · have q : (A != K) = false := by simp [hAK]
        have ht2 : Hid ((l.take (k + 1)).all (okOu c K) = true) := by
          show _ = _
          rw [List.take_succ_eq_append_getElem hkl, List.all_append, ht.out, hX]
          simp [hok, hAK]
        clear hX hx hok hA hAK ht c1 HL
        go_wp2_with fail
        go_region_held2 (fun W => (W.cell? ⟨w.heap.size, 0, none⟩ = some x0 ∧ W.cell? ⟨w.heap.size, 1, none⟩ = some x1 ∧ W.cell? ⟨w.heap.size, 2, none⟩ = some x2 ∧ W.cell? ⟨w.heap.size, 3, none⟩ = some x3 ∧ W.cell? ⟨w.heap.size, 4, none⟩ = some x4) ∧ W.cell? a1 = some (.int .i64 X)) (first | with_reducible exact Z.out _ hrd.out | with_reducible exact Z.out _ R2.out)
          (first | (go_at_call 29; refine (CK.out _ (below_trans HB.out hrd.out)).mono ?_; rintro e w2 ⟨rfl, d2⟩; have R2 : Hid (Below wr.heap.size wr w2) := below_trans hrd.out d2; clear d2))
        go_wp2_with fail
        go_roundw
        case rel => exact ⟨k + 1, by omega, by go_num, ht2, below_trans hg R2.out⟩
        case measure => simp [intOf]; omega
      · have q : (A != K) = true := by simp [hAK]
        have hf : Hid (l.all (okOu c K) = false) := by
          show _ = _
          rw [List.all_eq_false]
          exact ⟨_, List.getElem_mem hkl, by rw [hX, hok]; simp [hAK]⟩
        clear hX hx hok hA hAK ht c1 HL
        go_wp2_with fail
        go_region_held2 (fun W => (W.cell? ⟨w.heap.size, 0, none⟩ = some x0 ∧ W.cell? ⟨w.heap.size, 1, none⟩ = some x1 ∧ W.cell? ⟨w.heap.size, 2, none⟩ = some x2 ∧ W.cell? ⟨w.heap.size, 3, none⟩ = some x3 ∧ W.cell? ⟨w.heap.size, 4, none⟩ = some x4) ∧ W.cell? a1 = some (.int .i64 X)) (first | with_reducible exact Z.out _ hrd.out | with_reducible exact Z.out _ R2.out)
          (first | (go_at_call 29; refine (CK.out _ (below_trans HB.out hrd.out)).mono ?_; rintro e w2 ⟨rfl, d2⟩; have R2 : Hid (Below wr.heap.size wr w2) := below_trans hrd.out d2; clear d2))
        go_wp2_with fail
        go_ret
        exact ⟨ret_b hf.out.symm, below_trans HB.out R2.out⟩
    · have hf : Hid (l.all (okOu c K) = true) := by
        show _ = _
        have := ht.out
        rw [List.take_of_length_le (by omega)] at this
        exact this
      go_wp2_with fail
      go_ret
      exact ⟨ret_b hf.out.symm, below_trans bw hg⟩
end Go.Proofs.Ytfmpeminfcehaaa
