/-
  The landed package nvram: the bank that counts, and the one that is free.
-/
import Derived.Test.YtlnlifijnijgmaaNve
namespace Go.Proofs.Ytlnlifijnijgmaa
open Go.ChangeShapes Go.WideShapes Go.ChangeAt Go.RowKit
set_option linter.unusedVariables false
set_option linter.unusedSimpArgs false

theorem bkF_len {xs : List Int} (hl : xs.length = 512) (k : Nat) (hk : k < 2) : (bkF xs k).length = 256 := by simp only [bkF, List.length_take, List.length_drop]; omega
/-- a pair is read whole -/
theorem wpList_load_pr {ops : Array Oper} {rest : List Oper} {op : Oper} {a : Act} {w : World} {Q : Exit → Act → World → Prop} (hgd : op.guard = none) (x : Operand) (ho : op.op = .load 49 x)
    (b : Nat) (hx : a.eval x = .pointer (some ⟨b, 0, none⟩)) (xs : List Int) (hc : BkAt w b 0 xs) (hl : xs.length = 512)
    (h : wpList Try.prog ops Q rest (a.put op.dst (.agg (BkA xs))) w) : wpList Try.prog ops Q (op :: rest) a w :=
  wpList_load_mid hgd 49 x ho b 0 hx (xs.map (Value.int .u8)) _ (bkat_range hc) arrP rfl (by rw [szP, List.length_map, hl]) h

set_option maxHeartbeats 4000000 in
theorem w_pcounting18 (xs : List Int) (w : World) (hl : xs.length = 512) (hb : bytesL xs) :
    Calls Try.prog 23 #[.agg (BkA xs)] w fun e w' => e = .returned (.int .i64 (cntF xs).1) ∧ Below w.heap.size w w' := by
  have ba := bkat_box w xs 49
  have bx := box_below w (.cells (BkA xs) 49)
  have L0 : (bkF xs 0).length = 256 := bkF_len hl 0 (by omega)
  have L1 : (bkF xs 1).length = 256 := bkF_len hl 1 (by omega)
  have r0 := fun W => w_pright18 (bkF xs 0) W L0 (bk_bytes hb 0)
  have r1 := fun W => w_pright18 (bkF xs 1) W L1 (bk_bytes hb 1)
  have p0 : ∀ W, BkAt W w.heap.size 0 xs → BkAt W w.heap.size 0 (bkF xs 0) := fun W h => bkat_part h hl 0 (by omega)
  have p1 : ∀ W, BkAt W w.heap.size 0 xs → BkAt W w.heap.size 256 (bkF xs 1) := fun W h => bkat_part h hl 1 (by omega)
  have q0 : ∀ W, BkAt W w.heap.size 0 xs → W.cell? ⟨w.heap.size, 1, none⟩ = some (.int .u8 ((bkF xs 0).getD 1 0)) := fun W h => by have := p0 W h 1 (by omega); simpa using this
  have q1 : ∀ W, BkAt W w.heap.size 0 xs → W.cell? ⟨w.heap.size, 257, none⟩ = some (.int .u8 ((bkF xs 1).getD 1 0)) := fun W h => by have := p1 W h 1 (by omega); simpa using this
  have hc : Hid ((cntF xs).1 = if bkR (bkF xs 0) = true ∧ bkR (bkF xs 1) = true ∧ (bkF xs 1).getD 1 0 = ((bkF xs 0).getD 1 0 + 1) % 256 then 1 else if bkR (bkF xs 0) = true then 0 else if bkR (bkF xs 1) = true then 1 else -1) := by
    show _ = _
    unfold cntF
    split
    · rfl
    · split
      · rfl
      · split <;> rfl
  have g0 := getD_byte (bk_bytes hb 0) 1
  have g1 := getD_byte (bk_bytes hb 1) 1
  obtain ⟨B0, hB0⟩ : ∃ B, bkF xs 0 = B := ⟨_, rfl⟩
  obtain ⟨B1, hB1⟩ : ∃ B, bkF xs 1 = B := ⟨_, rfl⟩
  rw [hB0] at L0 r0 p0 q0 hc g0
  rw [hB1] at L1 r1 p1 q1 hc g1
  obtain ⟨X, hX⟩ : ∃ X, bkR B0 = X := ⟨_, rfl⟩
  obtain ⟨Y, hY⟩ : ∃ Y, bkR B1 = Y := ⟨_, rfl⟩
  obtain ⟨a, hA⟩ : ∃ g, B0.getD 1 0 = g := ⟨_, rfl⟩
  obtain ⟨b, hBb⟩ : ∃ g, B1.getD 1 0 = g := ⟨_, rfl⟩
  rw [hX] at r0 hc
  rw [hY] at r1 hc
  rw [hA] at q0 hc g0
  rw [hBb] at q1 hc g1
  obtain ⟨R, hR⟩ : ∃ R, (cntF xs).1 = R := ⟨_, rfl⟩
  rw [hR] at hc ⊢
  have i0 : ∀ w', (Instr.indexAt 49 (.pointer (some ⟨w.heap.size, 0, none⟩)) (.int .i64 0)).run Try.prog w' = .ok (.pointer (some ⟨w.heap.size, 0, none⟩)) w' := fun w' => pr_ix w.heap.size 0 .i64 0 rfl (by omega) w'
  have i1 : ∀ w', (Instr.indexAt 49 (.pointer (some ⟨w.heap.size, 0, none⟩)) (.int .i64 1)).run Try.prog w' = .ok (.pointer (some ⟨w.heap.size, 256, none⟩)) w' := fun w' => pr_ix w.heap.size 1 .i64 1 rfl (by omega) w'
  have j0 : ∀ w', (Instr.indexAt 47 (.pointer (some ⟨w.heap.size, 0, none⟩)) (.int .i64 1)).run Try.prog w' = .ok (.pointer (some ⟨w.heap.size, 1, none⟩)) w' := fun w' => bk_ix w.heap.size 0 1 .i64 1 rfl (by omega) w'
  have j1 : ∀ w', (Instr.indexAt 47 (.pointer (some ⟨w.heap.size, 256, none⟩)) (.int .i64 1)).run Try.prog w' = .ok (.pointer (some ⟨w.heap.size, 257, none⟩)) w' := fun w' => bk_ix w.heap.size 256 1 .i64 1 rfl (by omega) w'
  have hw : IntKind.u8.wrap (a + 1) = (a + 1) % 256 := by rw [IntKind.wrap_u8]
  clear hB0 hB1 hX hY hA hBb hR
  go_enter Try.func23, Try.ntmps23
  go_upto_region 1 with fail
  refine wp_region_held_drew (S := fun W => BkAt W w.heap.size 0 xs ∧ Below w.heap.size w W) (by kernel_rfl) (⟨ba.below (below_drewN (Below.refl _ _) 1), below_drewN bx 1⟩) (fun hHeld => ?_)
  refine wpAnyH_take (i := 0) (v := ?v5) rfl (by kernel_rfl) (by kernel_rfl) (by kernel_rfl) (fun _ _ _ h => h) (Or.inl ⟨by kernel_rfl, ?h5⟩) hHeld ?r5
  case h5 => intro W hSw; (try dsimp only at hSw); obtain ⟨hA, hB⟩ := hSw; go_simp; try with_reducible rfl
  simp only [Act.put, List.setIfInBounds_toArray, List.set_cons_zero, List.set_cons_succ]
  refine wpAnyH_take (i := 1) (v := .agg (BkA B0)) rfl (by kernel_rfl) (by kernel_rfl) (by kernel_rfl) (fun _ _ _ h => h) (yieldsIf_load_mid (by kernel_rfl) 47 (.tmp 5) rfl w.heap.size 0 rfl (B0.map (Value.int .u8)) _ (fun W hW => bkat_range (p0 W hW.1)) arrB rfl (by rw [szB, List.length_map, L0])) hHeld ?_
  simp only [Act.put, List.setIfInBounds_toArray, List.set_cons_zero, List.set_cons_succ]
  refine wpAnyH_take (i := 3) (v := ?v6) rfl (by kernel_rfl) (by kernel_rfl) (by kernel_rfl) (fun _ _ _ h => h) (Or.inl ⟨by kernel_rfl, ?h6⟩) hHeld ?r6
  case h6 => intro W hSw; (try dsimp only at hSw); obtain ⟨hA, hB⟩ := hSw; go_simp; try with_reducible rfl
  simp only [Act.put, List.setIfInBounds_toArray, List.set_cons_zero, List.set_cons_succ]
  refine wpAnyH_take (i := 4) (v := .agg (BkA B1)) rfl (by kernel_rfl) (by kernel_rfl) (by kernel_rfl) (fun _ _ _ h => h) (yieldsIf_load_mid (by kernel_rfl) 47 (.tmp 8) rfl w.heap.size 256 rfl (B1.map (Value.int .u8)) _ (fun W hW => bkat_range (p1 W hW.1)) arrB rfl (by rw [szB, List.length_map, L1])) hHeld ?_
  simp only [Act.put, List.setIfInBounds_toArray, List.set_cons_zero, List.set_cons_succ]
  refine wpAnyH_ready (rs := [2]) (by kernel_rfl) (by simp) ?_
  refine AllReadyH.cons rfl (fun K hK => ?_) AllReadyH.nil
  go_simp
  go_wp2_with (first | (go_at_call 32; refine (r0 _).mono ?_; rintro e w3 ⟨rfl, b3⟩))
  refine hK.out _ _ (⟨hHeld.1.below b3, below_trans hHeld.2 b3⟩) (fun hHeld => ?_)
  clear hK K
  (try simp only [Act.put, List.setIfInBounds_toArray, List.set_cons_zero, List.set_cons_succ])
  refine wpAnyH_ready (rs := [5]) (by kernel_rfl) (by simp) ?_
  refine AllReadyH.cons rfl (fun K hK => ?_) AllReadyH.nil
  go_simp
  go_wp2_with (first | (go_at_call 32; refine (r1 _).mono ?_; rintro e w4 ⟨rfl, b4⟩))
  refine hK.out _ _ (⟨hHeld.1.below b4, below_trans hHeld.2 b4⟩) (fun hHeld => ?_)
  clear hK K
  (try simp only [Act.put, List.setIfInBounds_toArray, List.set_cons_zero, List.set_cons_succ])
  refine wpAnyH_ready (rs := [6]) (by kernel_rfl) (by simp) ?_
  refine AllReadyH.cons rfl (fun K hK => ?_) AllReadyH.nil
  go_simp
  refine hK.out _ _ (hHeld) (fun hHeld => ?_)
  clear hK K
  (try simp only [Act.put, List.setIfInBounds_toArray, List.set_cons_zero, List.set_cons_succ])
  refine wpAnyH_ready (rs := [7]) (by kernel_rfl) (by simp) ?_
  refine AllReadyH.cons rfl (fun K hK => ?_) AllReadyH.nil
  go_simp
  refine hK.out _ _ (hHeld) (fun hHeld => ?_)
  clear hK K
  (try simp only [Act.put, List.setIfInBounds_toArray, List.set_cons_zero, List.set_cons_succ])
  refine wpAnyH_done (by kernel_rfl) ?_ _
  have f0 := q0 _ hHeld.1
  have f1 := q1 _ hHeld.1
  have hB := hHeld.2
  clear hHeld r0 r1 p0 p1 q0 q1 ba
  cases X
  · cases Y
    · simp only [Bool.false_eq_true, false_and, and_false, if_false] at hc
      go_wp2_with fail
      go_ret
      rw [hc.out]
      exact ⟨rfl, hB⟩
    · simp only [Bool.false_eq_true, false_and, and_false, if_false, if_true] at hc
      go_wp2_with fail
      go_ret
      rw [hc.out]
      exact ⟨rfl, hB⟩
  · cases Y
    · simp only [Bool.false_eq_true, false_and, and_false, if_false, if_true] at hc
      go_wp2_with fail
      go_ret
      rw [hc.out]
      exact ⟨rfl, hB⟩
    · by_cases hq : b = (a + 1) % 256
      · rw [if_pos ⟨rfl, rfl, hq⟩] at hc
        have hq2 : (b == (a + 1) % 256) = true := by simpa using hq
        clear hq
        go_wp2_with fail
        go_ret
        rw [hc.out]
        exact ⟨rfl, hB⟩
      · rw [if_neg (fun z => hq z.2.2), if_pos rfl] at hc
        have hq2 : (b == (a + 1) % 256) = false := by simpa using hq
        clear hq
        go_wp2_with fail
        go_ret
        rw [hc.out]
        exact ⟨rfl, hB⟩

set_option maxHeartbeats 4000000 in
theorem w_pfree18 (xs : List Int) (w : World) (hl : xs.length = 512) (hb : bytesL xs) :
    Calls Try.prog 27 #[.agg (BkA xs)] w fun e w' => e = .returned (.tuple #[.int .i64 (bsF (cntF xs).1 / 256), .int .u8 (((cntF xs).2 + 1) % 256)]) ∧ Below w.heap.size w w' := by
  have ba := bkat_box w xs 49
  have bx := box_below w (.cells (BkA xs) 49)
  have L0 : (bkF xs 0).length = 256 := bkF_len hl 0 (by omega)
  have L1 : (bkF xs 1).length = 256 := bkF_len hl 1 (by omega)
  have q0 : ∀ W, BkAt W w.heap.size 0 xs → W.cell? ⟨w.heap.size, 1, none⟩ = some (.int .u8 ((bkF xs 0).getD 1 0)) := fun W h => by have := bkat_part h hl 0 (by omega) 1 (by rw [show ((0 : Nat) : Int) = 0 from rfl]; omega); simpa using this
  have q1 : ∀ W, BkAt W w.heap.size 0 xs → W.cell? ⟨w.heap.size, 257, none⟩ = some (.int .u8 ((bkF xs 1).getD 1 0)) := fun W h => by have := bkat_part h hl 1 (by omega) 1 (by rw [show ((1 : Nat) : Int) = 1 from rfl]; omega); simpa using this
  have cc := fun W => w_pcounting18 xs W hl hb
  have hs := cnt_spec xs
  have g0 := getD_byte (bk_bytes hb 0) 1
  have g1 := getD_byte (bk_bytes hb 1) 1
  have i0 : ∀ w', (Instr.indexAt 49 (.pointer (some ⟨w.heap.size, 0, none⟩)) (.int .i64 0)).run Try.prog w' = .ok (.pointer (some ⟨w.heap.size, 0, none⟩)) w' := fun w' => pr_ix w.heap.size 0 .i64 0 rfl (by omega) w'
  have i1 : ∀ w', (Instr.indexAt 49 (.pointer (some ⟨w.heap.size, 0, none⟩)) (.int .i64 1)).run Try.prog w' = .ok (.pointer (some ⟨w.heap.size, 256, none⟩)) w' := fun w' => pr_ix w.heap.size 1 .i64 1 rfl (by omega) w'
  have j0 : ∀ w', (Instr.indexAt 47 (.pointer (some ⟨w.heap.size, 0, none⟩)) (.int .i64 1)).run Try.prog w' = .ok (.pointer (some ⟨w.heap.size, 1, none⟩)) w' := fun w' => bk_ix w.heap.size 0 1 .i64 1 rfl (by omega) w'
  have j1 : ∀ w', (Instr.indexAt 47 (.pointer (some ⟨w.heap.size, 256, none⟩)) (.int .i64 1)).run Try.prog w' = .ok (.pointer (some ⟨w.heap.size, 257, none⟩)) w' := fun w' => bk_ix w.heap.size 256 1 .i64 1 rfl (by omega) w'
  obtain ⟨a, hA⟩ : ∃ g, (bkF xs 0).getD 1 0 = g := ⟨_, rfl⟩
  obtain ⟨b, hBb⟩ : ∃ g, (bkF xs 1).getD 1 0 = g := ⟨_, rfl⟩
  simp only [hA] at q0 g0 hs
  simp only [hBb] at q1 g1 hs
  have hwa : IntKind.u8.wrap (a + 1) = (a + 1) % 256 := by rw [IntKind.wrap_u8]
  have hwb : IntKind.u8.wrap (b + 1) = (b + 1) % 256 := by rw [IntKind.wrap_u8]
  clear hA hBb
  rcases hs with ⟨hs, -⟩ | ⟨hs, -⟩ | ⟨hs, -⟩
  · simp only [hs] at cc ⊢
    rw [show bsF 0 / 256 = 1 by decide]
    clear hs
    go_enter Try.func27, Try.ntmps27
    go_upto_region 1 with fail
    refine wp_region_lit ?_
    refine wpList_load_pr rfl (.tmp 1) rfl w.heap.size rfl xs ba hl ?_
    go_upto_region 4 with (go_at_call 23; refine (cc _).mono ?_; rintro e w1 ⟨rfl, b1⟩)
    have f0 := q0 _ (ba.below b1)
    have b2 := below_trans bx b1
    clear q0 q1 cc ba
    go_quiet (fail)
    go_wp2_with fail
    go_ret2
    exact ⟨rfl, below_drewN b2 _⟩
  · simp only [hs] at cc ⊢
    rw [show bsF 1 / 256 = 0 by decide]
    clear hs
    go_enter Try.func27, Try.ntmps27
    go_upto_region 1 with fail
    refine wp_region_lit ?_
    refine wpList_load_pr rfl (.tmp 1) rfl w.heap.size rfl xs ba hl ?_
    go_upto_region 4 with (go_at_call 23; refine (cc _).mono ?_; rintro e w1 ⟨rfl, b1⟩)
    have f1 := q1 _ (ba.below b1)
    have b2 := below_trans bx b1
    clear q0 q1 cc ba
    go_quiet (fail)
    go_wp2_with fail
    go_ret2
    exact ⟨rfl, below_drewN b2 _⟩
  · simp only [hs] at cc ⊢
    rw [show bsF (-1) / 256 = 0 by decide, show ((0 : Int) + 1) % 256 = 1 by decide]
    clear hs
    go_enter Try.func27, Try.ntmps27
    go_upto_region 1 with fail
    refine wp_region_lit ?_
    refine wpList_load_pr rfl (.tmp 1) rfl w.heap.size rfl xs ba hl ?_
    clear q0 q1
    go_wp2_with (go_at_call 23; refine (cc _).mono ?_; rintro e w1 ⟨rfl, b1⟩)
    go_ret2
    exact ⟨rfl, below_trans bx b1⟩
end Go.Proofs.Ytlnlifijnijgmaa
