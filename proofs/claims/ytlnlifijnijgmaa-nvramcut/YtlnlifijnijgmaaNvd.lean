/-
  The landed package nvram: whether a bank is right.
-/
import Derived.Test.YtlnlifijnijgmaaNvc
import Derived.Deep.RegionHeld
namespace Go.Proofs.Ytlnlifijnijgmaa
open Go.ChangeShapes Go.WideShapes Go.ChangeAt Go.RowKit
set_option linter.unusedVariables false
set_option linter.unusedSimpArgs false

set_option maxHeartbeats 2000000 in
theorem w_pright18 (B : List Int) (w : World) (hl : B.length = 256) (hb : bytesL B) :
    Calls Try.prog 32 #[.agg (BkA B)] w fun e w' => e = .returned (.bool (bkR B)) ∧ Below w.heap.size w w' := by
  have ba := bkat_box w B 47
  have bx := box_below w (.cells (BkA B) 47)
  have c0 := ba 0 (by omega)
  have c1 := ba 1 (by omega)
  rw [Nat.zero_add] at c0 c1
  have i0 := fun w' => bk_ix w.heap.size 0 0 .i64 0 rfl (by omega) w'
  have i1 := fun w' => bk_ix w.heap.size 0 1 .i64 1 rfl (by omega) w'
  have hm0 : Hid (bkR B = (decide (B.getD 0 0 = 165) && decide (bkN B ≤ 248) && decide (bkS B = nsF (B.getD 1 0) (bkD B)))) := rfl
  have x0 := getD_byte hb 0
  have x1 := getD_byte hb 1
  have cl := w_plen18 B (w.alloc (.cells (BkA B) 47)) hl hb
  have cd := fun W => w_pdata18 B W hl hb
  have cs := fun v W r => w_psum18 (B.getD 1 0) v (bkD B) W x1.1 x1.2 r (bytes_take (bytes_drop hb _) _) (by have := bkD_le B (by omega); omega)
  obtain ⟨m, hm⟩ : ∃ m, B.getD 0 0 = m := ⟨_, rfl⟩
  obtain ⟨g, hg⟩ : ∃ g, B.getD 1 0 = g := ⟨_, rfl⟩
  obtain ⟨N, hN⟩ : ∃ N, bkN B = N := ⟨_, rfl⟩
  rw [hm] at c0 hm0 x0
  rw [hg] at c1 cs hm0 x1
  rw [hN] at cl cd hm0
  rw [hm0.out]
  clear hm hg hm0
  by_cases hq : m = 165
  · subst hq
    by_cases hn : N ≤ 248
    · rw [decide_eq_true hn, show decide ((165 : Int) = 165) = true from rfl]
      have cd := fun W => cd W hn
      have hn2 : decide (248 < N) = false := by rw [decide_eq_false_iff_not]; omega
      have HB := hid ba
      obtain ⟨vs, rs, sa⟩ := bk_cut ba hl 4 8 (by omega) (by omega) (by omega)
      rw [show (B.drop (4 : Int).toNat).take ((8 : Int) - 4).toNat = (B.drop 4).take 4 from rfl] at rs
      have HR := hid rs
      obtain ⟨Z, hZ⟩ : ∃ Z, nsF g (bkD B) = Z := ⟨_, rfl⟩
      rw [hZ] at cs ⊢
      clear hZ
      have HC := hid cs
      have hS : bkS B = beV (((B.drop 4).take 4).take 4) := by unfold bkS; rw [List.take_take]; rfl
      have h4 : ((B.drop 4).take 4).length = 4 := by simp; omega
      have h4b : bytesL ((B.drop 4).take 4) := bytes_take (bytes_drop hb _) _
      rw [hS]
      have ci := fun W r => w_pdecint18 vs ((B.drop 4).take 4) W r h4b (by omega) (by omega)
      obtain ⟨S, hSe⟩ : ∃ S, beV (((B.drop 4).take 4).take 4) = S := ⟨_, rfl⟩
      rw [hSe] at ci ⊢
      have CI := hid ci
      clear hS hSe h4 h4b ci
      have HD := hid cd
      clear rs cs cd ba
      go_enter Try.func32, Try.ntmps32
      go_upto_region 1 with fail
      refine wp_region_lit ?_
      iterate 12 go_step
      refine wpList_load_bkG (by kernel_rfl) (.tmp 1) rfl w.heap.size 0 rfl B HB.out hl ?_
      go_upto_region 3 with (go_at_call 33; refine cl.mono ?_; rintro e w1 ⟨rfl, b01⟩)
      have CD := CI.out w1 (HR.out.below b01)
      go_upto_region 4 with (go_at_call 37; refine CD.mono ?_; rintro e w2 ⟨v2, rfl, b12⟩)
      have b02 := below_trans b01 b12
      have ba := HB.out
      have cd := HD.out
      have cs := HC.out
      refine wp_region_held_drew (S := fun W => BkAt W w.heap.size 0 B ∧ W.cell? ⟨w.heap.size, 1, none⟩ = some (.int .u8 g) ∧ Below w.heap.size w W) (by kernel_rfl) (⟨ba.below (below_drewN b02 1), below_cell (below_drewN b02 1) c1, below_trans bx (below_drewN b02 1)⟩) (fun hHeld => ?_)
      refine wpAnyH_take (i := 0) (v := ?v1) rfl (by kernel_rfl) (by kernel_rfl) (by kernel_rfl) (fun _ _ _ h => h) (Or.inl ⟨by kernel_rfl, ?h1⟩) hHeld ?r1
      case h1 => intro W hSw; (try dsimp only at hSw); obtain ⟨hA, hB, hC⟩ := hSw; go_simp; try with_reducible rfl
      simp only [Act.put, List.setIfInBounds_toArray, List.set_cons_zero, List.set_cons_succ]
      refine wpAnyH_take (i := 1) (v := ?v2) rfl (by kernel_rfl) (by kernel_rfl) (by kernel_rfl) (fun _ _ _ h => h) (Or.inl ⟨by kernel_rfl, ?h2⟩) hHeld ?r2
      case h2 => intro W hSw; (try dsimp only at hSw); obtain ⟨hA, hB, hC⟩ := hSw; go_simp; try with_reducible rfl
      simp only [Act.put, List.setIfInBounds_toArray, List.set_cons_zero, List.set_cons_succ]
      refine wpAnyH_take (i := 2) (v := ?v3) rfl (by kernel_rfl) (by kernel_rfl) (by kernel_rfl) (fun _ _ _ h => h) (Or.inl ⟨by kernel_rfl, ?h3⟩) hHeld ?r3
      case h3 => intro W hSw; (try dsimp only at hSw); obtain ⟨hA, hB, hC⟩ := hSw; go_simp; try with_reducible rfl
      simp only [Act.put, List.setIfInBounds_toArray, List.set_cons_zero, List.set_cons_succ]
      refine wpAnyH_take (i := 3) (v := .agg (BkA B)) rfl (by kernel_rfl) (by kernel_rfl) (by kernel_rfl) (fun _ _ _ h => h) (yieldsIf_load_mid (by kernel_rfl) 47 (.tmp 1) rfl w.heap.size 0 rfl (B.map (Value.int .u8)) _ (fun W hW => bkat_range hW.1) arrB rfl (by rw [szB, List.length_map, hl])) hHeld ?_
      simp only [Act.put, List.setIfInBounds_toArray, List.set_cons_zero, List.set_cons_succ]
      refine wpAnyH_ready (rs := [4]) (by kernel_rfl) (by simp) ?_
      refine AllReadyH.cons rfl (fun K hK => ?_) AllReadyH.nil
      go_simp
      go_wp2_with (first | (go_at_call 24; refine (cd _).mono ?_; rintro e w3 ⟨v3, rfl, o3, b3⟩))
      refine hK.out _ _ (⟨hHeld.1.below b3, below_cell b3 hHeld.2.1, below_trans hHeld.2.2 b3⟩) (fun hHeld => ?_)
      clear hK K
      (try simp only [Act.put, List.setIfInBounds_toArray, List.set_cons_zero, List.set_cons_succ])
      refine wpAnyH_ready (rs := [5]) (by kernel_rfl) (by simp) ?_
      refine AllReadyH.cons rfl (fun K hK => ?_) AllReadyH.nil
      go_simp
      go_wp2_with (first | (go_at_call 10; refine (cs v3 _ (Rd_own o3).1).mono ?_; rintro e w4 ⟨rfl, b4⟩))
      refine hK.out _ _ (⟨hHeld.1.below b4, below_cell b4 hHeld.2.1, below_trans hHeld.2.2 b4⟩) (fun hHeld => ?_)
      clear hK K
      (try simp only [Act.put, List.setIfInBounds_toArray, List.set_cons_zero, List.set_cons_succ])
      refine wpAnyH_take (i := 6) (v := ?v4) rfl (by kernel_rfl) (by kernel_rfl) (by kernel_rfl) (fun _ _ _ h => h) (Or.inl ⟨by kernel_rfl, ?h4⟩) hHeld ?r4
      case h4 => intro W hSw; (try dsimp only at hSw); obtain ⟨hA, hB, hC⟩ := hSw; go_simp; try with_reducible rfl
      simp only [Act.put, List.setIfInBounds_toArray, List.set_cons_zero, List.set_cons_succ]
      refine wpAnyH_ready (rs := [7]) (by kernel_rfl) (by simp) ?_
      refine AllReadyH.cons rfl (fun K hK => ?_) AllReadyH.nil
      go_simp
      refine hK.out _ _ (hHeld) (fun hHeld => ?_)
      clear hK K
      (try simp only [Act.put, List.setIfInBounds_toArray, List.set_cons_zero, List.set_cons_succ])
      refine wpAnyH_done (by kernel_rfl) ?_ _
      go_wp2_with fail
      go_ret
      refine ⟨ret_b ?_, hHeld.2.2⟩
      rw [Bool.eq_iff_iff]
      simp
    · rw [decide_eq_false hn, Bool.and_false, Bool.false_and]
      have hn2 : decide (248 < N) = true := by rw [decide_eq_true_iff]; omega
      have HB := hid ba
      clear cs cd ba
      go_enter Try.func32, Try.ntmps32
      go_upto_region 1 with fail
      refine wp_region_lit ?_
      iterate 12 go_step
      refine wpList_load_bkG (by kernel_rfl) (.tmp 1) rfl w.heap.size 0 rfl B HB.out hl ?_
      go_wp2_with (go_at_call 33; refine cl.mono ?_; rintro e w1 ⟨rfl, b01⟩)
      go_ret
      exact ⟨rfl, below_trans bx b01⟩
  · rw [decide_eq_false hq, Bool.false_and, Bool.false_and]
    have hq2 : (m != 165) = true := by simpa using hq
    clear cs cd ba cl
    go_enter Try.func32, Try.ntmps32
    go_wp2_with fail
    go_ret
    exact ⟨rfl, bx⟩
end Go.Proofs.Ytlnlifijnijgmaa
