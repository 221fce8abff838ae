/-
  The fixed fact of layer 18's statements: alive returns true; an NVRAM of noughts.
-/
import Derived.Test.YtlnlifijnijgmaaNvp
import Derived.Deep.OwnRows
namespace Go.Proofs.Ytlnlifijnijgmaa
open Go.ChangeShapes Go.WideShapes Go.ChangeAt Go.RowKit
set_option linter.unusedVariables false
set_option linter.unusedSimpArgs false

theorem al_by (l : List Int) (h : l.all (fun x => decide (0 ≤ x ∧ x < 256)) = true) : bytesL l := by
  intro x hx
  have := List.all_eq_true.1 h x hx
  simpa using this
theorem made_size : (madeCells #[.int .u8 0] 512).size = 512 := size_madeCells _ _
theorem made_gen (n : Nat) : (madeCells #[.int .u8 0] n).toList = (List.replicate n (0 : Int)).map (Value.int .u8) := by
  unfold madeCells
  rw [List.map_replicate]
  apply List.ext_getElem
  · simp
  · intro i h1 h2
    simp [Nat.mod_one]
theorem made_list : (madeCells #[.int .u8 0] 512).toList = nv0.map (Value.int .u8) := made_gen 512
theorem own_nv0 (w : World) : Own8 w.heap.size (w.alloc (.cells (madeCells #[.int .u8 0] 512) 5)) (.slice (some ⟨w.heap.size, 0, none⟩) 512 512) nv0 :=
  ⟨by rw [List.length_map, nv0_len], .inr ⟨w.heap.size, 512, _, by rw [nv0_len], Nat.le_refl _, heap_alloc_new w _, by rw [nv0_len]; exact Nat.le_refl _, by decide, by rw [made_size], by
    rw [made_list, nv0_len]
    exact List.take_of_length_le (by rw [List.length_map, nv0_len]; decide)⟩⟩
theorem mk_nv0 (w : World) : (Instr.makeSlice 22 (.int .i64 512) (.int .i64 512)).run Try.prog w = .ok (.slice (some ⟨w.heap.size, 0, none⟩) 512 512) (w.alloc (.cells (madeCells #[.int .u8 0] 512) 5)) :=
  run_make_row' 22 5 (.int .u8 0) 1 Try.underlying22 infoU8 rfl .i64 .i64 512 (by omega) (by omega) w
theorem al_pln : plnF nv0 [7] = (wrtF 0 1 [7], 0) := by
  unfold plnF
  rw [if_pos nv0_len, nv0_cnt]
  rfl
theorem al_wlen : (wrtF 0 1 [7]).length = 10 := by rw [wrt_len]; rfl
theorem al_apl : aplF nv0 (wrtF 0 1 [7]) 10 = nv1 [7] := by rw [apl_pre _ _ _ (by rw [al_wlen]; decide)]; rfl
theorem nv1_rcv {d : List Int} (hd : d.length ≤ 248) : rcvF (nv1 d) = (d, 0, true) := by
  have h := nv1_other hd
  obtain ⟨a1, a2, a3⟩ := nv1_told hd
  rw [rcv_0 (nv1_len d) (bk_right a1 a2 hd a3) (fun z => by rw [h] at z; cases z.1), (bk_told a1 hd a3).2.2.1]

set_option maxHeartbeats 1000000 in
theorem w_alive18 (w : World) : Calls Try.prog 9 #[] w fun e w' => e = .returned (.bool true) ∧ Below w.heap.size w w' := by
  have hb7 : bytesL [7] := al_by _ (by decide)
  have cP := fun v vd w r rd => w_pplan18 v vd nv0 [7] w r rd nv0_bytes hb7
  rw [al_pln] at cP
  have cA := fun v vl w r rl => w_papply18 v vl nv0 (wrtF 0 1 [7]) 10 w r rl (by rw [nv0_len]; decide) (by decide) (by decide)
  rw [al_apl] at cA
  have cR := fun v w r => w_precover18 v (nv1 [7]) w r (nv1_bytes hb7 (by decide)) (by rw [nv1_len]; decide)
  rw [nv1_rcv (by decide)] at cR
  simp only at cP cR
  have hwl := al_wlen
  obtain ⟨R, hR⟩ : ∃ R, wrtF 0 1 [7] = R := ⟨_, rfl⟩
  obtain ⟨M, hM⟩ : ∃ M, nv1 [7] = M := ⟨_, rfl⟩
  rw [hR] at cP hwl
  simp only [hR, hM] at cA
  simp only [hM] at cR
  clear hR hM
  have hmk := mk_nv0
  have o0 := (Rd_own (own_nv0 w)).1
  have b0 := box_below w (.cells (madeCells #[.int .u8 0] 512) 5)
  go_enter Try.func9, Try.ntmps9
  go_upto_region 2 with fail
  generalize (w.alloc (.cells (madeCells #[.int .u8 0] 512) 5)) = W0 at o0 b0 ⊢
  have r7 := rd_one (k := .u8) W0 7 5
  have b7 := box_below W0 (.cells #[.int .u8 7] 5)
  clear hmk
  go_wp2_with (first
    | (go_at_call 16; refine (cP _ _ _ (o0.below b7) r7).mono ?_; rintro e w1 ⟨v1, rfl, r1, b1⟩; have hl1 := slr_len r1 uPb (P := Try.prog); rw [hwl] at hl1)
    | (go_at_call 19; refine (cA _ _ _ ((o0.below b7).below b1) r1).mono ?_; rintro e w2 ⟨v2, rfl, o2, b2⟩)
    | (go_at_call 13; refine (cR _ _ (Rd_own o2).1).mono ?_; rintro e w3 ⟨v3, rfl, r3, b3⟩; have hl3 := rd_len r3 uB (P := Try.prog); obtain ⟨ad, b, q1, q2, q3, q4, q5⟩ := mem_at r3 hb7 0 (by omega) (by simp); obtain rfl : (7 : Int) = b := q5))
  go_ret
  exact ⟨rfl, below_trans b0 (below_trans b7 (below_trans b1 (below_trans b2 b3)))⟩
end Go.Proofs.Ytlnlifijnijgmaa
