/-
  The landed package nvram: row.
-/
import Derived.Test.YtlnlifijnijgmaaNvh
namespace Go.Proofs.Ytlnlifijnijgmaa
open Go.ChangeShapes Go.WideShapes Go.ChangeAt Go.RowKit
set_option linter.unusedVariables false
set_option linter.unusedSimpArgs false

theorem LayS.below {base : Nat} {W W' : World} {gl gs : Nat} {st : Int} {out : List (Int × Int)} (h : LayS base W gl gs st out) (g : Below W.heap.size W W') : LayS base W' gl gs st out := by
  obtain ⟨vl, a, b, c⟩ := h
  exact ⟨vl, a.below g, b.below g, own_belowP c g⟩
theorem BkAt.heap {w w' : World} {b : Nat} {B : List Int} (h : BkAt w b 0 B) (g : w'.heap[b]? = w.heap[b]?) : BkAt w' b 0 B := fun i hi => by
  have := h i hi
  unfold World.cell? at this ⊢
  rw [g]
  exact this

set_option maxHeartbeats 4000000 in
theorem w_prow18 (st : Int) (B : List Int) (w : World) (s0 : 0 ≤ st) (s1 : st ≤ 1000) (hl : B.length = 256) (hb : bytesL B) (hn : bkN B ≤ 248) :
    Calls Try.prog 28 #[.int .i64 st, .agg (BkA B)] w fun e w' => ∃ v, e = .returned v ∧ OwP w.heap.size w' v ((st, 0) :: (rowF (st + 1) ((B.drop 1).take (7 + bkN B).toNat) ++ [(st, B.getD 0 0)])) ∧ Below w.heap.size w w' := by
  have hmf : ∀ (fn : Fn) (first cap : Array Value) (w : World), (Instr.makeFunc fn first cap).run Try.prog w = .ok (.func fn first cap) w := fun _ _ _ _ => rfl
  have eg : ∀ args w, (callFunc 35 args).run Try.prog w = .ok (.enter 35 args) w := enters_of Try.func35 (by kernel_rfl) rfl
  have x2 := getD_byte hb 2
  have x3 := getD_byte hb 3
  have hn0 : 0 ≤ bkN B := by unfold bkN; omega
  have cl := fun W => w_plen18 B W hl hb
  obtain ⟨N, hN⟩ : ∃ N, bkN B = N := ⟨_, rfl⟩
  rw [hN] at cl hn hn0 ⊢
  have HI := hid (fun (k : Nat) (hk : k < 256) (w' : World) => bk_ix (w.heap.size + 1) 0 k .i64 (k : Int) rfl hk w')
  have HW := hid (fun (k : Int) (h0 : 0 ≤ k) (h1 : k ≤ 1000) => (show IntKind.i64.wrap (st + k) = st + k by rw [IntKind.wrap_i64]; omega))
  have hw8 : IntKind.i64.wrap (8 + N) = 8 + N := by rw [IntKind.wrap_i64]; omega
  clear hN x2 x3
  go_enter Try.func28, Try.ntmps28
  go_upto_region 3 with fail
  have d1 := stands_new w #[.int .i64 st] 3
  have d2 := bkat_box (w.alloc (.cells #[.int .i64 st] 3)) B 47
  have d3 := stands_new ((w.alloc (.cells #[.int .i64 st] 3)).alloc (.cells (BkA B) 47)) #[.slice none 0 0] 32
  have e1 := box_below w (.cells #[.int .i64 st] 3)
  have e2 := box_below (w.alloc (.cells #[.int .i64 st] 3)) (.cells (BkA B) 47)
  have e3 := box_below ((w.alloc (.cells #[.int .i64 st] 3)).alloc (.cells (BkA B) 47)) (.cells #[.slice none 0 0] 32)
  have d1 := (d1.below e2).below e3
  have d2 := d2.below e3
  have bb := below_trans e1 (below_trans e2 e3)
  have hz : (((w.alloc (.cells #[.int .i64 st] 3)).alloc (.cells (BkA B) 47)).alloc (.cells #[.slice none 0 0] 32)).heap.size = w.heap.size + 3 := by rw [size_al, size_al, size_al]
  rw [size_al] at d2
  rw [size_al, size_al] at d3
  generalize ((w.alloc (.cells #[.int .i64 st] 3)).alloc (.cells (BkA B) 47)).alloc (.cells #[.slice none 0 0] 32) = W3 at d1 d2 d3 bb hz ⊢
  have L0 : LayS (w.heap.size + 3) W3 (w.heap.size + 1 + 1) w.heap.size st [] := ⟨_, d3, d1, owp_nil _ _⟩
  have CP := hid (fun A V out W hb s ho hA => w_play18 A V st (w.heap.size + 1 + 1) w.heap.size (w.heap.size + 3) out W (by omega) (by omega) (by omega) hb s ho hA)
  clear d1 d3 e1 e2 e3
  go_upto_region 4 with (go_at_fn 35; refine (CP.out 0 0 [] W3 (by omega) L0 (by simp) (HW.out 0 (by omega) (by omega))).mono ?_; rintro e W4 ⟨rfl, y4, z4, u4, v4⟩)
  have ba4 := d2.heap (u4 _ (by omega) (by omega))
  have bb4 := z4 _ _ bb (by omega) (by omega)
  rw [Int.add_zero, List.nil_append] at y4
  clear d2 bb L0 z4 u4
  go_wp2_with fail
  go_loopw [7] (fun I wx => ∃ k : Nat, 1 ≤ k ∧ (k : Int) ≤ 8 + N ∧ I = .int .i64 k ∧ LayS (w.heap.size + 3) wx (w.heap.size + 1 + 1) w.heap.size st ((st, 0) :: rowF (st + 1) ((B.drop 1).take (k - 1))) ∧ BkAt wx (w.heap.size + 1) 0 B ∧ Below w.heap.size w wx ∧ w.heap.size + 3 ≤ wx.heap.size) (fun I _ => (8 + N - intOf I).toNat)
  case atStart => exact ⟨1, by omega, by omega, rfl, by simpa [rowF] using y4, ba4, bb4, by omega⟩
  case round =>
    obtain ⟨k, hk1, hk, rfl, hL, hA, hg, hz5⟩ := hrel
    clear y4 ba4 bb4
    have hR : ((st, (0 : Int)) :: rowF (st + 1) ((B.drop 1).take (k - 1))).length ≤ 300 := by rw [List.length_cons, row_len, List.length_take, List.length_drop]; omega
    by_cases hlt : (k : Int) < 8 + N
    · have hkk : k - 1 < (B.drop 1).length := by rw [List.length_drop]; omega
      have hnx : Hid ((st, 0) :: rowF (st + 1) ((B.drop 1).take (k + 1 - 1)) = ((st, 0) :: rowF (st + 1) ((B.drop 1).take (k - 1))) ++ [(st + (k : Int), B.getD k 0)]) := by
        show _ = _
        rw [show k + 1 - 1 = k - 1 + 1 by omega, List.take_succ_eq_append_getElem hkk, row_snoc, List.cons_append]
        congr 3
        rw [Prod.mk.injEq]
        constructor
        · rw [List.length_take]; omega
        · rw [List.getElem_drop, List.getD_eq_getElem?_getD]
          have : 1 + (k - 1) = k := by omega
          simp [this, show k < B.length by omega]
      obtain ⟨R, hRe⟩ : ∃ R, (st, (0 : Int)) :: rowF (st + 1) ((B.drop 1).take (k - 1)) = R := ⟨_, rfl⟩
      rw [hRe] at hL hR hnx
      obtain ⟨X, hX⟩ : ∃ X, B.getD k 0 = X := ⟨_, rfl⟩
      have fk : ∀ W, BkAt W (w.heap.size + 1) 0 B → W.cell? ⟨w.heap.size + 1, k, none⟩ = some (.int .u8 X) := fun W h => by have := h k (by omega); rw [hX] at this; simpa using this
      rw [hX] at hnx
      have ik : ∀ w', (Instr.indexAt 47 (.pointer (some ⟨w.heap.size + 1, 0, none⟩)) (.int .i64 (k : Int))).run Try.prog w' = .ok (.pointer (some ⟨w.heap.size + 1, k, none⟩)) w' := fun w' => by simpa using HI.out k (by omega) w'
      clear hX hRe hkk
      have HA := hid hA
      have HL := hid hL
      clear hA hL
      go_upto_region 5 with fail
      refine wp_region_lit ?_
      iterate 3 go_step
      refine wpList_load_bk rfl (.tmp 3) rfl (w.heap.size + 1) 0 rfl B HA.out hl ?_
      go_wp2_with (first
        | (go_at_call 33; refine (cl _).mono ?_; rintro e w1 ⟨rfl, b1⟩; have f1 := fk w1 (HA.out.below b1))
        | (go_at_fn 35; refine (CP.out (k : Int) X R w1 (by have := b1.size; omega) (HL.out.below b1) hR (HW.out (k : Int) (by omega) (by omega))).mono ?_; rintro e W5 ⟨rfl, y5, z5, u5, v5⟩))
      go_roundw
      case rel => exact ⟨k + 1, by omega, by omega, by go_num, by rw [hnx.out]; exact y5, (HA.out.below b1).heap (u5 _ (by omega) (by omega)), z5 _ _ (below_trans hg b1) (by omega) (by omega), by have := b1.size; omega⟩
      case measure => simp [intOf]; omega
    · have hkN : k - 1 = (7 + N).toNat := by omega
      rw [hkN] at hL hR
      obtain ⟨R, hRe⟩ : ∃ R, (st, (0 : Int)) :: rowF (st + 1) ((B.drop 1).take (7 + N).toNat) = R := ⟨_, rfl⟩
      have hnx : Hid ((st, 0) :: (rowF (st + 1) ((B.drop 1).take (7 + N).toNat) ++ [(st, B.getD 0 0)]) = R ++ [(st, B.getD 0 0)]) := by show _ = _; rw [← hRe]; rfl
      rw [hRe] at hL hR
      obtain ⟨X, hX⟩ : ∃ X, B.getD 0 0 = X := ⟨_, rfl⟩
      have fk : ∀ W, BkAt W (w.heap.size + 1) 0 B → W.cell? ⟨w.heap.size + 1, 0, none⟩ = some (.int .u8 X) := fun W h => by have := h 0 (by omega); rw [hX] at this; simpa using this
      rw [hX] at hnx
      have ik : ∀ w', (Instr.indexAt 47 (.pointer (some ⟨w.heap.size + 1, 0, none⟩)) (.int .i64 0)).run Try.prog w' = .ok (.pointer (some ⟨w.heap.size + 1, 0, none⟩)) w' := fun w' => by simpa using HI.out 0 (by omega) w'
      have HX := hid hX
      clear hX hRe
      have HA := hid hA
      have HL := hid hL
      clear hA hL
      go_upto_region 5 with fail
      refine wp_region_lit ?_
      iterate 3 go_step
      refine wpList_load_bk rfl (.tmp 3) rfl (w.heap.size + 1) 0 rfl B HA.out hl ?_
      go_wp2_with (first
        | (go_at_call 33; refine (cl _).mono ?_; rintro e w1 ⟨rfl, b1⟩; have f1 := fk w1 (HA.out.below b1))
        | (go_at_fn 35; refine (CP.out 0 X R w1 (by have := b1.size; omega) (HL.out.below b1) hR (HW.out 0 (by omega) (by omega))).mono ?_; rintro e W5 ⟨rfl, ⟨v5, y5, y6, y7⟩, z5, u5, v5'⟩; obtain ⟨a7, q7, rfl⟩ := own_form y7; have f5 : W5.cell? ⟨w.heap.size + 1 + 1, 0, none⟩ = some (.slice a7 (R ++ [(st + 0, X)]).length q7) := y5.cell 0 _ rfl))
      have c5 := z5 _ _ (below_trans hg b1) (by omega) (by omega)
      go_ret
      refine ⟨_, rfl, ?_, c5⟩
      rw [HX.out, hnx.out]
      rw [Int.add_zero] at y7
      exact own_base (by simpa [OwP] using y7) (by omega)
end Go.Proofs.Ytlnlifijnijgmaa
