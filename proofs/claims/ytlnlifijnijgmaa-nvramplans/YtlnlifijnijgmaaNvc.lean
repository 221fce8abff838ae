/-
  The landed package nvram: a bank's data, and whether it is right.
-/
import Derived.Test.YtlnlifijnijgmaaNvb
namespace Go.Proofs.Ytlnlifijnijgmaa
open Go.ChangeShapes Go.WideShapes Go.ChangeAt Go.RowKit
set_option linter.unusedVariables false
set_option linter.unusedSimpArgs false

/-- from place o of block b on these bytes lie -/
def BkAt (w : World) (b o : Nat) (B : List Int) : Prop := ∀ i, i < B.length → w.cell? ⟨b, o + i, none⟩ = some (.int .u8 (B.getD i 0))
theorem BkAt.below {w w' : World} {b o : Nat} {B : List Int} (h : BkAt w b o B) (g : Below w.heap.size w w') : BkAt w' b o B := fun i hi => below_cell g (h i hi)
theorem bkat_box (w : World) (B : List Int) (T : TypeId) : BkAt (w.alloc (.cells (BkA B) T)) w.heap.size 0 B := fun i hi => by
  rw [Nat.zero_add]
  exact box_cell w (BkA B) T i _ (bka_at i hi)
theorem bkat_part {w : World} {b : Nat} {xs : List Int} (h : BkAt w b 0 xs) (hl : xs.length = 512) (k : Nat) (hk : k < 2) : BkAt w b (256 * k) (bkF xs k) := fun i hi => by
  have hL : (bkF xs k).length = 256 := by simp only [bkF, List.length_take, List.length_drop]; omega
  have := h (256 * k + i) (by omega)
  rw [Nat.zero_add] at this
  rw [this]
  simp only [bkF, List.getD_eq_getElem?_getD, List.getElem?_take, List.getElem?_drop]
  rw [if_pos (by omega), show ((256 : Int) * (k : Int)).toNat = 256 * k by omega]
theorem bkat_range {w : World} {b o : Nat} {B : List Int} (h : BkAt w b o B) : w.rangeAt b o (B.map (Value.int .u8)) := fun j v hv => by
  rw [List.getElem?_map] at hv
  rcases Nat.lt_or_ge j B.length with hj | hj
  · rw [h j hj]
    rw [List.getElem?_eq_getElem hj] at hv
    simp only [Option.map_some] at hv
    rw [← hv, List.getD_eq_getElem?_getD, List.getElem?_eq_getElem hj]
    rfl
  · rw [List.getElem?_eq_none hj] at hv
    cases hv
/-- a bank is read whole -/
theorem wpList_load_bk {ops : Array Oper} {rest : List Oper} {op : Oper} {a : Act} {w : World} {Q : Exit → Act → World → Prop} (hgd : op.guard = none) (x : Operand) (ho : op.op = .load 47 x)
    (b o : Nat) (hx : a.eval x = .pointer (some ⟨b, o, none⟩)) (B : List Int) (hc : BkAt w b o B) (hl : B.length = 256)
    (h : wpList Try.prog ops Q rest (a.put op.dst (.agg (BkA B))) w) : wpList Try.prog ops Q (op :: rest) a w :=
  wpList_load_mid hgd 47 x ho b o hx (B.map (Value.int .u8)) _ (bkat_range hc) arrB rfl (by rw [szB, List.length_map, hl]) h
theorem wpList_load_bkG {ops : Array Oper} {rest : List Oper} {op : Oper} {a : Act} {w : World} {Q : Exit → Act → World → Prop} (hgd : Region.wanted op (yielded ops a.tmps) = true) (x : Operand) (ho : op.op = .load 47 x)
    (b o : Nat) (hx : a.eval x = .pointer (some ⟨b, o, none⟩)) (B : List Int) (hc : BkAt w b o B) (hl : B.length = 256)
    (h : wpList Try.prog ops Q rest (a.put op.dst (.agg (BkA B))) w) : wpList Try.prog ops Q (op :: rest) a w :=
  wpList_step fun K hK => by
    rw [if_pos hgd]
    exact wp_load_mid 47 x ho b o hx (B.map (Value.int .u8)) _ (bkat_range hc) arrB rfl (by rw [szB, List.length_map, hl]) (hK _ _ h)
theorem bk_cut {w : World} {b o : Nat} {B : List Int} (h : BkAt w b o B) (hl : B.length = 256) (lo hi : Int) (h0 : 0 ≤ lo) (h1 : lo ≤ hi) (h2 : hi ≤ 256) :
    ∃ v, Rd .u8 w v ((B.drop lo.toNat).take (hi - lo).toNat) ∧ ∀ w', (Instr.sliceAt 47 (.pointer (some ⟨b, o, none⟩)) (some (.int .i64 lo)) (some (.int .i64 hi)) none).run Try.prog w' = .ok v w' := by
  refine ⟨slicedAt ⟨b, o, none⟩ lo.toNat hi.toNat 256 1, ?_, fun w' => ?_⟩
  · have hL : ((B.drop lo.toNat).take (hi - lo).toNat).length = (hi - lo).toNat := by simp; omega
    unfold slicedAt
    by_cases he : hi = lo
    · subst he
      rw [Nat.sub_self, show (hi - hi).toNat = 0 by omega, List.take_zero]
      exact Or.inl ⟨_, _, rfl, (fun h => by cases h), rfl⟩
    · refine Or.inr ⟨b, o + lo.toNat, 256 - lo.toNat, ?_, by omega, by omega, by unfold maxLen; omega, fun i hi2 => ?_⟩
      · rw [if_neg (by omega), hL, Nat.mul_one, Addr.add_lit, show hi.toNat - lo.toNat = (hi - lo).toNat by omega]
      · rw [hL] at hi2
        have := h (lo.toNat + i) (by omega)
        rw [show o + lo.toNat + i = o + (lo.toNat + i) by omega, this]
        simp only [List.getD_eq_getElem?_getD, List.getElem?_take, List.getElem?_drop]
        rw [if_pos hi2]
  · rw [run_sliceAt_array_lh w' 47 ⟨b, o, none⟩ arrB' .i64 .i64 lo hi h0 h1 (by rw [lenB]; omega), elB, Try.sizeOf5, lenB]
    rfl

set_option maxHeartbeats 2000000 in
theorem w_pdata18 (B : List Int) (w : World) (hl : B.length = 256) (hb : bytesL B) (hn : bkN B ≤ 248) :
    Calls Try.prog 24 #[.agg (BkA B)] w fun e w' => ∃ v', e = .returned v' ∧ Own8 w.heap.size w' v' (bkD B) ∧ Below w.heap.size w w' := by
  have x2 := getD_byte hb 2
  have x3 := getD_byte hb 3
  have hn0 : 0 ≤ bkN B := by unfold bkN; omega
  have ba := bkat_box w B 47
  have bx := box_below w (.cells (BkA B) 47)
  have cl := w_plen18 B (w.alloc (.cells (BkA B) 47)) hl hb
  obtain ⟨vs, rs, sa⟩ := bk_cut ba hl 8 (8 + bkN B) (by omega) (by omega) (by omega)
  rw [show (B.drop (8 : Int).toNat).take (8 + bkN B - 8).toNat = bkD B by unfold bkD; congr 1; omega] at rs
  have hD := bkD_le B (by omega)
  obtain ⟨D, hDe⟩ : ∃ D, bkD B = D := ⟨_, rfl⟩
  obtain ⟨N, hNe⟩ : ∃ N, bkN B = N := ⟨_, rfl⟩
  rw [hDe] at rs hD ⊢
  rw [hNe] at cl sa hn hn0
  have hw : IntKind.i64.wrap (8 + N) = 8 + N := by rw [IntKind.wrap_i64]; omega
  have HB := hid ba
  clear hDe hNe x2 x3 hb ba
  go_enter Try.func24, Try.ntmps24
  go_upto_region 1 with fail
  refine wp_region_lit ?_
  refine wpList_load_bk rfl (.tmp 1) rfl w.heap.size 0 rfl B HB.out hl ?_
  go_wp2_with (first
    | (go_at_call 33; refine cl.mono ?_; rintro e w1 ⟨rfl, b1⟩)
    | (go_at_call 31; refine (w_pclo18 vs D _ (rs.below b1) (by omega)).mono ?_; rintro e w2 ⟨v2, rfl, o2, b2⟩))
  go_ret
  exact ⟨v2, rfl, own_le (below_trans bx b1).size o2, below_trans bx (below_trans b1 b2)⟩
end Go.Proofs.Ytlnlifijnijgmaa
