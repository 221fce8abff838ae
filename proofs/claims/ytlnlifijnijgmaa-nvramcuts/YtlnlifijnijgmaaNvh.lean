/-
  The landed package nvram: the row of bytes that makes what begins somewhere a bank; the closure that lays one of them.
-/
import Derived.Test.YtlnlifijnijgmaaNvg
import Derived.Test.YtlnlifijnijgmaaStc
namespace Go.Proofs.Ytlnlifijnijgmaa
open Go.ChangeShapes Go.WideShapes Go.ChangeAt Go.RowKit
set_option linter.unusedVariables false
set_option linter.unusedSimpArgs false

/-- the boxes that the closure works on, and the row so far -/
def LayS (base : Nat) (W : World) (gl gs : Nat) (st : Int) (out : List (Int × Int)) : Prop :=
  ∃ vl, Stands W gl #[vl] 32 ∧ Stands W gs #[.int .i64 st] 3 ∧ OwP base W vl out
theorem own_set2 {w : World} {b : Nat} {e : TypeId} {sz : Nat} {v : Value} {n : Nat} {cs : List Value} (o : w.ownsRow b e sz v n cs) (g : Nat) (j : Nat) (u : Value) (hg : g < b) : (w.setCell ⟨g, j, none⟩ u).ownsRow b e sz v n cs := by
  obtain ⟨hl, o⟩ := o
  refine ⟨hl, ?_⟩
  rcases o with o | ⟨g', cap, cur, rfl, hb, h1, o⟩
  · exact Or.inl o
  · refine Or.inr ⟨g', cap, cur, rfl, hb, ?_, o⟩
    simp only [World.setCell]
    rw [Array.getElem?_modify, if_neg (by omega)]
    exact h1

set_option maxHeartbeats 2000000 in
theorem w_play18 (A V st : Int) (gl gs base : Nat) (out : List (Int × Int)) (W : World) (hne : ¬ gs = gl) (hgl : gl < base) (hgs : gs < base) (hbs : base ≤ W.heap.size) (s : LayS base W gl gs st out) (ho : out.length ≤ 300) (hA : IntKind.i64.wrap (st + A) = st + A) :
    Calls Try.prog 35 #[.int .i64 A, .int .u8 V, .pointer (some ⟨gl, 0, none⟩), .pointer (some ⟨gs, 0, none⟩)] W fun e W' => e = .returned (.tuple #[]) ∧ LayS base W' gl gs st (out ++ [(st + A, V)]) ∧ (∀ (B : Nat) (w0 : World), Below B w0 W → B ≤ gl → B ≤ base → Below B w0 W') ∧ (∀ g : Nat, ¬ g = gl → g < base → W'.heap[g]? = W.heap[g]?) ∧ W.heap.size ≤ W'.heap.size := by
  obtain ⟨i4, hi4, hz4, hs4, hb4⟩ := info_pb
  obtain ⟨vl, s0, s1, o⟩ := s
  obtain ⟨ao, cap, rfl⟩ := own_form o
  have c0 : W.cell? ⟨gl, 0, none⟩ = some (.slice ao out.length cap) := s0.cell 0 _ rfl
  have c1 : W.cell? ⟨gs, 0, none⟩ = some (.int .i64 st) := s1.cell 0 _ rfl
  have bk := box_below W (.cells #[.int .i64 (st + A), .int .u8 V] 62)
  have oo := own_belowP o bk
  have S0 := hid (s0.below bk)
  have S1 := hid (s1.below bk)
  have OO := hid oo
  have fr := s0.free 0
  have hsz : Hid ((W.alloc (.cells #[.int .i64 (st + A), .int .u8 V] 62)).heap.size = W.heap.size + 1) := size_al _ _
  go_enter Try.func35, Try.ntmps35
  go_wp2_with (at_builtin; refine wpList_append_row rfl _ _ 32 rfl base 62 i4 _ 2 16 Try.underlying32 hi4 hz4 hs4 hb4 rfl (by decide) _ out.length _ rfl oo W.heap.size (pbC (st + A, V)) rfl rfl (alloc_row W (pbC (st + A, V)) 62) (pb_one _) (by unfold maxLen; omega) (by omega) (by rw [size_al]; omega) ?_; intro v7 w7 o7 g7; obtain ⟨a7, q7, rfl⟩ := own_form o7; have a0 := S0.out.grown g7 (fun hh => by have := (oo.lt gl hh.symm).1; omega); have a1 := S1.out.grown g7 (fun hh => by have := (oo.lt gs hh.symm).1; omega); have d0 : w7.cell? ⟨gl, 0, none⟩ = some (.slice ao out.length cap) := a0.cell 0 _ rfl; have d1 := a0.free 0)
  have hz := bk.size
  refine bodyPost_end (v := .tuple #[]) (results_none rfl _ _ _) rfl ⟨rfl, ⟨_, a0.set 0 _, a1.other 0 _ hne, own_set2 (by simpa [OwP] using o7) gl 0 _ hgl⟩, fun B w0 hB h1 h2 => ?_, fun g h1 h2 => ?_, ?_⟩
  · have hq := (Below.trans hB (bk.mono (by omega))).grown g7 (by omega) (fun k hk => Nat.le_trans h2 (oo.lt k hk).1)
    exact hq.setCell h1 _
  · simp only [World.setCell]
    rw [Array.getElem?_modify, if_neg (by omega), g7.block g (by omega) (fun hh => by have := (oo.lt g hh.symm).1; omega), bk.block g (by omega)]
  · have := g7.size
    simp only [World.setCell, Array.size_modify]
    omega
end Go.Proofs.Ytlnlifijnijgmaa
