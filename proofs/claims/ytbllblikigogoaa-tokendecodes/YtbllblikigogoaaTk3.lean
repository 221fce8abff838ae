/-
  layCode, layText of the landed package token.
-/
import Derived.Test.YtbllblikigogoaaTk2
namespace Go.Proofs.Ytbllblikigogoaa
open Go.ChangeShapes Go.WideShapes Go.ChangeAt Go.RowKit
set_option linter.unusedVariables false
set_option linter.unusedSimpArgs false

def OwB (base : Nat) (w : World) (v : Value) (B : List Int) : Prop := w.ownsRow base 5 1 v B.length (B.map (Value.int .u8))
def kB (T : TypeId) : Bool := T == 5
def noD (_ : Nat) : Prop := False
theorem OwB.below {base : Nat} {w w' : World} {v : Value} {B : List Int} (h : OwB base w v B) (g : Below w.heap.size w w') : OwB base w' v B := own_below h g
/-- what an append of bytes leaves -/
structure Lay (base : Nat) (w w' : World) : Prop where
  below : Below base w w'
  agr : Agr kB noD w w'
theorem Lay.trans {base : Nat} {a b c : World} (h : Lay base a b) (g : Lay base b c) : Lay base a c := ⟨h.below.trans g.below, h.agr.trans g.agr⟩
theorem Lay.new {base : Nat} {w w' : World} (hb : base ≤ w.heap.size) (g : Below w.heap.size w w') : Lay base w w' := ⟨g.mono hb, Agr.below g⟩
theorem Lay.app {base : Nat} {w w' : World} {v : Value} {B : List Int} (h : OwB base w v B) (hb : base ≤ w.heap.size) (g : w.grownBy w' v.ownBlock) : Lay base w w' :=
  ⟨(Below.refl base w).grown g hb (fun k hk => (h.lt k hk).1), Agr.kept (Kept.own h g) rfl⟩

set_option maxHeartbeats 1000000 in
theorem w_layCode (base : Nat) (v : Value) (B : List Int) (c : Int) (w : World) (hB : OwB base w v B) (hb : base ≤ w.heap.size) (hl : B.length ≤ 100000) (hc : cdd c = true) :
    Calls Try.prog 27 #[v, .int .i64 c] w fun e w' => ∃ v', e = .returned v' ∧ OwB base w' v' (B ++ cbF c) ∧ Lay base w w' := by
  obtain ⟨i0, hi, hz0, hz1, hz2⟩ := info_parts infoU8
  simp only [cdd, Bool.or_eq_true, Bool.and_eq_true, decide_eq_true_eq] at hc
  by_cases h1 : c ≤ 255
  · have e : cbF c = [c] := by simp [cbF, h1]
    rw [e]
    have hw : IntKind.u8.wrap c = c := by rw [IntKind.wrap_u8]; omega
    have hg : ¬ 255 < c := by omega
    go_enter Try.func27, Try.ntmps27
    go_wp2_with (at_builtin; refine wpList_append_rd (k := .u8) rfl _ _ 24 rfl base 5 i0 1 Try.underlying24 hi hz0 hz1 hz2 v B rfl (hB.below (box_below w _)) _ [c] rfl (rd_one w _ _) (by unfold maxLen; simp; omega) (by simp; omega) (by rw [size_al]; omega) ?_; intro v1 w1 o1 g1)
    go_ret
    exact ⟨v1, rfl, o1, (Lay.new hb (box_below w _)).trans (Lay.app (hB.below (box_below w _)) (by rw [size_al]; omega) g1)⟩
  · have e : cbF c = [c / 256, c % 256] := by simp [cbF, h1]
    rw [e]
    have hg : 255 < c := by omega
    have hw : IntKind.u8.wrap (c / 256) = c / 256 := by rw [IntKind.wrap_u8]; omega
    have hw2 : IntKind.u8.wrap c = c % 256 := by rw [IntKind.wrap_u8]
    go_enter Try.func27, Try.ntmps27
    go_wp2_with (first
      | (at_builtin; refine wpList_append_rd (k := .u8) rfl _ _ 24 rfl base 5 i0 1 Try.underlying24 hi hz0 hz1 hz2 v1 (B ++ [c / 256]) rfl (o2.below (box_below w1 _)) _ [c % 256] rfl (rd_one w1 _ _) (by unfold maxLen; simp; omega) (by simp; omega) (by rw [size_al]; have := g2.below.size; omega) ?_; intro v3 w3 o3 g3)
      | (at_builtin; refine wpList_append_rd (k := .u8) rfl _ _ 24 rfl base 5 i0 1 Try.underlying24 hi hz0 hz1 hz2 v B rfl (hB.below (box_below w _)) _ [c / 256] rfl (rd_one w _ _) (by unfold maxLen; simp; omega) (by simp; omega) (by rw [size_al]; omega) ?_; intro v1 w1 o1 g1; have o2 : OwB base w1 v1 (B ++ [c / 256]) := o1; have g2 := (Lay.new hb (box_below w _)).trans (Lay.app (hB.below (box_below w _)) (by rw [size_al]; omega) g1)))
    go_ret
    exact ⟨v3, rfl, by have := o3; rw [List.append_assoc] at this; exact this, g2.trans ((Lay.new (Nat.le_trans hb g2.below.size) (box_below w1 _)).trans (Lay.app (o2.below (box_below w1 _)) (by rw [size_al]; have := g2.below.size; omega) g3))⟩

set_option maxHeartbeats 1000000 in
theorem w_layText (base : Nat) (v : Value) (B : List Int) (S : ByteArray) (w : World) (hB : OwB base w v B) (hb : base ≤ w.heap.size) (hl : B.length ≤ 100000) (hs : S.size ≤ 255) :
    Calls Try.prog 28 #[v, .string S] w fun e w' => ∃ v', e = .returned v' ∧ OwB base w' v' (B ++ ((LB S).length : Int) :: LB S) ∧ Lay base w w' := by
  obtain ⟨i0, hi, hz0, hz1, hz2⟩ := info_parts infoU8
  rw [LB_len]
  have hw : IntKind.u8.wrap (S.size : Int) = S.size := by rw [IntKind.wrap_u8]; omega
  have hs2 : (S.size : Int) ≤ 255 := by omega
  go_enter Try.func28, Try.ntmps28
  go_wp2_with (first
    | (at_builtin; refine wpList_append_rds rfl _ _ 24 9 rfl base 5 i0 Try.underlying24 Try.underlying9 hi hz0 hz1 hz2 v1 (B ++ [(S.size : Int)]) rfl o2 S rfl (by unfold maxLen; simp; omega) (by simp; omega) (by have := g2.below.size; omega) ?_; intro v3 w3 o3 g3)
    | (at_builtin; refine wpList_append_rd (k := .u8) rfl _ _ 24 rfl base 5 i0 1 Try.underlying24 hi hz0 hz1 hz2 v B rfl (hB.below (box_below w _)) _ [(S.size : Int)] rfl (rd_one w _ _) (by unfold maxLen; simp; omega) (by simp; omega) (by rw [size_al]; omega) ?_; intro v1 w1 o1 g1; have o2 : OwB base w1 v1 (B ++ [(S.size : Int)]) := o1; have g2 := (Lay.new hb (box_below w _)).trans (Lay.app (hB.below (box_below w _)) (by rw [size_al]; omega) g1)))
  go_ret
  exact ⟨v3, rfl, by have := o3; rw [List.append_assoc] at this; exact this, g2.trans (Lay.app o2 (by have := g2.below.size; omega) g3)⟩
end Go.Proofs.Ytbllblikigogoaa
