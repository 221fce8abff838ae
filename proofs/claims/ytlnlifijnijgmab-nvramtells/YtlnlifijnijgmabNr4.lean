/-
  Plan of the document's answer for layer 18.
-/
import Derived.Test.YtlnlifijnijgmabNr3
namespace Go.Proofs.Ytlnlifijnijgmab
open Go.ChangeShapes Go.WideShapes Go.ChangeAt Go.RowKit
set_option linter.unusedVariables false
set_option linter.unusedSimpArgs false

theorem row_snoc : ∀ (l : List Int) (a x : Int), rowF a (l ++ [x]) = rowF a l ++ [(a + l.length, x)]
  | [], a, x => by simp [rowF]
  | y :: l, a, x => by
    simp only [List.cons_append, rowF, row_snoc l (a + 1) x, List.length_cons]
    congr 4
    omega
theorem owp_nil (base : Nat) (w : World) : OwP base w (.slice none 0 0) [] := World.ownsRow_nil _ _ _ _
theorem own_base {base base' : Nat} {w : World} {v : Value} {out : List (Int × Int)} (h : OwP base w v out) (hb : base' ≤ base) : OwP base' w v out := by
  obtain ⟨hl, h⟩ := h
  refine ⟨hl, ?_⟩
  rcases h with h | ⟨b, cap, cur, rfl, hb2, hg, hc, hm, hs, ht⟩
  · exact Or.inl h
  · exact Or.inr ⟨b, cap, cur, rfl, Nat.le_trans hb hb2, hg, hc, hm, hs, ht⟩
theorem info_pb : ∃ i, Try.prog.info? 48 = some i ∧ i.zero = some (.agg #[.int .i64 0, .int .u8 0]) ∧ i.size = 2 ∧ i.bytes = 16 := by
  obtain ⟨i, h1, h2⟩ := Option.map_eq_some_iff.1 infoPb
  injection h2 with h2 h3
  injection h3 with h3 h4
  exact ⟨i, h1, h2, h3, h4⟩
end Go.Proofs.Ytlnlifijnijgmab
