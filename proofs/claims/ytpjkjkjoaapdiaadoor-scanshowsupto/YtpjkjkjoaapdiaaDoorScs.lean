/-
  Package scan's two calls, as the statements take them: Cut where the document's answer tells no error of the text, and where it tells an error.
-/
import Derived.Test.YtpjkjkjoaapdiaaDoorSc6
import Derived.Test.YtpjkjkjoaapdiaaDoorTko
import Derived.Test.YtpjkjkjoaapdiaaDoorPsv
namespace Go.Proofs.YtpjkjkjoaapdiaaDoor
open Go.ChangeShapes Go.WideShapes Go.ChangeAt Go.RowKit
set_option linter.unusedVariables false
set_option linter.unusedSimpArgs false

theorem w_pcut (s : ByteArray) (w : World) (hs : s.size ≤ maxLen) (hT : Tab w) (h15 : (cutF (L s)).2 ≠ 15) :
    Calls Tryd.prog 9 #[.string s] w fun e w' => ∃ v, e = .returned (.tuple #[v, .int .i64 (cutF (L s)).2]) ∧ SlR 3 tokR w' v (cutF (L s)).1 ∧ Below w.heap.size w w' :=
  (w_pcutE s w hs hT).mono (by
    rintro e w' ⟨v, E, rfl, h, r, b⟩
    rcases h with rfl | ⟨_, h⟩
    · exact ⟨v, rfl, r, b⟩
    · exact absurd h h15)

theorem w_pcutN (s : ByteArray) (w : World) (hs : s.size ≤ maxLen) (hT : Tab w) (h0 : (cutF (L s)).2 ≠ 0) :
    Calls Tryd.prog 9 #[.string s] w fun e w' => ∃ (v : Value) (E : Int), e = .returned (.tuple #[v, .int .i64 E]) ∧ (E != 0) = true ∧ (E == 0) = false ∧ SlR 3 tokR w' v [] ∧ Below w.heap.size w w' :=
  (w_pcutE s w hs hT).mono (by
    rintro e w' ⟨v, E, rfl, h, r, b⟩
    have hE : E ≠ 0 := by
      rcases h with rfl | ⟨rfl, _⟩
      · exact h0
      · decide
    rw [cut_err (L s) h0] at r
    exact ⟨v, E, rfl, by simpa using hE, by simpa using hE, r, b⟩)
end Go.Proofs.YtpjkjkjoaapdiaaDoor
