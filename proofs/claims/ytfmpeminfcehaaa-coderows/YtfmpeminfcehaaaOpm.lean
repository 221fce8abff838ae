/-
  Instructions in memory: what rows of them read as.
-/
import Derived.Test.YtfmpeminfcehaaaPop
import Derived.Test.YtfmpeminfcehaaaProg
import Derived.Test.YtfmpeminfcehaaaSgi
import Derived.Test.YtfmpeminfcehaaaSt
namespace Go.Proofs.Ytfmpeminfcehaaa
open Go.ChangeShapes Go.WideShapes Go.ChangeAt Go.RowKit
set_option linter.unusedVariables false
set_option linter.unusedSimpArgs false

def opR (w : World) (cs : List Value) (x : Opd) : Prop := cs = [.int .i64 x.1, .int .u32 x.2]
theorem opR_below {w w' : World} (g : Below w.heap.size w w') (cs : List Value) (x : Opd) (h : opR w cs x) : opR w' cs x := h
def RdO (w : World) (v : Value) (l : List Opd) : Prop := SlR 2 opR w v l
theorem RdO.below {w w' : World} {v : Value} {l : List Opd} (h : RdO w v l) (g : Below w.heap.size w w') : RdO w' v l := SlR.below h g (opR_below g)

theorem uO : Try.prog.underlying 22 = some (.slice (Try.prog.elem 22)) := by kernel_rfl
theorem eO : Try.prog.elem 22 = 37 := by kernel_rfl
theorem zO (w : World) : (sizeOf (Try.prog.elem 22)).run Try.prog w = .ok 2 w := by rw [eO]; exact Try.sizeOf37 w
theorem op_at {w : World} {v : Value} {l : List Opd} (h : RdO w v l) (i : Nat) (h1 : i < l.length) :
    ∃ (b o : Nat), (∀ w', (Instr.indexAt 22 v (.int .i64 (i : Int))).run Try.prog w' = .ok (.pointer (some ⟨b, o, none⟩)) w') ∧ w.cell? ⟨b, o, none⟩ = some (.int .i64 l[i].1) ∧ w.cell? ⟨b, o + 1, none⟩ = some (.int .u32 l[i].2) := by
  obtain ⟨b, o, cs, r, hl, hc, h2⟩ := slr_idxN h uO zO i h1
  have h3 : cs = [.int .i64 l[i].1, .int .u32 l[i].2] := h2
  subst h3
  exact ⟨b, o, r, hc 0 (by omega), hc 1 (by omega)⟩
end Go.Proofs.Ytfmpeminfcehaaa
