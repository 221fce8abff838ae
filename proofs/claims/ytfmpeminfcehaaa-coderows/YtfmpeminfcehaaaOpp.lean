/-
  Instructions that came in.
-/
import Derived.Test.YtfmpeminfcehaaaTro
import Derived.Test.YtfmpeminfcehaaaOpm
namespace Go.Proofs.Ytfmpeminfcehaaa
open Go.ChangeShapes Go.WideShapes Go.ChangeAt Go.RowKit
set_option linter.unusedVariables false
set_option maxRecDepth 100000
set_option linter.unusedSimpArgs false

def gO (y : Opd) : Prop := (Lit.int .i64 y.1).wf = true ∧ 0 ≤ y.2 ∧ y.2 < 4294967296
theorem op_str : Try.prog.underlying 37 = some (.struct (Try.prog.fieldsOf 37)) := by kernel_rfl
theorem opFs : (Try.prog.fieldsOf 37).toList.map (fun f => (f.type, f.offset)) = [(3, 0), (35, 1)] := by kernel_rfl
theorem bytOp : Try.prog.bytesOf 37 = 16 := by kernel_rfl
theorem bytI64 : Try.prog.bytesOf 3 = 8 := by kernel_rfl
theorem op_trod {H : Type} {enc : TypeId × Value → H} {W : World} (fuel : Nat) (cs : List Value) (y : DataW H × List MemPlace) (h : DataW.trod enc Try.prog W 0 (fun _ => true) true fuel 37 cs = some y) (hw : ∀ n ∈ y.1.weights Try.prog 37, n ≤ reachBytes) :
    ∃ x : Opd, opR W cs x ∧ gO x := by
  obtain ⟨xs, n, _, rfl, hl, hlen, hf⟩ := DataW.trod_struct op_str h
  rw [show Try.prog.cellsOf 37 = 2 by kernel_rfl] at hl
  rw [show (Try.prog.fieldsOf 37).size = 2 by kernel_rfl] at hlen
  match cs, hl with
  | [c0, c1], _ =>
    have g0 := str_field op_str hf opFs hw 0 3 0 rfl (by kernel_rfl) (by omega)
    have g1 := str_field op_str hf opFs hw 1 35 1 rfl (by kernel_rfl) (by omega)
    obtain ⟨a, a1, a2, a3⟩ := DataW.trod_int Try.underlying3 g0.1
    obtain ⟨b, b1, b2, b3⟩ := DataW.trod_int Try.underlying35 g1.1
    simp at a1 b1
    subst a1 b1
    exact ⟨(a, b), rfl, a3, wf8 b3⟩
/-- an instruction as a parameter -/
theorem op_open {H : Type} {enc : TypeId × Value → H} {W : World} {base : Nat} {v : Value} {d : DataW H} {ps : List MemPlace} (hok : Value.okWide Try.prog W .any base 37 v) (h : DataW.Trod enc Try.prog W 0 (fun _ => true) true 37 v d ps) (hw : ∀ n ∈ d.weights Try.prog 37, n ≤ reachBytes) :
    ∃ k n : Int, v = .agg #[.int .i64 k, .int .u32 n] ∧ gO (k, n) := by
  obtain ⟨cs0, rfl, _, _⟩ : ∃ cs, v = .agg cs ∧ cs.size = Try.prog.cellsOf 37 ∧ Row.okWide Try.prog W .any base 37 cs := by
    simpa [Value.okWide, op_str] using hok
  obtain ⟨fuel, hf0⟩ := h
  obtain ⟨x, h1, h3⟩ := op_trod fuel cs0.toList (d, ps) hf0 hw
  obtain ⟨cs⟩ := cs0
  unfold opR at h1
  simp only at h1
  subst h1
  exact ⟨x.1, x.2, rfl, h3⟩
end Go.Proofs.Ytfmpeminfcehaaa
