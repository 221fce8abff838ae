/-
  Drafts and deeds that came in: what they read as, and how much they hold.
-/
import Derived.Test.YtfmpeminfcehaaaOpp
import Derived.Test.YtfmpeminfcehaaaDfm
namespace Go.Proofs.Ytfmpeminfcehaaa
open Go.ChangeShapes Go.WideShapes Go.ChangeAt Go.RowKit
set_option linter.unusedVariables false
set_option maxRecDepth 100000
set_option linter.unusedSimpArgs false

structure gN (x : Opn) : Prop where
  at_ : (Lit.int .i64 x.1).wf = true
  outs : ∀ n ∈ x.2, (Lit.int .i64 n).wf = true
  siz : x.2.length * 8 ≤ 140737488351232
structure gDf (d : Dft) : Prop where
  code : ∀ x ∈ d.code, gO x
  codeZ : d.code.length * 16 ≤ 140737488351232
  origs : ∀ n ∈ d.origs, (Lit.int .i64 n).wf = true
  origsZ : d.origs.length * 8 ≤ 140737488351232
  dests : ∀ n ∈ d.dests, (Lit.int .i64 n).wf = true
  destsZ : d.dests.length * 8 ≤ 140737488351232
  loops : ∀ x ∈ d.loops, gN x
  loopsZ : d.loops.length * 32 ≤ 140737488351232
  cases : ∀ x ∈ d.cases, gN x
  casesZ : d.cases.length * 32 ≤ 140737488351232
theorem opn_str : Try.prog.underlying 58 = some (.struct (Try.prog.fieldsOf 58)) := by kernel_rfl
theorem opnFs : (Try.prog.fieldsOf 58).toList.map (fun f => (f.type, f.offset)) = [(3, 0), (23, 1)] := by kernel_rfl
theorem dft_str : Try.prog.underlying 26 = some (.struct (Try.prog.fieldsOf 26)) := by kernel_rfl
theorem dftFs : (Try.prog.fieldsOf 26).toList.map (fun f => (f.type, f.offset)) = [(22, 0), (23, 1), (23, 2), (24, 3), (24, 4)] := by kernel_rfl
theorem bytOn : Try.prog.bytesOf 58 = 32 := by kernel_rfl
theorem opn_trod {H : Type} {enc : TypeId × Value → H} {W : World} (fuel : Nat) (cs : List Value) (y : DataW H × List MemPlace) (h : DataW.trod enc Try.prog W 0 (fun _ => true) true fuel 58 cs = some y) (hw : ∀ n ∈ y.1.weights Try.prog 58, n ≤ reachBytes) :
    ∃ x : Opn, opnR W cs x ∧ gN x := by
  obtain ⟨xs, n, _, rfl, hl, hlen, hf⟩ := DataW.trod_struct opn_str h
  rw [show Try.prog.cellsOf 58 = 2 by kernel_rfl] at hl
  rw [show (Try.prog.fieldsOf 58).size = 2 by kernel_rfl] at hlen
  match cs, hl with
  | [c0, c1], _ =>
    have g0 := str_field opn_str hf opnFs hw 0 3 0 rfl (by kernel_rfl) (by omega)
    have g1 := str_field opn_str hf opnFs hw 1 23 1 rfl (by kernel_rfl) (by omega)
    obtain ⟨a, a1, a2, a3⟩ := DataW.trod_int Try.underlying3 g0.1
    obtain ⟨a4, l4, r4, u, e4, hu, hf4, hz4⟩ := rd_trod Try.underlying23 Try.underlying3 (by kernel_rfl) g1.1 g1.2
    simp at a1 e4
    subst a1 e4
    rw [bytI64] at hz4
    unfold reachBytes at hz4
    exact ⟨(a, u), ⟨_, rfl, hu⟩, ⟨a3, hf4, hz4⟩⟩
/-- a draft as a parameter -/
theorem dft_open {H : Type} {enc : TypeId × Value → H} {W : World} {base : Nat} {v : Value} {d : DataW H} {ps : List MemPlace} (hok : Value.okWide Try.prog W .any base 26 v) (h : DataW.Trod enc Try.prog W 0 (fun _ => true) true 26 v d ps) (hw : ∀ n ∈ d.weights Try.prog 26, n ≤ reachBytes) :
    ∃ (dv : Dv) (dd : Dft), v = .agg dv.cs ∧ RdD W dv dd ∧ gDf dd := by
  obtain ⟨cs0, rfl, _, _⟩ : ∃ cs, v = .agg cs ∧ cs.size = Try.prog.cellsOf 26 ∧ Row.okWide Try.prog W .any base 26 cs := by
    simpa [Value.okWide, dft_str] using hok
  obtain ⟨fuel, hf0⟩ := h
  have hf2 : DataW.trod enc Try.prog W 0 (fun _ => true) true fuel 26 cs0.toList = some (d, ps) := hf0
  obtain ⟨xs, n, _, hd, hl, hlen, hf⟩ := DataW.trod_struct dft_str hf2
  obtain ⟨rfl, _⟩ := Prod.mk.inj hd
  rw [show Try.prog.cellsOf 26 = 5 by kernel_rfl] at hl
  rw [show (Try.prog.fieldsOf 26).size = 5 by kernel_rfl] at hlen
  obtain ⟨cs⟩ := cs0
  match cs, hl with
  | [c0, c1, c2, c3, c4], _ =>
    have g0 := str_field dft_str hf dftFs hw 0 22 0 rfl (by kernel_rfl) (by omega)
    have g1 := str_field dft_str hf dftFs hw 1 23 1 rfl (by kernel_rfl) (by omega)
    have g2 := str_field dft_str hf dftFs hw 2 23 2 rfl (by kernel_rfl) (by omega)
    have g3 := str_field dft_str hf dftFs hw 3 24 3 rfl (by kernel_rfl) (by omega)
    have g4 := str_field dft_str hf dftFs hw 4 24 4 rfl (by kernel_rfl) (by omega)
    obtain ⟨a0, l0, r0, x0, e0, h0, w0, z0⟩ := slr_trod (sz := 2) opR gO Try.underlying22 (by kernel_rfl) (by omega) g0.1 g0.2 op_trod
    obtain ⟨a1, l1, r1, x1, e1, h1, w1, z1⟩ := rd_trod Try.underlying23 Try.underlying3 (by kernel_rfl) g1.1 g1.2
    obtain ⟨a2, l2, r2, x2, e2, h2, w2, z2⟩ := rd_trod Try.underlying23 Try.underlying3 (by kernel_rfl) g2.1 g2.2
    obtain ⟨a3, l3, r3, x3, e3, h3, w3, z3⟩ := slr_trod (sz := 2) opnR gN Try.underlying24 (by kernel_rfl) (by omega) g3.1 g3.2 opn_trod
    obtain ⟨a4, l4, r4, x4, e4, h4, w4, z4⟩ := slr_trod (sz := 2) opnR gN Try.underlying24 (by kernel_rfl) (by omega) g4.1 g4.2 opn_trod
    simp at e0 e1 e2 e3 e4
    subst e0 e1 e2 e3 e4
    rw [bytOp] at z0
    rw [bytI64] at z1 z2
    rw [bytOn] at z3 z4
    unfold reachBytes at z0 z1 z2 z3 z4
    exact ⟨⟨_, _, _, _, _⟩, ⟨x0, x1, x2, x3, x4⟩, rfl, ⟨h0, h1, h2, h3, h4⟩, ⟨w0, z0, w1, z1, w2, z2, w3, z3, w4, z4⟩⟩

/-- deeds -/
def dedR (w : World) (cs : List Value) (x : Int × Opd) : Prop := cs = [.int .i64 x.1, .int .i64 x.2.1, .int .u32 x.2.2]
def RdE (w : World) (v : Value) (l : List (Int × Opd)) : Prop := SlR 3 dedR w v l
theorem RdE.below {w w' : World} {v : Value} {l : List (Int × Opd)} (h : RdE w v l) (g : Below w.heap.size w w') : RdE w' v l := SlR.below h g (fun _ _ q => q)
def gE (x : Int × Opd) : Prop := (Lit.int .i64 x.1).wf = true ∧ gO x.2
theorem ded_str : Try.prog.underlying 48 = some (.struct (Try.prog.fieldsOf 48)) := by kernel_rfl
theorem dedFs : (Try.prog.fieldsOf 48).toList.map (fun f => (f.type, f.offset)) = [(3, 0), (37, 1)] := by kernel_rfl
theorem bytDd : Try.prog.bytesOf 48 = 24 := by kernel_rfl
theorem ded_trod {H : Type} {enc : TypeId × Value → H} {W : World} (fuel : Nat) (cs : List Value) (y : DataW H × List MemPlace) (h : DataW.trod enc Try.prog W 0 (fun _ => true) true fuel 48 cs = some y) (hw : ∀ n ∈ y.1.weights Try.prog 48, n ≤ reachBytes) :
    ∃ x : Int × Opd, dedR W cs x ∧ gE x := by
  obtain ⟨xs, n, _, rfl, hl, hlen, hf⟩ := DataW.trod_struct ded_str h
  rw [show Try.prog.cellsOf 48 = 3 by kernel_rfl] at hl
  rw [show (Try.prog.fieldsOf 48).size = 2 by kernel_rfl] at hlen
  match cs, hl with
  | [c0, c1, c2], _ =>
    have g0 := str_field ded_str hf dedFs hw 0 3 0 rfl (by kernel_rfl) (by omega)
    have g1 := str_fieldN ded_str hf dedFs hw 1 37 1 2 rfl (by kernel_rfl) (by omega)
    obtain ⟨a, a1, a2, a3⟩ := DataW.trod_int Try.underlying3 g0.1
    obtain ⟨o, o1, o2⟩ := op_trod _ _ _ g1.1 g1.2
    unfold opR at o1
    simp at a1 o1
    obtain ⟨rfl, rfl⟩ := o1
    subst a1
    exact ⟨(a, o), rfl, a3, o2⟩
theorem ded_open {H : Type} {enc : TypeId × Value → H} {W : World} {a : Option Addr} {len cap : Nat} {d : DataW H} {ps : List MemPlace} (h : DataW.Trod enc Try.prog W 0 (fun _ => true) true 43 (.slice a len cap) d ps) (hw : ∀ n ∈ d.weights Try.prog 43, n ≤ reachBytes) :
    ∃ t : List (Int × Opd), RdE W (.slice a len cap) t ∧ (∀ x ∈ t, gE x) ∧ t.length * 24 ≤ 140737488351232 := by
  obtain ⟨fuel, hf⟩ := h
  obtain ⟨a', l', c', xs, e, h1, h2, h3⟩ := slr_trod (y := (d, ps)) (sz := 3) dedR gE Try.underlying43 (by kernel_rfl) (by omega) (show DataW.trod enc Try.prog W 0 (fun _ => true) true fuel 43 [.slice a len cap] = some (d, ps) from hf) hw ded_trod
  simp at e
  obtain ⟨rfl, rfl, rfl⟩ := e
  rw [bytDd] at h3
  unfold reachBytes at h3
  exact ⟨xs, h1, h2, h3⟩
end Go.Proofs.Ytfmpeminfcehaaa
