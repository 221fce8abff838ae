/-
  Rows of places and bytes that came in.
-/
import Derived.Test.YtlnlifijnijgmaaRows
import Derived.Test.YtlnlifijnijgmaaNbm
import Derived.ChangeSame
import Derived.WalkKit
import Derived.ProofKit
import Derived.OpenShut
import Derived.SizedLaws
namespace Go.Proofs.Ytlnlifijnijgmaa
open Go.ChangeShapes Go.WideShapes Go.ChangeAt Go.RowKit
set_option linter.unusedVariables false
set_option linter.unusedSimpArgs false

theorem pbF0 : (Try.prog.fieldsOf 62)[0]?.map (fun f => (f.type, f.offset)) = some (3, 0) := by kernel_rfl
theorem pbF1 : (Try.prog.fieldsOf 62)[1]?.map (fun f => (f.type, f.offset)) = some (5, 1) := by kernel_rfl
theorem pbFs : (Try.prog.fieldsOf 62).size = 2 := by kernel_rfl
theorem pb_trod {H : Type} {enc : TypeId × Value → H} {W : World} {fuel : Nat} {cs : List Value} {y : DataW H × List MemPlace} (h : DataW.trod enc Try.prog W 0 (fun _ => true) true fuel 62 cs = some y) :
    ∃ x : Int × Int, cs = pbC x ∧ 0 ≤ x.2 ∧ x.2 < 256 := by
  obtain ⟨xs, n, _, rfl, hl, hlen, hf⟩ := DataW.trod_struct pb_str h
  rw [show Try.prog.cellsOf 62 = 2 by kernel_rfl] at hl
  rw [pbFs] at hlen
  match cs, hl with
  | [c0, c1], _ =>
    match xs, hlen with
    | [y0, y1], _ =>
      obtain ⟨f0, g0, e0⟩ := Option.map_eq_some_iff.1 pbF0
      obtain ⟨f1, g1, e1⟩ := Option.map_eq_some_iff.1 pbF1
      obtain ⟨a0, b0⟩ := Prod.mk.inj e0
      obtain ⟨a1, b1⟩ := Prod.mk.inj e1
      have h0 := hf 0 f0 g0
      have h1 := hf 1 f1 g1
      rw [a0, b0, show Try.prog.cellsOf 3 = 1 by kernel_rfl] at h0
      rw [a1, b1, show Try.prog.cellsOf 5 = 1 by kernel_rfl] at h1
      simp at h0 h1
      obtain ⟨k, k1, k2, k3⟩ := DataW.trod_int Try.underlying3 h0
      obtain ⟨n, n1, n2, n3⟩ := DataW.trod_int Try.underlying5 h1
      simp at k1 n1
      subst k1 n1 k2 n2
      refine ⟨(k, n), rfl, ?_, ?_⟩ <;> (simp [Lit.wf, IntKind.min, IntKind.max, IntKind.bits, IntKind.signed] at k3 n3; simp only; omega)
theorem pbs_open {H : Type} {enc : TypeId × Value → H} {W : World} {a : Option Addr} {len cap : Nat} {d : DataW H} {ps : List MemPlace} (h : DataW.Trod enc Try.prog W 0 (fun _ => true) true 32 (.slice a len cap) d ps) :
    ∃ xs : List (Int × Int), SlR 2 pbR W (.slice a len cap) xs ∧ ∀ x ∈ xs, 0 ≤ x.2 ∧ x.2 < 256 := by
  obtain ⟨fuel, hf⟩ := h
  obtain ⟨rows, h1, h2, h3⟩ := slc_open (e := 62) Try.underlying32 (show Try.prog.cellsOf 62 = 2 by kernel_rfl) (by omega) (show DataW.trod enc Try.prog W 0 (fun _ => true) true fuel 32 [.slice a len cap] = some (d, ps) from hf)
  rcases h3 with ⟨rfl, rfl⟩ | ⟨ds, zs, rfl, hl, h3⟩
  · exact ⟨[], ⟨[], h1, rfl, fun i hi => by simp at hi⟩, fun x hx => by simp at hx⟩
  · obtain ⟨xs, hx1, hx2⟩ := choose_list (rows.zip ds) (fun (r : List Value × DataW H) (x : Int × Int) => r.1 = pbC x ∧ 0 ≤ x.2 ∧ x.2 < 256) (fun r hr => by
      obtain ⟨i, hi, rfl⟩ := List.getElem_of_mem hr
      have hi2 : i < rows.length := by simp at hi; omega
      obtain ⟨n, y, g, g2⟩ := h3 i hi2
      rw [List.getD_eq_getElem?_getD, List.getElem?_eq_getElem hi2] at g
      obtain ⟨x, k1, k2⟩ := pb_trod g
      refine ⟨x, ?_, k2⟩
      rw [List.getElem_zip]; exact k1)
    have hzl : (rows.zip ds).length = rows.length := by simp [hl]
    refine ⟨xs, ⟨rows, h1, by omega, fun i hi => ?_⟩, fun x hx => ?_⟩
    · have := (hx2 i (by omega) hi).1
      rw [List.getElem_zip] at this
      rw [List.getD_eq_getElem?_getD, List.getElem?_eq_getElem (by omega)]
      exact this
    · obtain ⟨i, hi, rfl⟩ := List.getElem_of_mem hx
      exact (hx2 i (by omega) hi).2
end Go.Proofs.Ytlnlifijnijgmaa
