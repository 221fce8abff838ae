/-
  Slices of aliases that came in, with their weight.
-/
import Derived.Test.YtmjgiaomijghoaaDoorTro
import Derived.Test.YtmjgiaomijghoaaDoorAlp
namespace Go.Proofs.YtmjgiaomijghoaaDoor
open Go.ChangeShapes Go.WideShapes Go.ChangeAt Go.RowKit
set_option linter.unusedVariables false
set_option linter.unusedSimpArgs false

theorem ali_strZ : Tryd.prog.underlying 66 = some (.struct (Tryd.prog.fieldsOf 66)) := by kernel_rfl
theorem aliFsZ : (Tryd.prog.fieldsOf 66).toList.map (fun f => (f.type, f.offset)) = [(9, 0), (9, 1)] := by kernel_rfl
set_option maxRecDepth 100000 in
theorem ali_trodZ {H : Type} {enc : TypeId × Value → H} {W : World} (fuel : Nat) (cs : List Value) (y : DataW H × List MemPlace) (h : DataW.trod enc Tryd.prog W 0 (fun _ => true) true fuel 66 cs = some y) (hw : ∀ n ∈ y.1.weights Tryd.prog 66, n ≤ reachBytes) :
    ∃ x : Al, aliR W cs x ∧ (bytesL x.1 ∧ bytesL x.2) ∧ x.1.length ≤ 140737488351232 ∧ x.2.length ≤ 140737488351232 := by
  obtain ⟨xs, n, _, rfl, hl, hlen, hf⟩ := DataW.trod_struct ali_strZ h
  rw [show Tryd.prog.cellsOf 66 = 2 by kernel_rfl] at hl
  rw [show (Tryd.prog.fieldsOf 66).size = 2 by kernel_rfl] at hlen
  match cs, hl with
  | [c0, c1], _ =>
    have g0 := str_field ali_strZ hf aliFsZ hw 0 9 0 rfl (by kernel_rfl) (by omega)
    have g1 := str_field ali_strZ hf aliFsZ hw 1 9 1 rfl (by kernel_rfl) (by omega)
    obtain ⟨k, k1, k2, k3⟩ := DataW.trod_string Tryd.underlying9 g0.1
    obtain ⟨p, p1, p2, p3⟩ := DataW.trod_string Tryd.underlying9 g1.1
    have z0 := g0.2
    have z1 := g1.2
    rw [k2] at z0
    rw [p2] at z1
    have z0' := z0 k.data.toList.length (by simp [DataW.weights])
    have z1' := z1 p.data.toList.length (by simp [DataW.weights])
    simp at k1 p1
    subst k1 p1
    unfold reachBytes at z0' z1'
    have e1 : k.data.toList.length = k.size := by simp
    have e2 : p.data.toList.length = p.size := by simp
    exact ⟨(LB k, LB p), by simp [aliR, nums_LB], ⟨LB_bytes k, LB_bytes p⟩, by simp only; rw [LB_len]; omega, by simp only; rw [LB_len]; omega⟩
theorem ali_openZ {H : Type} {enc : TypeId × Value → H} {W : World} {a : Option Addr} {len cap : Nat} {d : DataW H} {ps : List MemPlace} (h : DataW.Trod enc Tryd.prog W 0 (fun _ => true) true 32 (.slice a len cap) d ps) (hw : ∀ n ∈ d.weights Tryd.prog 32, n ≤ reachBytes) :
    ∃ xs : List Al, SlR 2 aliR W (.slice a len cap) xs ∧ (∀ x ∈ xs, bytesL x.1 ∧ bytesL x.2) ∧ (∀ x ∈ xs, x.1.length ≤ 140737488351232 ∧ x.2.length ≤ 140737488351232) := by
  obtain ⟨fuel, hf⟩ := h
  obtain ⟨a', l', c', xs, e, h1, h2, h3⟩ := slr_trod (y := (d, ps)) (sz := 2) aliR (fun x : Al => (bytesL x.1 ∧ bytesL x.2) ∧ x.1.length ≤ 140737488351232 ∧ x.2.length ≤ 140737488351232) Tryd.underlying32 (by kernel_rfl) (by omega) (show DataW.trod enc Tryd.prog W 0 (fun _ => true) true fuel 32 [.slice a len cap] = some (d, ps) from hf) hw ali_trodZ
  simp at e
  obtain ⟨rfl, rfl, rfl⟩ := e
  exact ⟨xs, h1, fun x hx => (h2 x hx).1, fun x hx => (h2 x hx).2⟩
end Go.Proofs.YtmjgiaomijghoaaDoor
