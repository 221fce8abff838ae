/-
  Equality of structs of two fields of one cell each, as one step of the model runs it.
-/
import Derived.Test.YtfmpeminfcehaaaProg
import Derived.WalkKit
import Derived.Laws.StructEq
import Derived.ChangeKeysEq
namespace Go.Proofs.Ytfmpeminfcehaaa
set_option linter.unusedVariables false
set_option linter.unusedSimpArgs false

theorem equalIn_st2 {P : Program} (w : World) {t a b : TypeId} {s0 s1 : String} (ht : P.underlying t = some (.struct (P.fieldsOf t))) (hp : P.stoodInHeld t = false) (hf : (P.fieldsOf t).toList.map (fun f => (f.name, f.type, f.offset)) = [(s0, a, 0), (s1, b, 1)]) (h0 : s0 ≠ "_") (h1 : s1 ≠ "_")
    (p0 : P.plainKey a = true) (p1 : P.plainKey b = true) {x0 x1 y0 y1 : Value} {c0 c1 : Bool} (e0 : ∀ w, (Op.equalIn 9999 a x0 y0).run P w = .ok c0 w) (e1 : ∀ w, (Op.equalIn 9999 b x1 y1).run P w = .ok c1 w) :
    (Op.equalIn 10000 t (.agg #[x0, x1]) (.agg #[y0, y1])).run P w = .ok (c0 && c1) w := by
  rw [show (10000 : Nat) = 9999 + 1 from rfl, run_equalIn_struct w 9999 t _ _ ht hp]
  obtain ⟨f0, f1, hfs⟩ : ∃ f0 f1, (P.fieldsOf t).toList = [f0, f1] := by
    have hl := congrArg List.length hf
    simp only [List.length_map] at hl
    generalize (P.fieldsOf t).toList = l at hl
    match l, hl with
    | [f0, f1], _ => exact ⟨f0, f1, rfl⟩
  rw [hfs] at hf ⊢
  simp only [List.map_cons, List.map_nil, List.cons.injEq, Prod.mk.injEq, and_true] at hf
  obtain ⟨⟨n0, t0, o0⟩, n1, t1, o1⟩ := hf
  have r0 : ∀ w, (part a #[x0, x1] 0).run P w = .ok x0 w := fun w => run_part_plain w p0 rfl
  have r1 : ∀ w, (part a #[y0, y1] 0).run P w = .ok y0 w := fun w => run_part_plain w p0 rfl
  have r2 : ∀ w, (part b #[x0, x1] 1).run P w = .ok x1 w := fun w => run_part_plain w p1 rfl
  have r3 : ∀ w, (part b #[y0, y1] 1).run P w = .ok y1 w := fun w => run_part_plain w p1 rfl
  simp only [Op.eqFields, n0, n1, t0, t1, o0, o1, h0, h1, ne_eq, not_false_eq_true, if_true, Sem.run_bind, r0, r1, Result.andThen_ok, e0]
  cases c0
  · simp
  · simp only [Bool.not_true, Bool.false_eq_true, if_false, Sem.run_bind, r2, r3, Result.andThen_ok, e1]
    cases c1 <;> simp
end Go.Proofs.Ytfmpeminfcehaaa
