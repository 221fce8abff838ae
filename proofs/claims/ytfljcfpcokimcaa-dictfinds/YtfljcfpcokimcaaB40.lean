/-
  Texts of one proof, laid one behind the other: Arr.
-/
import Derived.Test.YtfljcfpcokimcaaB39
import Derived.WalkKit
import Derived.ProofKit
import Derived.OpenShut
namespace Go.Proofs.Ytfljcfpcokimcaa
open Go.ChangeShapes Go.WideShapes Go.ChangeAt Go.RowKit
set_option linter.unusedVariables false
set_option linter.unusedSimpArgs false

/-
  Arrays of cells handed in by value, as the reader reads them: taken apart and put together again. No Go text in sight.
-/
section
variable {H : Type} {enc : TypeId × Value → H} {P : Program} {W : World} {base : Nat} {b2 : Nat} {spare : Nat → Bool} {held : Bool}
theorem open_arr {n : Nat} {t e : TypeId} {v : Value} {d : DataW H} {p : List MemPlace} {k : IntKind} (ht : P.underlying t = some (.array n e)) (he : P.underlying e = some (.int k)) (hce : P.cellsOf e = 1) (hct : P.cellsOf t = n)
    (hok : Value.okWide P W .any base t v) (h : DataW.Trod enc P W b2 spare held t v d p) :
    ∃ xs : List Int, xs.length = n ∧ v = .agg (xs.map (Value.int k)).toArray ∧ d = .agg (xs.map fun x => DataW.lit (.int k x)) ∧ p = [] ∧ ∀ x ∈ xs, (Lit.int k x).wf = true := by
  obtain ⟨cs, rfl, hsz, _⟩ : ∃ cs, v = .agg cs ∧ cs.size = P.cellsOf t ∧ Row.okWide P W .any base t cs := by
    simpa [Value.okWide, ht] using hok
  obtain ⟨fuel, hf⟩ := h
  have hf2 : DataW.trod enc P W b2 spare held fuel t cs.toList = some (d, p) := hf
  obtain ⟨ys, m, _, hx, hl, hlen, hel⟩ := DataW.trod_array ht hf2
  rw [hct] at hl
  rw [hce] at hel
  simp only [Nat.mul_one] at hel
  have key : ∀ i (hi : i < n), ∃ x : Int, cs.toList[i]? = some (Value.int k x) ∧ ys[i]? = some (.lit (.int k x), []) ∧ (Lit.int k x).wf = true := by
    intro i hi
    have h1 := hel i hi
    have hi2 : i < cs.toList.length := by omega
    have hi3 : i < ys.length := by omega
    rw [List.getElem?_eq_getElem hi3] at h1
    have e1 : (cs.toList.drop i).take 1 = [cs.toList[i]] := by
      rw [List.drop_eq_getElem_cons hi2]; simp
    rw [e1] at h1
    obtain ⟨x, ex, ey, wx⟩ := DataW.trod_int he h1
    simp at ex
    refine ⟨x, ?_, ?_, wx⟩
    · rw [List.getElem?_eq_getElem hi2]; simp [ex]
    · rw [List.getElem?_eq_getElem hi3, ey]
  let f : Nat → Int := fun i => match cs.toList[i]? with | some (Value.int _ x) => x | _ => 0
  have kf : ∀ i (hi : i < n), cs.toList[i]? = some (Value.int k (f i)) ∧ ys[i]? = some (.lit (.int k (f i)), []) ∧ (Lit.int k (f i)).wf = true := by
    intro i hi
    obtain ⟨x, h1, h2, h3⟩ := key i hi
    have : f i = x := by simp only [f, h1]
    rw [this]; exact ⟨h1, h2, h3⟩
  have ecs : cs.toList = ((List.range n).map f).map (Value.int k) := by
    apply List.ext_getElem?
    intro i
    by_cases hi : i < n
    · rw [(kf i hi).1]; simp [hi]
    · rw [List.getElem?_eq_none (by omega), List.getElem?_eq_none (by simp; omega)]
  have eys : ys = ((List.range n).map f).map fun x => (DataW.lit (.int k x), ([] : List MemPlace)) := by
    apply List.ext_getElem?
    intro i
    by_cases hi : i < n
    · rw [(kf i hi).2.1]; simp [hi]
    · rw [List.getElem?_eq_none (by omega), List.getElem?_eq_none (by simp; omega)]
  simp only [Prod.mk.injEq] at hx
  refine ⟨(List.range n).map f, by simp, ?_, ?_, ?_, ?_⟩
  · rw [← ecs]
  · rw [hx.1, eys]; simp
  · rw [hx.2, eys]; simp
  · intro x hx
    simp only [List.mem_map, List.mem_range] at hx
    obtain ⟨i, hi, rfl⟩ := hx
    exact (kf i hi).2.2

theorem shut_arr2 {t e : TypeId} {k : IntKind} {x0 x1 : Int} (ht : P.underlying t = some (.array 2 e)) (he : P.underlying e = some (.int k)) (hce : P.cellsOf e = 1) (hct : P.cellsOf t = 2)
    (w0 : (Lit.int k x0).wf = true) (w1 : (Lit.int k x1).wf = true) :
    DataW.Trod enc P W b2 spare held t (.agg #[.int k x0, .int k x1]) (.agg [.lit (.int k x0), .lit (.int k x1)]) [] :=
  ⟨2, by simp [DataW.trod, Value.cells, ht, he, hce, hct, w0, w1, show List.range 2 = [0, 1] from rfl]⟩
theorem shut_arr4 {t e : TypeId} {k : IntKind} {x0 x1 x2 x3 : Int} (ht : P.underlying t = some (.array 4 e)) (he : P.underlying e = some (.int k)) (hce : P.cellsOf e = 1) (hct : P.cellsOf t = 4)
    (w0 : (Lit.int k x0).wf = true) (w1 : (Lit.int k x1).wf = true) (w2 : (Lit.int k x2).wf = true) (w3 : (Lit.int k x3).wf = true) :
    DataW.Trod enc P W b2 spare held t (.agg #[.int k x0, .int k x1, .int k x2, .int k x3]) (.agg [.lit (.int k x0), .lit (.int k x1), .lit (.int k x2), .lit (.int k x3)]) [] :=
  ⟨2, by simp [DataW.trod, Value.cells, ht, he, hce, hct, w0, w1, w2, w3, show List.range 4 = [0, 1, 2, 3] from rfl]⟩
theorem open_arr2 {t e : TypeId} {v : Value} {d : DataW H} {p : List MemPlace} {k : IntKind} (ht : P.underlying t = some (.array 2 e)) (he : P.underlying e = some (.int k)) (hce : P.cellsOf e = 1) (hct : P.cellsOf t = 2)
    (hok : Value.okWide P W .any base t v) (h : DataW.Trod enc P W b2 spare held t v d p) :
    ∃ x0 x1 : Int, v = .agg #[.int k x0, .int k x1] ∧ d = .agg [.lit (.int k x0), .lit (.int k x1)] ∧ p = [] ∧ (Lit.int k x0).wf = true ∧ (Lit.int k x1).wf = true := by
  obtain ⟨xs, hl, hv, hd, hp, hw⟩ := open_arr ht he hce hct hok h
  match xs, hl with
  | [x0, x1], _ => exact ⟨x0, x1, by simpa using hv, by simpa using hd, hp, hw x0 (by simp), hw x1 (by simp)⟩
theorem shut_arr3 {t e : TypeId} {k : IntKind} {x0 x1 x2 : Int} (ht : P.underlying t = some (.array 3 e)) (he : P.underlying e = some (.int k)) (hce : P.cellsOf e = 1) (hct : P.cellsOf t = 3)
    (w0 : (Lit.int k x0).wf = true) (w1 : (Lit.int k x1).wf = true) (w2 : (Lit.int k x2).wf = true) :
    DataW.Trod enc P W b2 spare held t (.agg #[.int k x0, .int k x1, .int k x2]) (.agg [.lit (.int k x0), .lit (.int k x1), .lit (.int k x2)]) [] :=
  ⟨2, by simp [DataW.trod, Value.cells, ht, he, hce, hct, w0, w1, w2, show List.range 3 = [0, 1, 2] from rfl]⟩
theorem open_arr3 {t e : TypeId} {v : Value} {d : DataW H} {p : List MemPlace} {k : IntKind} (ht : P.underlying t = some (.array 3 e)) (he : P.underlying e = some (.int k)) (hce : P.cellsOf e = 1) (hct : P.cellsOf t = 3)
    (hok : Value.okWide P W .any base t v) (h : DataW.Trod enc P W b2 spare held t v d p) :
    ∃ x0 x1 x2 : Int, v = .agg #[.int k x0, .int k x1, .int k x2] ∧ d = .agg [.lit (.int k x0), .lit (.int k x1), .lit (.int k x2)] ∧ p = [] ∧ (Lit.int k x0).wf = true ∧ (Lit.int k x1).wf = true ∧ (Lit.int k x2).wf = true := by
  obtain ⟨xs, hl, hv, hd, hp, hw⟩ := open_arr ht he hce hct hok h
  match xs, hl with
  | [x0, x1, x2], _ => exact ⟨x0, x1, x2, by simpa using hv, by simpa using hd, hp, hw x0 (by simp), hw x1 (by simp), hw x2 (by simp)⟩
theorem open_arr4 {t e : TypeId} {v : Value} {d : DataW H} {p : List MemPlace} {k : IntKind} (ht : P.underlying t = some (.array 4 e)) (he : P.underlying e = some (.int k)) (hce : P.cellsOf e = 1) (hct : P.cellsOf t = 4)
    (hok : Value.okWide P W .any base t v) (h : DataW.Trod enc P W b2 spare held t v d p) :
    ∃ x0 x1 x2 x3 : Int, v = .agg #[.int k x0, .int k x1, .int k x2, .int k x3] ∧ d = .agg [.lit (.int k x0), .lit (.int k x1), .lit (.int k x2), .lit (.int k x3)] ∧ p = [] ∧ (Lit.int k x0).wf = true ∧ (Lit.int k x1).wf = true ∧ (Lit.int k x2).wf = true ∧ (Lit.int k x3).wf = true := by
  obtain ⟨xs, hl, hv, hd, hp, hw⟩ := open_arr ht he hce hct hok h
  match xs, hl with
  | [x0, x1, x2, x3], _ => exact ⟨x0, x1, x2, x3, by simpa using hv, by simpa using hd, hp, hw x0 (by simp), hw x1 (by simp), hw x2 (by simp), hw x3 (by simp)⟩
end

end Go.Proofs.Ytfljcfpcokimcaa
