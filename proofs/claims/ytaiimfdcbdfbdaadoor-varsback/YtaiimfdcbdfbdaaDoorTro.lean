/-
  What came in, read with its weight: slices of rows, slices of integers, structs of one-cell fields.
-/
import Derived.Test.YtaiimfdcbdfbdaaDoorRows
import Derived.Test.YtaiimfdcbdfbdaaDoorSg
import Derived.Test.YtaiimfdcbdfbdaaDoorSb
import Derived.SizedLaws
import Derived.ChangeSame
namespace Go.Proofs.YtaiimfdcbdfbdaaDoor
open Go.ChangeShapes Go.WideShapes Go.ChangeAt Go.RowKit
set_option linter.unusedVariables false
set_option linter.unusedSimpArgs false

theorem wf8 {n : Int} (h : (Lit.int .u32 n).wf = true) : 0 ≤ n ∧ n < 4294967296 := by
  simp [Lit.wf, IntKind.min, IntKind.max, IntKind.bits, IntKind.signed] at h
  omega
theorem all_weights {H : Type} {P : Program} {e : TypeId} {d : DataW H} {n : Nat} : ∀ {ds : List (DataW H)}, d ∈ ds → n ∈ d.weights P e → n ∈ DataW.weightsAll P e ds
  | x :: r, h, hn => by
    simp only [DataW.weightsAll, List.mem_append]
    rcases List.mem_cons.1 h with rfl | h
    · exact Or.inl hn
    · exact Or.inr (all_weights h hn)
/-- a slice's rows, each read as R says, each of which Q is true -/
theorem slr_trod {α H : Type} {enc : TypeId × Value → H} {W : World} {t e : TypeId} {cs : List Value} {y : DataW H × List MemPlace} {sz fuel : Nat} (R : World → List Value → α → Prop) (Q : α → Prop)
    (ht : Tryd.prog.underlying t = some (.slice e)) (hc : Tryd.prog.cellsOf e = sz) (hsz : 0 < sz) (h : DataW.trod enc Tryd.prog W 0 (fun _ => true) true fuel t cs = some y) (hw : ∀ n ∈ y.1.weights Tryd.prog t, n ≤ reachBytes)
    (hR : ∀ n cs z, DataW.trod enc Tryd.prog W 0 (fun _ => true) true n e cs = some z → (∀ m ∈ z.1.weights Tryd.prog e, m ≤ reachBytes) → ∃ x, R W cs x ∧ Q x) :
    ∃ a l c xs, cs = [.slice a l c] ∧ SlR sz R W (.slice a l c) xs ∧ (∀ x ∈ xs, Q x) ∧ xs.length * Tryd.prog.bytesOf e ≤ reachBytes := by
  have g' : ∃ x l c, cs = [.slice x l c] := by
    rcases DataW.trod_slice ht h with ⟨h0, _⟩ | ⟨x, l, c, _, _, _, _, h0, _⟩
    · exact ⟨none, 0, 0, h0⟩
    · exact ⟨some x, l, c, h0⟩
  obtain ⟨a, l, c, rfl⟩ := g'
  obtain ⟨d, ps⟩ := y
  obtain ⟨rows, h1, h2, h3⟩ := slc_open ht hc hsz h
  rcases h3 with ⟨rfl, rfl⟩ | ⟨ds, zs, rfl, hl, h3⟩
  · exact ⟨a, l, c, [], rfl, ⟨[], h1, rfl, fun i hi => by simp at hi⟩, fun x hx => by simp at hx, by simp⟩
  · have hwt : (ds.length + zs.length) * Tryd.prog.bytesOf e ≤ reachBytes := hw _ (by simp [DataW.weights, ht])
    obtain ⟨xs, hx1, hx2⟩ := choose_list (rows.zip ds) (fun (r : List Value × DataW H) (x : α) => R W r.1 x ∧ Q x) (fun r hr => by
      obtain ⟨i, hi, rfl⟩ := List.getElem_of_mem hr
      have hi2 : i < rows.length := by simp at hi; omega
      obtain ⟨n, y, g, g2⟩ := h3 i hi2
      rw [List.getD_eq_getElem?_getD, List.getElem?_eq_getElem hi2] at g
      obtain ⟨x, k1, k2⟩ := hR _ _ _ g (fun m hm => hw m (by
        simp only [DataW.weights, ht, List.mem_cons, List.mem_append]
        exact Or.inr (Or.inl (all_weights (List.mem_of_getElem? g2) hm))))
      refine ⟨x, ?_, k2⟩
      rw [List.getElem_zip]; exact k1)
    have hzl : (rows.zip ds).length = rows.length := by simp [hl]
    refine ⟨a, l, c, xs, rfl, ⟨rows, h1, by omega, fun i hi => ?_⟩, fun x hx => ?_, ?_⟩
    · have := (hx2 i (by omega) hi).1
      rw [List.getElem_zip] at this
      rw [List.getD_eq_getElem?_getD, List.getElem?_eq_getElem (by omega)]
      exact this
    · obtain ⟨i, hi, rfl⟩ := List.getElem_of_mem hx
      exact (hx2 i (by omega) hi).2
    · refine Nat.le_trans (Nat.mul_le_mul_right _ ?_) hwt
      omega
/-- a slice of integers -/
theorem rd_trod {H : Type} {enc : TypeId × Value → H} {W : World} {t e : TypeId} {k : IntKind} {cs : List Value} {y : DataW H × List MemPlace} {fuel : Nat}
    (ht : Tryd.prog.underlying t = some (.slice e)) (he : Tryd.prog.underlying e = some (.int k)) (hc : Tryd.prog.cellsOf e = 1) (h : DataW.trod enc Tryd.prog W 0 (fun _ => true) true fuel t cs = some y) (hw : ∀ n ∈ y.1.weights Tryd.prog t, n ≤ reachBytes) :
    ∃ a l c xs, cs = [.slice a l c] ∧ Rd k W (.slice a l c) xs ∧ (∀ n ∈ xs, (Lit.int k n).wf = true) ∧ xs.length * Tryd.prog.bytesOf e ≤ reachBytes := by
  have g' : ∃ x l c, cs = [.slice x l c] := by
    rcases DataW.trod_slice ht h with ⟨h0, _⟩ | ⟨x, l, c, _, _, _, _, h0, _⟩
    · exact ⟨none, 0, 0, h0⟩
    · exact ⟨some x, l, c, h0⟩
  obtain ⟨a, l, c, rfl⟩ := g'
  obtain ⟨d, ps⟩ := y
  obtain ⟨u, hu, hf, hd⟩ := rd_open (k := k) (d := d) (ps := ps) ht he hc ⟨_, h⟩
  refine ⟨a, l, c, u, rfl, hu, hf, ?_⟩
  rcases hd with rfl | ⟨ys, zs, rfl, hle⟩
  · simp
  · have hwt : (ys.length + zs.length) * Tryd.prog.bytesOf e ≤ reachBytes := hw _ (by simp [DataW.weights, ht])
    refine Nat.le_trans (Nat.mul_le_mul_right _ ?_) hwt
    omega
/-- a struct's fields, one after another: each field's cells are one, its weights are the struct's -/
theorem str_field {H : Type} {enc : TypeId × Value → H} {W : World} {t : TypeId} {fs : Array Field} {cs : List Value} {xs : List (DataW H × List MemPlace)} {n : Nat} (hu : Tryd.prog.underlying t = some (.struct fs))
    (hf : ∀ (i : Nat) f, fs[i]? = some f → DataW.trod enc Tryd.prog W 0 (fun _ => true) true n f.type ((cs.drop f.offset).take (Tryd.prog.cellsOf f.type)) = xs[i]?) {l : List (TypeId × Nat)} (hl : fs.toList.map (fun f => (f.type, f.offset)) = l) (hw : ∀ m ∈ (DataW.agg (xs.map (·.1))).weights Tryd.prog t, m ≤ reachBytes)
    (i : Nat) (a : TypeId) (o : Nat) (h : l[i]? = some (a, o)) (hc : Tryd.prog.cellsOf a = 1) (hi : i < xs.length) :
    DataW.trod enc Tryd.prog W 0 (fun _ => true) true n a ((cs.drop o).take 1) = some xs[i] ∧ ∀ m ∈ xs[i].1.weights Tryd.prog a, m ≤ reachBytes := by
  subst hl
  rw [List.getElem?_map] at h
  obtain ⟨f, g1, g2⟩ := Option.map_eq_some_iff.1 h
  obtain ⟨rfl, rfl⟩ := Prod.mk.inj g2
  have h1 := hf i f (by rw [← Array.getElem?_toList]; exact g1)
  rw [hc, List.getElem?_eq_getElem hi] at h1
  refine ⟨h1, fun m hm => hw m ?_⟩
  simp only [DataW.weights, hu]
  refine DataW.weights_mem_each (j := i) (t := f.type) (d := xs[i].1) ?_ ?_ m hm
  · rw [List.getElem?_map, g1]; rfl
  · rw [List.getElem?_map, List.getElem?_eq_getElem hi]; rfl
/-- a field of several cells -/
theorem str_fieldN {H : Type} {enc : TypeId × Value → H} {W : World} {t : TypeId} {fs : Array Field} {cs : List Value} {xs : List (DataW H × List MemPlace)} {n : Nat} (hu : Tryd.prog.underlying t = some (.struct fs))
    (hf : ∀ (i : Nat) f, fs[i]? = some f → DataW.trod enc Tryd.prog W 0 (fun _ => true) true n f.type ((cs.drop f.offset).take (Tryd.prog.cellsOf f.type)) = xs[i]?) {l : List (TypeId × Nat)} (hl : fs.toList.map (fun f => (f.type, f.offset)) = l) (hw : ∀ m ∈ (DataW.agg (xs.map (·.1))).weights Tryd.prog t, m ≤ reachBytes)
    (i : Nat) (a : TypeId) (o c : Nat) (h : l[i]? = some (a, o)) (hc : Tryd.prog.cellsOf a = c) (hi : i < xs.length) :
    DataW.trod enc Tryd.prog W 0 (fun _ => true) true n a ((cs.drop o).take c) = some xs[i] ∧ ∀ m ∈ xs[i].1.weights Tryd.prog a, m ≤ reachBytes := by
  subst hl
  rw [List.getElem?_map] at h
  obtain ⟨f, g1, g2⟩ := Option.map_eq_some_iff.1 h
  obtain ⟨rfl, rfl⟩ := Prod.mk.inj g2
  have h1 := hf i f (by rw [← Array.getElem?_toList]; exact g1)
  rw [hc, List.getElem?_eq_getElem hi] at h1
  refine ⟨h1, fun m hm => hw m ?_⟩
  simp only [DataW.weights, hu]
  refine DataW.weights_mem_each (j := i) (t := f.type) (d := xs[i].1) ?_ ?_ m hm
  · rw [List.getElem?_map, g1]; rfl
  · rw [List.getElem?_map, List.getElem?_eq_getElem hi]; rfl
end Go.Proofs.YtaiimfdcbdfbdaaDoor
