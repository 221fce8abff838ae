/-
  Plain data (numbers, bools, texts; rows and structs of such) tells the cells that hold it. No Go text in sight.
-/
import Derived.Lib.LaidTab
namespace Go.Proofs.YtaiimfdcbdfbdaaDoor
open Go
set_option linter.unusedVariables false
set_option linter.unusedSimpArgs false

/-- the cells of plain data, one behind the other -/
def flatCells : DataW Unit → List Value
  | .lit (.int k n) => [.int k n]
  | .lit (.bool b) => [.bool b]
  | .lit (.string l) => [.string ⟨l.toArray⟩]
  | .agg ds => ds.attach.flatMap fun ⟨d, _⟩ => flatCells d
  | _ => []
theorem flat_agg (ds : List (DataW Unit)) : flatCells (.agg ds) = ds.flatMap flatCells := by
  rw [flatCells]
  conv => rhs; rw [← List.attach_map_subtype_val ds]
  rw [List.flatMap_map]

/-- fields that lie one behind the other, from cell o to cell e -/
def contB (P : Program) : List Field → Nat → Nat → Bool
  | [], o, e => o == e
  | f :: fs, o, e => f.offset == o && contB P fs (o + P.cellsOf f.type) e
theorem contB_le (P : Program) : ∀ (fs : List Field) (o e : Nat), contB P fs o e = true → o ≤ e
  | [], o, e, h => by simp [contB] at h; omega
  | f :: fs, o, e, h => by
    simp [contB] at h
    have := contB_le P fs _ e h.2
    omega
/-- a type whose values are plain data -/
def flatB (P : Program) : Nat → TypeId → Bool
  | 0, _ => false
  | m + 1, t => match P.underlying t with
    | some .bool => true
    | some (.int _) => true
    | some .string => true
    | some (.struct fs) => contB P fs.toList 0 (P.cellsOf t) && fs.toList.all fun f => flatB P m f.type
    | some (.array n e) => P.cellsOf t == n * P.cellsOf e && flatB P m e
    | _ => false

theorem flat_fields {P : Program} (cs : List Value) (g : TypeId → List Value → Option (DataW Unit × List MemPlace)) :
    ∀ (fs : List Field) (o e : Nat) (xs : List (DataW Unit × List MemPlace)), contB P fs o e = true → e ≤ cs.length →
      (∀ f ∈ fs, ∀ l d p, g f.type l = some (d, p) → l = flatCells d) →
      fs.mapM (fun f => g f.type ((cs.drop f.offset).take (P.cellsOf f.type))) = some xs → (cs.drop o).take (e - o) = (xs.map (·.1)).flatMap flatCells
  | [], o, e, xs, hc, he, hf, hm => by
    simp [contB] at hc
    subst hc
    simp at hm
    subst hm
    simp
  | f :: fs, o, e, xs, hc, he, hf, hm => by
    simp only [List.mapM_cons, Option.bind_eq_bind, Option.bind_eq_some_iff, Option.pure_def, Option.some.injEq] at hm
    obtain ⟨⟨d, p⟩, hd, r, hr, rfl⟩ := hm
    simp [contB] at hc
    obtain ⟨ho, hc⟩ := hc
    have hle := contB_le P fs _ e hc
    have ih := flat_fields cs g fs _ e r hc he (fun f' h' => hf f' (List.mem_cons_of_mem _ h')) hr
    have h1 := hf f (List.mem_cons_self ..) _ _ _ hd
    rw [ho] at h1
    simp only [List.map_cons, List.flatMap_cons]
    rw [← h1, ← ih, show e - o = P.cellsOf f.type + (e - (o + P.cellsOf f.type)) by omega, List.take_add, List.drop_drop]
theorem flat_rows {P : Program} (cs : List Value) (c : Nat) (g : List Value → Option (DataW Unit × List MemPlace)) (hg : ∀ l d p, g l = some (d, p) → l = flatCells d) :
    ∀ (m s : Nat) (xs : List (DataW Unit × List MemPlace)), (List.range' s m).mapM (fun i => g ((cs.drop (i * c)).take c)) = some xs → (cs.drop (s * c)).take (m * c) = (xs.map (·.1)).flatMap flatCells
  | 0, s, xs, hm => by
    simp at hm
    subst hm
    simp
  | m + 1, s, xs, hm => by
    rw [List.range'_succ] at hm
    simp only [List.mapM_cons, Option.bind_eq_bind, Option.bind_eq_some_iff, Option.pure_def, Option.some.injEq] at hm
    obtain ⟨⟨d, p⟩, hd, r, hr, rfl⟩ := hm
    have ih := flat_rows (P := P) cs c g hg m (s + 1) r hr
    have h1 := hg _ _ _ hd
    simp only [List.map_cons, List.flatMap_cons]
    rw [← h1, ← ih, Nat.succ_mul, Nat.add_comm (m * c) c, List.take_add, List.drop_drop, Nat.succ_mul]
/-- what reads as plain data holds just its cells -/
theorem flat_of_trod {enc : TypeId × Value → Unit} {P : Program} {w : World} {base : Nat} {sp : Nat → Bool} {held : Bool} : ∀ (m fuel : Nat) (t : TypeId) (cs : List Value) (d : DataW Unit) (p : List MemPlace), flatB P m t = true →
    DataW.trod enc P w base sp held fuel t cs = some (d, p) → cs = flatCells d
  | 0, _, _, _, _, _, hf, _ => by simp [flatB] at hf
  | m + 1, 0, _, _, _, _, _, h => by simp [DataW.trod] at h
  | m + 1, fuel + 1, t, cs, d, p, hf, h => by
    unfold flatB at hf
    cases hu : P.underlying t with
    | none => rw [hu] at hf; simp at hf
    | some u =>
      rw [hu] at hf
      cases u <;> simp only [] at hf
      case bool =>
        obtain ⟨z, hc, hx⟩ := DataW.trod_bool hu h
        obtain ⟨rfl, _⟩ := Prod.mk.inj hx
        simp [hc, flatCells]
      case int k =>
        obtain ⟨z, hc, hx, _⟩ := DataW.trod_int hu h
        obtain ⟨rfl, _⟩ := Prod.mk.inj hx
        simp [hc, flatCells]
      case string =>
        obtain ⟨z, hc, hx, _⟩ := DataW.trod_string hu h
        obtain ⟨rfl, _⟩ := Prod.mk.inj hx
        simp [hc, flatCells]
      case struct fs =>
        simp only [DataW.trod, hu] at h
        split at h
        · rename_i hl
          obtain ⟨xs, hm, hx⟩ := Option.map_eq_some_iff.1 h
          rw [Bool.and_eq_true] at hf
          obtain ⟨rfl, _⟩ : .agg (xs.map (·.1)) = d ∧ _ := by simpa using hx
          rw [flat_agg]
          have := flat_fields (P := P) cs (fun t l => DataW.trod enc P w base sp held fuel t l) fs.toList 0 (P.cellsOf t) xs hf.1 (by omega) (fun f hf' l d p hd => flat_of_trod m fuel f.type l d p (List.all_eq_true.1 hf.2 f hf') hd) hm
          rw [← this, List.drop_zero, Nat.sub_zero, List.take_of_length_le (by omega)]
        · cases h
      case array n e =>
        simp only [DataW.trod, hu] at h
        split at h
        · rename_i hl
          obtain ⟨xs, hm, hx⟩ := Option.map_eq_some_iff.1 h
          rw [Bool.and_eq_true, beq_iff_eq] at hf
          obtain ⟨rfl, _⟩ : .agg (xs.map (·.1)) = d ∧ _ := by simpa using hx
          rw [flat_agg]
          rw [List.range_eq_range'] at hm
          have := flat_rows (P := P) cs (P.cellsOf e) (fun l => DataW.trod enc P w base sp held fuel e l) (fun l d p hd => flat_of_trod m fuel e l d p hf.2 hd) n 0 xs hm
          rw [← this, Nat.zero_mul, List.drop_zero, List.take_of_length_le (by omega)]
        · cases h
      all_goals exact absurd hf (by decide)
/-- a listed variable of plain data, the first on its list, holds its cells -/
theorem flat_laid {P : Program} {W : World} {name : String} {d : DataW Unit} {rest : List (String × DataW Unit)} {g : Nat} {t : TypeId} (m : Nat) (hg : P.globalNamed name = some g) (hty : (P.globals[g]?).map (·.type) = some t) (hf : flatB P m t = true)
    (h : laidMet P ((name, d) :: rest) W) : ∀ j v, (flatCells d)[j]? = some v → W.cell? ⟨g, j, none⟩ = some v := by
  obtain ⟨ps, ⟨g', t', cs, fuel, p, q, hg', ht', hvar, hd, _, _⟩, _⟩ := h
  obtain rfl := Option.some.inj (hg.symm.trans hg')
  obtain rfl := Option.some.inj (hty.symm.trans ht')
  have e := flat_of_trod m fuel t cs.toList d p hf hd
  intro j v hv
  rw [World.var?_cell hg hvar j, ← Array.getElem?_toList, e, hv]
end Go.Proofs.YtaiimfdcbdfbdaaDoor
