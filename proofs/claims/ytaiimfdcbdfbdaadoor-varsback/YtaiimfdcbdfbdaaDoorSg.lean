/-
  Slices of anything that is read: the rows of cells that a slice value has in a world, and what they read as. No Go text in sight.
-/
import Derived.Test.YtaiimfdcbdfbdaaDoorSb
import Derived.ChangeArms
namespace Go.Proofs.YtaiimfdcbdfbdaaDoor
open Go.ChangeShapes Go.WideShapes Go.ChangeAt Go.RowKit
set_option linter.unusedVariables false
set_option linter.unusedSimpArgs false

/-- the slice value v has these rows, of sz cells each -/
def SlC (sz : Nat) (w : World) (v : Value) (rows : List (List Value)) : Prop :=
  (∃ ao cap, v = .slice ao 0 cap ∧ (ao = none → cap = 0) ∧ rows = []) ∨
  ∃ b off cap, v = .slice (some ⟨b, off, none⟩) rows.length cap ∧ 0 < rows.length ∧ rows.length ≤ cap ∧ cap ≤ maxLen ∧
    ∀ i, i < rows.length → (rows.getD i []).length = sz ∧ ∀ j, j < sz → w.cell? ⟨b, off + i * sz + j, none⟩ = (rows.getD i [])[j]?
theorem SlC.below {sz : Nat} {w w' : World} {v : Value} {rows : List (List Value)} (h : SlC sz w v rows) (g : Below w.heap.size w w') : SlC sz w' v rows := by
  rcases h with h | ⟨b, off, cap, rfl, h0, h1, h2, hc⟩
  · exact Or.inl h
  · refine Or.inr ⟨b, off, cap, rfl, h0, h1, h2, fun i hi => ⟨(hc i hi).1, fun j hj => ?_⟩⟩
    have hl := (hc i hi).1
    have e := (hc i hi).2 j hj
    rw [List.getElem?_eq_getElem (by omega)] at e ⊢
    exact below_cell g e
theorem SlC.form {sz : Nat} {w : World} {v : Value} {rows : List (List Value)} (h : SlC sz w v rows) : ∃ ao cap, v = .slice ao rows.length cap ∧ rows.length ≤ cap ∧ (ao = none → cap = 0) ∧
    (0 < rows.length → cap ≤ maxLen ∧ ∃ b off, ao = some ⟨b, off, none⟩ ∧ ∀ i, i < rows.length → (rows.getD i []).length = sz ∧ ∀ j, j < sz → w.cell? ⟨b, off + i * sz + j, none⟩ = (rows.getD i [])[j]?) := by
  rcases h with ⟨ao, cap, rfl, h1, rfl⟩ | ⟨b, off, cap, rfl, h0, h1, h2, hc⟩
  · exact ⟨ao, cap, rfl, Nat.zero_le _, h1, fun h => by simp at h⟩
  · exact ⟨_, cap, rfl, h1, (fun h => by cases h), fun _ => ⟨h2, b, off, rfl, hc⟩⟩
/-- the slice value v reads as the list xs, each of its rows as R says -/
def SlR {α : Type} (sz : Nat) (R : World → List Value → α → Prop) (w : World) (v : Value) (xs : List α) : Prop :=
  ∃ rows, SlC sz w v rows ∧ rows.length = xs.length ∧ ∀ i (h : i < xs.length), R w (rows.getD i []) xs[i]
theorem SlR.below {α : Type} {sz : Nat} {R : World → List Value → α → Prop} {w w' : World} {v : Value} {xs : List α} (h : SlR sz R w v xs) (g : Below w.heap.size w w') (hR : ∀ cs x, R w cs x → R w' cs x) : SlR sz R w' v xs := by
  obtain ⟨rows, h1, h2, h3⟩ := h
  exact ⟨rows, h1.below g, h2, fun i hi => hR _ _ (h3 i hi)⟩
theorem SlR.nil {α : Type} {sz : Nat} {R : World → List Value → α → Prop} {w : World} : SlR sz R w (.slice none 0 0) ([] : List α) :=
  ⟨[], Or.inl ⟨none, 0, rfl, fun _ => rfl, rfl⟩, rfl, fun i h => by simp at h⟩
theorem slr_len {α : Type} {P : Program} {sz : Nat} {R : World → List Value → α → Prop} {w : World} {v : Value} {xs : List α} (h : SlR sz R w v xs) {t e : TypeId} (ht : P.underlying t = some (.slice e)) (ty : TypeId) (w' : World) :
    (Builtin.len_ #[t] ty #[v]).run P w' = .ok (.int .i64 xs.length) w' := by
  obtain ⟨rows, h1, h2, h3⟩ := h
  obtain ⟨ao, cap, rfl, _⟩ := h1.form
  simp [Builtin.len_, run_underlying ht, goInt, h2]
theorem slr_max {α : Type} {sz : Nat} {R : World → List Value → α → Prop} {w : World} {v : Value} {xs : List α} (h : SlR sz R w v xs) : xs.length ≤ maxLen := by
  obtain ⟨rows, h1, h2, h3⟩ := h
  rcases h1 with ⟨ao, cap, rfl, _, rfl⟩ | ⟨b, off, cap, rfl, h0, h1, h2', hc⟩
  · simp at h2; omega
  · omega
/-- an element of one cell: its address' rule, its cell, what it reads as -/
theorem slr_idx {α : Type} {P : Program} {R : World → List Value → α → Prop} {w : World} {v : Value} {xs : List α} (h : SlR 1 R w v xs) {t : TypeId} (ht : P.underlying t = some (.slice (P.elem t))) (hs : ∀ w, (sizeOf (P.elem t)).run P w = .ok 1 w) (i : Int) (h0 : 0 ≤ i) (h1 : i < xs.length) :
    ∃ (a : Addr) (c : Value), (∀ w', (Instr.indexAt t v (.int .i64 i)).run P w' = .ok (.pointer (some a)) w') ∧ w.cell? a = some c ∧ R w [c] (xs[i.toNat]'(by omega)) := by
  obtain ⟨rows, g1, g2, g3⟩ := h
  obtain ⟨ao, cap, rfl, hc, hn, hx⟩ := g1.form
  obtain ⟨hm, b, off, rfl, hcell⟩ := hx (by omega)
  have hi : i.toNat < rows.length := by omega
  obtain ⟨l1, l2⟩ := hcell i.toNat hi
  have e := l2 0 (by omega)
  have hr := g3 i.toNat (by omega)
  match hrow : rows.getD i.toNat [], l1 with
  | [c], _ =>
    rw [hrow] at e hr
    refine ⟨⟨b, off + i.toNat, none⟩, c, fun w' => ?_, by simpa using e, hr⟩
    rw [run_indexAt_slice (h := ht), if_pos ⟨h0, by omega⟩, hs]
    simp only [Result.andThen, Nat.mul_one]
    congr 3
    unfold Addr.add
    split
    · rename_i hz; rw [hz]; rfl
    · rfl
/-- what the call has built, one cell an element -/
theorem slr_own {α : Type} {R : World → List Value → α → Prop} {w : World} {base : Nat} {e : TypeId} {v : Value} {n : Nat} {cs : List Value} {xs : List α} (h : w.ownsRow base e 1 v n cs) (hl : cs.length = xs.length) (hR : ∀ i (h : i < xs.length), R w [cs[i]'(by omega)] xs[i]) : SlR 1 R w v xs := by
  obtain ⟨hl2, h⟩ := h
  have hn : n = cs.length := by omega
  refine ⟨cs.map (fun c => [c]), ?_, by simp [hl], fun i hi => by simpa [List.getD_eq_getElem?_getD, List.getElem?_eq_getElem (show i < cs.length by omega)] using hR i hi⟩
  rcases h with ⟨rfl, h0⟩ | ⟨g, cap, cur, rfl, hb, hg, hc, hm, hs, ht⟩
  · have : cs = [] := List.eq_nil_of_length_eq_zero (by omega)
    subst this
    exact Or.inl ⟨none, 0, rfl, fun _ => rfl, rfl⟩
  · rcases Nat.eq_zero_or_pos cs.length with h0 | h0
    · have : cs = [] := List.eq_nil_of_length_eq_zero h0
      subst this
      exact Or.inl ⟨_, _, by rw [hn]; rfl, (fun h => by cases h), rfl⟩
    · refine Or.inr ⟨g, 0, cap, by simp [hn], by simpa using h0, by simp; omega, hm, fun i hi => ?_⟩
      have hi2 : i < cs.length := by simpa using hi
      have e1 : (cs.map (fun c => [c])).getD i [] = [cs[i]] := by simp [List.getD_eq_getElem?_getD, List.getElem?_eq_getElem hi2]
      rw [e1]
      refine ⟨rfl, fun j hj => ?_⟩
      obtain rfl : j = 0 := by omega
      have e2 : (cur.toList.take (n * 1))[i]? = some cs[i] := by rw [ht, List.getElem?_eq_getElem hi2]
      rw [List.getElem?_take] at e2
      split at e2
      · simp [World.cell?, hg]
        simpa using e2
      · cases e2

/-- a slice value's length, for measures -/
def lenOf : Value → Nat | .slice _ n _ => n | _ => 0
theorem rd_lenOf {k : IntKind} {w : World} {v : Value} {xs : List Int} (h : Rd k w v xs) : lenOf v = xs.length := by
  obtain ⟨ao, cap, rfl, _⟩ := rd_form h
  rfl

/-- a slice that came in: its rows, each of which reads as something of the element's type -/
theorem slc_open {H : Type} {enc : TypeId × Value → H} {P : Program} {W : World} {t e : TypeId} {a : Option Addr} {len cap : Nat} {d : DataW H} {ps : List MemPlace} {sz fuel : Nat}
    (ht : P.underlying t = some (.slice e)) (hc : P.cellsOf e = sz) (hsz : 0 < sz) (h : DataW.trod enc P W 0 (fun _ => true) true fuel t [.slice a len cap] = some (d, ps)) :
    ∃ rows : List (List Value), SlC sz W (.slice a len cap) rows ∧ rows.length = len ∧ (d = .nil ∧ rows = [] ∨ ∃ ds zs, d = .slice ds zs ∧ ds.length = rows.length ∧
      ∀ i, i < rows.length → ∃ n y, DataW.trod enc P W 0 (fun _ => true) true n e (rows.getD i []) = some y ∧ ds[i]? = some y.1) := by
  rcases DataW.trod_slice ht h with ⟨h0, hx⟩ | ⟨x, l, c, elems, rest, n, _, hcs, hx, hb, hl, hm, hlen, hel, hsp, hns⟩
  · simp at h0 hx
    obtain ⟨rfl, rfl, rfl⟩ := h0
    exact ⟨[], Or.inl ⟨none, 0, rfl, fun _ => rfl, rfl⟩, rfl, Or.inl ⟨hx.1, rfl⟩⟩
  · simp at hcs
    obtain ⟨rfl, rfl, rfl⟩ := hcs
    rw [hc] at hel
    have each : ∀ i, i < len → ∃ cs y, W.cells? 0 (x.add (i * sz)) sz = some cs ∧ DataW.trod enc P W 0 (fun _ => true) true n e cs = some y ∧ elems[i]? = some y := by
      intro i hi
      have e1 := hel i hi
      rw [List.getElem?_eq_getElem (by omega)] at e1
      obtain ⟨cs, h1, h2⟩ := Option.bind_eq_some_iff.1 e1
      exact ⟨cs, _, h1, h2, List.getElem?_eq_getElem (by omega)⟩
    refine ⟨(List.range len).map (fun i => ((W.cells? 0 (x.add (i * sz)) sz).getD [])), ?_, by simp, Or.inr ⟨_, _, (Prod.mk.inj hx).1, by simp [hlen], fun i hi => ?_⟩⟩
    · rcases Nat.eq_zero_or_pos len with h0 | h0
      · subst h0
        exact Or.inl ⟨some x, cap, rfl, (fun h => by cases h), rfl⟩
      · obtain ⟨b, off, spot⟩ := x
        have hspot : spot = none := by
          obtain ⟨cs, y, h1, _, _⟩ := each 0 h0
          obtain ⟨_, g1, g2⟩ := World.cells?_some h1
          have g3 := g2 0 hsz
          rw [List.getElem?_eq_getElem (by omega)] at g3
          simpa [Addr.add] using World.cell?_spot g3
        subst hspot
        refine Or.inr ⟨b, off, cap, by simp, by simpa using h0, by simpa using hl, hm, fun i hi => ?_⟩
        have hi2 : i < len := by simpa using hi
        obtain ⟨cs, y, h1, _, _⟩ := each i hi2
        have e1 : ((List.range len).map (fun i => ((W.cells? 0 ((⟨b, off, none⟩ : Addr).add (i * sz)) sz).getD []))).getD i [] = cs := by
          simp [List.getD_eq_getElem?_getD, List.getElem?_range, hi2, h1]
        rw [e1]
        obtain ⟨_, g1, g2⟩ := World.cells?_some h1
        refine ⟨g1, fun j hj => ?_⟩
        rw [← g2 j hj]
        congr 1
        unfold Addr.add
        split
        · rename_i hz
          split
          · rename_i hz2; simp [hz, hz2]
          · simp [hz]
        · split
          · rename_i hz2; simp [hz2]
          · simp
    · have hi2 : i < len := by simpa using hi
      obtain ⟨cs, y, h1, h2, h3⟩ := each i hi2
      refine ⟨n, y, ?_, by rw [List.getElem?_map, h3]; rfl⟩
      have e1 : ((List.range len).map (fun i => ((W.cells? 0 (x.add (i * sz)) sz).getD []))).getD i [] = cs := by
        simp [List.getD_eq_getElem?_getD, List.getElem?_range, hi2, h1]
      rw [e1]
      exact h2

/-- texts -/
def strR (_ : World) (cs : List Value) (s : ByteArray) : Prop := cs = [.string s] ∧ s.size ≤ maxLen
/-- slices of bytes -/
def bytR (w : World) (cs : List Value) (xs : List Int) : Prop := ∃ v, cs = [v] ∧ Rd .u8 w v xs ∧ bytesL xs
theorem bytR_below {w w' : World} (g : Below w.heap.size w w') (cs : List Value) (xs : List Int) (h : bytR w cs xs) : bytR w' cs xs := by
  obtain ⟨v, h1, h2, h3⟩ := h
  exact ⟨v, h1, h2.below g, h3⟩
theorem wf_bytes {xs : List Int} (h : ∀ n ∈ xs, (Lit.int .u8 n).wf = true) : bytesL xs := by
  intro x hx
  have := h x hx
  simp [Lit.wf, IntKind.min, IntKind.max, IntKind.bits, IntKind.signed] at this
  omega
/-- from rows that each read as something to the list of what they read as -/
theorem choose_list {α β : Type} (rows : List β) (p : β → α → Prop) (h : ∀ r ∈ rows, ∃ x, p r x) : ∃ xs : List α, xs.length = rows.length ∧ ∀ i (h : i < rows.length) (g : i < xs.length), p rows[i] xs[i] := by
  induction rows with
  | nil => exact ⟨[], rfl, fun i h => by simp at h⟩
  | cons r rs ih =>
    obtain ⟨x, hx⟩ := h r (by simp)
    obtain ⟨xs, h1, h2⟩ := ih (fun r' hr => h r' (by simp [hr]))
    refine ⟨x :: xs, by simp [h1], fun i hi hg => ?_⟩
    cases i with
    | zero => exact hx
    | succ i => exact h2 i (by simpa using hi) (by simpa using hg)
theorem str_open {H : Type} {enc : TypeId × Value → H} {P : Program} {W : World} {t e : TypeId} {a : Option Addr} {len cap : Nat} {d : DataW H} {ps : List MemPlace}
    (ht : P.underlying t = some (.slice e)) (he : P.underlying e = some .string) (hc : P.cellsOf e = 1) (h : DataW.Trod enc P W 0 (fun _ => true) true t (.slice a len cap) d ps) :
    ∃ xs : List ByteArray, SlR 1 strR W (.slice a len cap) xs := by
  obtain ⟨fuel, hf⟩ := h
  obtain ⟨rows, h1, h2, h3⟩ := slc_open ht hc (by omega) (show DataW.trod enc P W 0 (fun _ => true) true fuel t [.slice a len cap] = some (d, ps) from hf)
  obtain ⟨xs, hx1, hx2⟩ := choose_list rows (fun r (s : ByteArray) => strR W r s) (fun r hr => by
    obtain ⟨i, hi, rfl⟩ := List.getElem_of_mem hr
    rcases h3 with ⟨_, rfl⟩ | ⟨ds, zs, _, _, h3⟩
    · simp at hi
    · obtain ⟨n, y, g, _⟩ := h3 i hi
      rw [List.getD_eq_getElem?_getD, List.getElem?_eq_getElem hi] at g
      obtain ⟨s, g1, _, g3⟩ := DataW.trod_string he g
      exact ⟨s, g1, g3⟩)
  refine ⟨xs, rows, h1, hx1.symm, fun i hi => ?_⟩
  rw [List.getD_eq_getElem?_getD, List.getElem?_eq_getElem (by omega)]
  exact hx2 i (by omega) hi
theorem byt_open {H : Type} {enc : TypeId × Value → H} {P : Program} {W : World} {t e b : TypeId} {a : Option Addr} {len cap : Nat} {d : DataW H} {ps : List MemPlace}
    (ht : P.underlying t = some (.slice e)) (he : P.underlying e = some (.slice b)) (hb : P.underlying b = some (.int .u8)) (hc : P.cellsOf e = 1) (hcb : P.cellsOf b = 1) (h : DataW.Trod enc P W 0 (fun _ => true) true t (.slice a len cap) d ps) :
    ∃ xs : List (List Int), SlR 1 bytR W (.slice a len cap) xs := by
  obtain ⟨fuel, hf⟩ := h
  obtain ⟨rows, h1, h2, h3⟩ := slc_open ht hc (by omega) (show DataW.trod enc P W 0 (fun _ => true) true fuel t [.slice a len cap] = some (d, ps) from hf)
  obtain ⟨xs, hx1, hx2⟩ := choose_list rows (fun r (s : List Int) => bytR W r s) (fun r hr => by
    obtain ⟨i, hi, rfl⟩ := List.getElem_of_mem hr
    rcases h3 with ⟨_, rfl⟩ | ⟨ds, zs, _, _, h3⟩
    · simp at hi
    · obtain ⟨n, y, g, _⟩ := h3 i hi
      rw [List.getD_eq_getElem?_getD, List.getElem?_eq_getElem hi] at g
      have g' : ∃ x l c, rows[i] = [.slice x l c] := by
        rcases DataW.trod_slice he g with ⟨h0, _⟩ | ⟨x, l, c, _, _, _, _, h0, _⟩
        · exact ⟨none, 0, 0, h0⟩
        · exact ⟨some x, l, c, h0⟩
      obtain ⟨x, l, c, g'⟩ := g'
      simp only [Option.getD_some] at g
      rw [g'] at g ⊢
      obtain ⟨zs, k1, k2, _⟩ := rd_open (k := .u8) (W := W) (a := x) (len := l) (cap := c) he hb hcb ⟨n, g⟩
      exact ⟨zs, _, rfl, k1, wf_bytes k2⟩)
  refine ⟨xs, rows, h1, hx1.symm, fun i hi => ?_⟩
  rw [List.getD_eq_getElem?_getD, List.getElem?_eq_getElem (by omega)]
  exact hx2 i (by omega) hi
end Go.Proofs.YtaiimfdcbdfbdaaDoor
