/-
  Texts of one proof, laid one behind the other: Sg St Sd Ow Ow2 Sgi Gen Stc.
-/
import Derived.Test.YthihkfimledccaaB1
import Derived.ChangeArms
import Derived.Deep.RegionLaw
import Derived.Laws.OwnMore
import Derived.Laws.ResultCell
import Derived.Shelf.Abstract
namespace Go.Proofs.Ythihkfimledccaa
open Go.ChangeShapes Go.WideShapes Go.ChangeAt Go.RowKit
set_option linter.unusedVariables false
set_option linter.unusedSimpArgs false

/-
  Slices of anything that is read: the rows of cells that a slice value has in a world, and what they read as. No Go text in sight.
-/
/-- the slice value v has these rows, of sz cells each -/
def SlC (sz : Nat) (w : World) (v : Value) (rows : List (List Value)) : Prop :=
  (∃ ao cap, v = .slice ao 0 cap ∧ (ao = none → cap = 0) ∧ rows = []) ∨
  ∃ b off cap, v = .slice (some ⟨b, off, none⟩) rows.length cap ∧ 0 < rows.length ∧ rows.length ≤ cap ∧ cap ≤ maxLen ∧
    ∀ i, i < rows.length → (rows.getD i []).length = sz ∧ ∀ j, j < sz → w.cell? ⟨b, off + i * sz + j, none⟩ = (rows.getD i [])[j]?
theorem SlC.below {sz : Nat} {w w' : World} {v : Value} {rows : List (List Value)} (h : SlC sz w v rows) (g : Below w.heap.size w w') : SlC sz w' v rows := by
  rcases h with h | ⟨b, off, cap, rfl, h0, h1, h2, hc⟩
  · exact Or.inl h
  · refine Or.inr ⟨b, off, cap, rfl, h0, h1, h2, fun i hi => ⟨(hc i hi).1, fun j hj => ?_⟩⟩
    have hl := (hc i hi).1
    have e := (hc i hi).2 j hj
    rw [List.getElem?_eq_getElem (by omega)] at e ⊢
    exact below_cell g e
theorem SlC.form {sz : Nat} {w : World} {v : Value} {rows : List (List Value)} (h : SlC sz w v rows) : ∃ ao cap, v = .slice ao rows.length cap ∧ rows.length ≤ cap ∧ (ao = none → cap = 0) ∧
    (0 < rows.length → cap ≤ maxLen ∧ ∃ b off, ao = some ⟨b, off, none⟩ ∧ ∀ i, i < rows.length → (rows.getD i []).length = sz ∧ ∀ j, j < sz → w.cell? ⟨b, off + i * sz + j, none⟩ = (rows.getD i [])[j]?) := by
  rcases h with ⟨ao, cap, rfl, h1, rfl⟩ | ⟨b, off, cap, rfl, h0, h1, h2, hc⟩
  · exact ⟨ao, cap, rfl, Nat.zero_le _, h1, fun h => by simp at h⟩
  · exact ⟨_, cap, rfl, h1, (fun h => by cases h), fun _ => ⟨h2, b, off, rfl, hc⟩⟩
/-- the slice value v reads as the list xs, each of its rows as R says -/
def SlR {α : Type} (sz : Nat) (R : World → List Value → α → Prop) (w : World) (v : Value) (xs : List α) : Prop :=
  ∃ rows, SlC sz w v rows ∧ rows.length = xs.length ∧ ∀ i (h : i < xs.length), R w (rows.getD i []) xs[i]
theorem SlR.below {α : Type} {sz : Nat} {R : World → List Value → α → Prop} {w w' : World} {v : Value} {xs : List α} (h : SlR sz R w v xs) (g : Below w.heap.size w w') (hR : ∀ cs x, R w cs x → R w' cs x) : SlR sz R w' v xs := by
  obtain ⟨rows, h1, h2, h3⟩ := h
  exact ⟨rows, h1.below g, h2, fun i hi => hR _ _ (h3 i hi)⟩
theorem SlR.nil {α : Type} {sz : Nat} {R : World → List Value → α → Prop} {w : World} : SlR sz R w (.slice none 0 0) ([] : List α) :=
  ⟨[], Or.inl ⟨none, 0, rfl, fun _ => rfl, rfl⟩, rfl, fun i h => by simp at h⟩
theorem slr_len {α : Type} {P : Program} {sz : Nat} {R : World → List Value → α → Prop} {w : World} {v : Value} {xs : List α} (h : SlR sz R w v xs) {t e : TypeId} (ht : P.underlying t = some (.slice e)) (ty : TypeId) (w' : World) :
    (Builtin.len_ #[t] ty #[v]).run P w' = .ok (.int .i64 xs.length) w' := by
  obtain ⟨rows, h1, h2, h3⟩ := h
  obtain ⟨ao, cap, rfl, _⟩ := h1.form
  simp [Builtin.len_, run_underlying ht, goInt, h2]
theorem slr_max {α : Type} {sz : Nat} {R : World → List Value → α → Prop} {w : World} {v : Value} {xs : List α} (h : SlR sz R w v xs) : xs.length ≤ maxLen := by
  obtain ⟨rows, h1, h2, h3⟩ := h
  rcases h1 with ⟨ao, cap, rfl, _, rfl⟩ | ⟨b, off, cap, rfl, h0, h1, h2', hc⟩
  · simp at h2; omega
  · omega
/-- an element of one cell: its address' rule, its cell, what it reads as -/
theorem slr_idx {α : Type} {P : Program} {R : World → List Value → α → Prop} {w : World} {v : Value} {xs : List α} (h : SlR 1 R w v xs) {t : TypeId} (ht : P.underlying t = some (.slice (P.elem t))) (hs : ∀ w, (sizeOf (P.elem t)).run P w = .ok 1 w) (i : Int) (h0 : 0 ≤ i) (h1 : i < xs.length) :
    ∃ (a : Addr) (c : Value), (∀ w', (Instr.indexAt t v (.int .i64 i)).run P w' = .ok (.pointer (some a)) w') ∧ w.cell? a = some c ∧ R w [c] (xs[i.toNat]'(by omega)) := by
  obtain ⟨rows, g1, g2, g3⟩ := h
  obtain ⟨ao, cap, rfl, hc, hn, hx⟩ := g1.form
  obtain ⟨hm, b, off, rfl, hcell⟩ := hx (by omega)
  have hi : i.toNat < rows.length := by omega
  obtain ⟨l1, l2⟩ := hcell i.toNat hi
  have e := l2 0 (by omega)
  have hr := g3 i.toNat (by omega)
  match hrow : rows.getD i.toNat [], l1 with
  | [c], _ =>
    rw [hrow] at e hr
    refine ⟨⟨b, off + i.toNat, none⟩, c, fun w' => ?_, by simpa using e, hr⟩
    rw [run_indexAt_slice (h := ht), if_pos ⟨h0, by omega⟩, hs]
    simp only [Result.andThen, Nat.mul_one]
    congr 3
    unfold Addr.add
    split
    · rename_i hz; rw [hz]; rfl
    · rfl
/-- what the call has built, one cell an element -/
theorem slr_own {α : Type} {R : World → List Value → α → Prop} {w : World} {base : Nat} {e : TypeId} {v : Value} {n : Nat} {cs : List Value} {xs : List α} (h : w.ownsRow base e 1 v n cs) (hl : cs.length = xs.length) (hR : ∀ i (h : i < xs.length), R w [cs[i]'(by omega)] xs[i]) : SlR 1 R w v xs := by
  obtain ⟨hl2, h⟩ := h
  have hn : n = cs.length := by omega
  refine ⟨cs.map (fun c => [c]), ?_, by simp [hl], fun i hi => by simpa [List.getD_eq_getElem?_getD, List.getElem?_eq_getElem (show i < cs.length by omega)] using hR i hi⟩
  rcases h with ⟨rfl, h0⟩ | ⟨g, cap, cur, rfl, hb, hg, hc, hm, hs, ht⟩
  · have : cs = [] := List.eq_nil_of_length_eq_zero (by omega)
    subst this
    exact Or.inl ⟨none, 0, rfl, fun _ => rfl, rfl⟩
  · rcases Nat.eq_zero_or_pos cs.length with h0 | h0
    · have : cs = [] := List.eq_nil_of_length_eq_zero h0
      subst this
      exact Or.inl ⟨_, _, by rw [hn]; rfl, (fun h => by cases h), rfl⟩
    · refine Or.inr ⟨g, 0, cap, by simp [hn], by simpa using h0, by simp; omega, hm, fun i hi => ?_⟩
      have hi2 : i < cs.length := by simpa using hi
      have e1 : (cs.map (fun c => [c])).getD i [] = [cs[i]] := by simp [List.getD_eq_getElem?_getD, List.getElem?_eq_getElem hi2]
      rw [e1]
      refine ⟨rfl, fun j hj => ?_⟩
      obtain rfl : j = 0 := by omega
      have e2 : (cur.toList.take (n * 1))[i]? = some cs[i] := by rw [ht, List.getElem?_eq_getElem hi2]
      rw [List.getElem?_take] at e2
      split at e2
      · simp [World.cell?, hg]
        simpa using e2
      · cases e2

/-- a slice value's length, for measures -/
def lenOf : Value → Nat | .slice _ n _ => n | _ => 0
theorem rd_lenOf {k : IntKind} {w : World} {v : Value} {xs : List Int} (h : Rd k w v xs) : lenOf v = xs.length := by
  obtain ⟨ao, cap, rfl, _⟩ := rd_form h
  rfl

/-- a slice that came in: its rows, each of which reads as something of the element's type -/
theorem slc_open {H : Type} {enc : TypeId × Value → H} {P : Program} {W : World} {t e : TypeId} {a : Option Addr} {len cap : Nat} {d : DataW H} {ps : List MemPlace} {sz fuel : Nat}
    (ht : P.underlying t = some (.slice e)) (hc : P.cellsOf e = sz) (hsz : 0 < sz) (h : DataW.trod enc P W 0 (fun _ => true) true fuel t [.slice a len cap] = some (d, ps)) :
    ∃ rows : List (List Value), SlC sz W (.slice a len cap) rows ∧ rows.length = len ∧ (d = .nil ∧ rows = [] ∨ ∃ ds zs, d = .slice ds zs ∧ ds.length = rows.length ∧
      ∀ i, i < rows.length → ∃ n y, DataW.trod enc P W 0 (fun _ => true) true n e (rows.getD i []) = some y ∧ ds[i]? = some y.1) := by
  rcases DataW.trod_slice ht h with ⟨h0, hx⟩ | ⟨x, l, c, elems, rest, n, _, hcs, hx, hb, hl, hm, hlen, hel, hsp, hns⟩
  · simp at h0 hx
    obtain ⟨rfl, rfl, rfl⟩ := h0
    exact ⟨[], Or.inl ⟨none, 0, rfl, fun _ => rfl, rfl⟩, rfl, Or.inl ⟨hx.1, rfl⟩⟩
  · simp at hcs
    obtain ⟨rfl, rfl, rfl⟩ := hcs
    rw [hc] at hel
    have each : ∀ i, i < len → ∃ cs y, W.cells? 0 (x.add (i * sz)) sz = some cs ∧ DataW.trod enc P W 0 (fun _ => true) true n e cs = some y ∧ elems[i]? = some y := by
      intro i hi
      have e1 := hel i hi
      rw [List.getElem?_eq_getElem (by omega)] at e1
      obtain ⟨cs, h1, h2⟩ := Option.bind_eq_some_iff.1 e1
      exact ⟨cs, _, h1, h2, List.getElem?_eq_getElem (by omega)⟩
    refine ⟨(List.range len).map (fun i => ((W.cells? 0 (x.add (i * sz)) sz).getD [])), ?_, by simp, Or.inr ⟨_, _, (Prod.mk.inj hx).1, by simp [hlen], fun i hi => ?_⟩⟩
    · rcases Nat.eq_zero_or_pos len with h0 | h0
      · subst h0
        exact Or.inl ⟨some x, cap, rfl, (fun h => by cases h), rfl⟩
      · obtain ⟨b, off, spot⟩ := x
        have hspot : spot = none := by
          obtain ⟨cs, y, h1, _, _⟩ := each 0 h0
          obtain ⟨_, g1, g2⟩ := World.cells?_some h1
          have g3 := g2 0 hsz
          rw [List.getElem?_eq_getElem (by omega)] at g3
          simpa [Addr.add] using World.cell?_spot g3
        subst hspot
        refine Or.inr ⟨b, off, cap, by simp, by simpa using h0, by simpa using hl, hm, fun i hi => ?_⟩
        have hi2 : i < len := by simpa using hi
        obtain ⟨cs, y, h1, _, _⟩ := each i hi2
        have e1 : ((List.range len).map (fun i => ((W.cells? 0 ((⟨b, off, none⟩ : Addr).add (i * sz)) sz).getD []))).getD i [] = cs := by
          simp [List.getD_eq_getElem?_getD, List.getElem?_range, hi2, h1]
        rw [e1]
        obtain ⟨_, g1, g2⟩ := World.cells?_some h1
        refine ⟨g1, fun j hj => ?_⟩
        rw [← g2 j hj]
        congr 1
        unfold Addr.add
        split
        · rename_i hz
          split
          · rename_i hz2; simp [hz, hz2]
          · simp [hz]
        · split
          · rename_i hz2; simp [hz2]
          · simp
    · have hi2 : i < len := by simpa using hi
      obtain ⟨cs, y, h1, h2, h3⟩ := each i hi2
      refine ⟨n, y, ?_, by rw [List.getElem?_map, h3]; rfl⟩
      have e1 : ((List.range len).map (fun i => ((W.cells? 0 (x.add (i * sz)) sz).getD []))).getD i [] = cs := by
        simp [List.getD_eq_getElem?_getD, List.getElem?_range, hi2, h1]
      rw [e1]
      exact h2

/-- texts -/
def strR (_ : World) (cs : List Value) (s : ByteArray) : Prop := cs = [.string s] ∧ s.size ≤ maxLen
/-- slices of bytes -/
def bytR (w : World) (cs : List Value) (xs : List Int) : Prop := ∃ v, cs = [v] ∧ Rd .u8 w v xs ∧ bytesL xs
theorem bytR_below {w w' : World} (g : Below w.heap.size w w') (cs : List Value) (xs : List Int) (h : bytR w cs xs) : bytR w' cs xs := by
  obtain ⟨v, h1, h2, h3⟩ := h
  exact ⟨v, h1, h2.below g, h3⟩
theorem wf_bytes {xs : List Int} (h : ∀ n ∈ xs, (Lit.int .u8 n).wf = true) : bytesL xs := by
  intro x hx
  have := h x hx
  simp [Lit.wf, IntKind.min, IntKind.max, IntKind.bits, IntKind.signed] at this
  omega
/-- from rows that each read as something to the list of what they read as -/
theorem choose_list {α β : Type} (rows : List β) (p : β → α → Prop) (h : ∀ r ∈ rows, ∃ x, p r x) : ∃ xs : List α, xs.length = rows.length ∧ ∀ i (h : i < rows.length) (g : i < xs.length), p rows[i] xs[i] := by
  induction rows with
  | nil => exact ⟨[], rfl, fun i h => by simp at h⟩
  | cons r rs ih =>
    obtain ⟨x, hx⟩ := h r (by simp)
    obtain ⟨xs, h1, h2⟩ := ih (fun r' hr => h r' (by simp [hr]))
    refine ⟨x :: xs, by simp [h1], fun i hi hg => ?_⟩
    cases i with
    | zero => exact hx
    | succ i => exact h2 i (by simpa using hi) (by simpa using hg)
theorem str_open {H : Type} {enc : TypeId × Value → H} {P : Program} {W : World} {t e : TypeId} {a : Option Addr} {len cap : Nat} {d : DataW H} {ps : List MemPlace}
    (ht : P.underlying t = some (.slice e)) (he : P.underlying e = some .string) (hc : P.cellsOf e = 1) (h : DataW.Trod enc P W 0 (fun _ => true) true t (.slice a len cap) d ps) :
    ∃ xs : List ByteArray, SlR 1 strR W (.slice a len cap) xs := by
  obtain ⟨fuel, hf⟩ := h
  obtain ⟨rows, h1, h2, h3⟩ := slc_open ht hc (by omega) (show DataW.trod enc P W 0 (fun _ => true) true fuel t [.slice a len cap] = some (d, ps) from hf)
  obtain ⟨xs, hx1, hx2⟩ := choose_list rows (fun r (s : ByteArray) => strR W r s) (fun r hr => by
    obtain ⟨i, hi, rfl⟩ := List.getElem_of_mem hr
    rcases h3 with ⟨_, rfl⟩ | ⟨ds, zs, _, _, h3⟩
    · simp at hi
    · obtain ⟨n, y, g, _⟩ := h3 i hi
      rw [List.getD_eq_getElem?_getD, List.getElem?_eq_getElem hi] at g
      obtain ⟨s, g1, _, g3⟩ := DataW.trod_string he g
      exact ⟨s, g1, g3⟩)
  refine ⟨xs, rows, h1, hx1.symm, fun i hi => ?_⟩
  rw [List.getD_eq_getElem?_getD, List.getElem?_eq_getElem (by omega)]
  exact hx2 i (by omega) hi
theorem byt_open {H : Type} {enc : TypeId × Value → H} {P : Program} {W : World} {t e b : TypeId} {a : Option Addr} {len cap : Nat} {d : DataW H} {ps : List MemPlace}
    (ht : P.underlying t = some (.slice e)) (he : P.underlying e = some (.slice b)) (hb : P.underlying b = some (.int .u8)) (hc : P.cellsOf e = 1) (hcb : P.cellsOf b = 1) (h : DataW.Trod enc P W 0 (fun _ => true) true t (.slice a len cap) d ps) :
    ∃ xs : List (List Int), SlR 1 bytR W (.slice a len cap) xs := by
  obtain ⟨fuel, hf⟩ := h
  obtain ⟨rows, h1, h2, h3⟩ := slc_open ht hc (by omega) (show DataW.trod enc P W 0 (fun _ => true) true fuel t [.slice a len cap] = some (d, ps) from hf)
  obtain ⟨xs, hx1, hx2⟩ := choose_list rows (fun r (s : List Int) => bytR W r s) (fun r hr => by
    obtain ⟨i, hi, rfl⟩ := List.getElem_of_mem hr
    rcases h3 with ⟨_, rfl⟩ | ⟨ds, zs, _, _, h3⟩
    · simp at hi
    · obtain ⟨n, y, g, _⟩ := h3 i hi
      rw [List.getD_eq_getElem?_getD, List.getElem?_eq_getElem hi] at g
      have g' : ∃ x l c, rows[i] = [.slice x l c] := by
        rcases DataW.trod_slice he g with ⟨h0, _⟩ | ⟨x, l, c, _, _, _, _, h0, _⟩
        · exact ⟨none, 0, 0, h0⟩
        · exact ⟨some x, l, c, h0⟩
      obtain ⟨x, l, c, g'⟩ := g'
      simp only [Option.getD_some] at g
      rw [g'] at g ⊢
      obtain ⟨zs, k1, k2, _⟩ := rd_open (k := .u8) (W := W) (a := x) (len := l) (cap := c) he hb hcb ⟨n, g⟩
      exact ⟨zs, _, rfl, k1, wf_bytes k2⟩)
  refine ⟨xs, rows, h1, hx1.symm, fun i hi => ?_⟩
  rw [List.getD_eq_getElem?_getD, List.getElem?_eq_getElem (by omega)]
  exact hx2 i (by omega) hi

/-
  Rows of structs: appended to a row of the call's own, and read from it. No Go text in sight.
-/
/-- append of one row of cells onto a row of the call's own -/
theorem wpList_append_row {P : Program} {w : World} {ops : Array Oper} {rest : List Oper} {o : Oper} {a : Act} {Q : Exit → Act → World → Prop} (hgd : o.guard = none) (s x : Operand) (t : TypeId)
    (ho : o.op = .call { callee := .builtin .append, args := #[s, x], argTypes := #[t, t] })
    (base : Nat) (e : TypeId) (i : TypeInfo) (z : Value) (sz bytes : Nat) (ht : P.underlying t = some (.slice e)) (hi : P.info? e = some i) (hz : i.zero = some z) (hsize : i.size = sz) (hby : i.bytes = bytes) (hzs : z.cells.size = sz) (hsz : 0 < sz)
    (v : Value) (n : Nat) (cs : List Value) (hs : a.eval s = v) (hown : w.ownsRow base e sz v n cs)
    (b : Nat) (row : List Value) (hx : a.eval x = .slice (some ⟨b, 0, none⟩) 1 1) (hl : row.length = sz) (hc : ∀ j u, row[j]? = some u → w.cell? ⟨b, j, none⟩ = some u) (h1 : ∀ u ∈ row, u.oneCell' = true)
    (h63 : n + 1 ≤ maxLen) (hbytes : (n + 1) * bytes ≤ 140737488355328) (hbase : base ≤ w.heap.size)
    (h : ∀ v' w', w'.ownsRow base e sz v' (n + 1) (cs ++ row) → w.grownBy w' v.ownBlock → wpList P ops Q rest (a.put o.dst v') w') : wpList P ops Q (o :: rest) a w := by
  refine wpList_plain hgd fun _ hK => ?_
  refine wp_append_own w s x t ho base e i z sz bytes ht hi hz hsize hby hzs hsz v n cs hs hown ⟨b, 0, none⟩ 1 1 row hx (by omega) ?_ h1 h63 hbytes hbase ?_
  · intro j u hj
    have := hc j u hj
    by_cases hz : j = 0
    · subst hz; simpa [Addr.add] using this
    · simpa [Addr.add, hz] using this
  · intro v' w' h2 h3 _
    exact hK _ _ (h v' w' h2 h3)
/-- append of a slice that is read, as one step of a region that draws its order -/
theorem step_append_rd {P : Program} {ops : Array Oper} {w : World} {k : IntKind} {o : Oper} {a : Act} {K : Act → World → Prop} {Q : Exit → Act → World → Prop} {E : Prop} (hgd : o.guard = none) (s x : Operand) (t : TypeId)
    (ho : o.op = .call { callee := .builtin .append, args := #[s, x], argTypes := #[t, t] })
    (base : Nat) (e : TypeId) (i : TypeInfo) (bytes : Nat) (ht : P.underlying t = some (.slice e)) (hi : P.info? e = some i) (hz : i.zero = some (.int k 0)) (hsize : i.size = 1) (hby : i.bytes = bytes)
    (v : Value) (ys : List Int) (hs : a.eval s = v) (hown : w.ownsRow base e 1 v ys.length (ys.map (Value.int k)))
    (vx : Value) (xs : List Int) (hx : a.eval x = vx) (hr : Rd k w vx xs)
    (h63 : ys.length + xs.length ≤ maxLen) (hbytes : (ys.length + xs.length) * bytes ≤ 140737488355328) (hbase : base ≤ w.heap.size)
    (h : ∀ v' w', w'.ownsRow base e 1 v' (ys ++ xs).length ((ys ++ xs).map (Value.int k)) → w.grownBy w' v.ownBlock → K (a.put o.dst v') w') :
    if Region.wanted o (yielded ops a.tmps) = true then Oper.wp P o a w K Q else E := by
  rw [if_pos (by simp [Region.wanted, hgd])]
  exact wp_append_rd s x t ho base e i bytes ht hi hz hsize hby v ys hs hown vx xs hx hr h63 hbytes hbase h
/-- a block that was laid of a row -/
theorem alloc_row (w : World) (row : List Value) (T : TypeId) : ∀ j u, row[j]? = some u → (w.alloc (.cells row.toArray T)).cell? ⟨w.heap.size, j, none⟩ = some u := by
  intro j u h
  rw [World.cell?_alloc_new]
  simpa using h
theorem alloc_rowS (w : World) (a : Addr) (v : Value) (row : List Value) (T : TypeId) : ∀ j u, row[j]? = some u → ((w.setCell a v).alloc (.cells row.toArray T)).cell? ⟨w.heap.size, j, none⟩ = some u := by
  intro j u h
  have := alloc_row (w.setCell a v) row T j u h
  rwa [show (w.setCell a v).heap.size = w.heap.size by simp [World.setCell]] at this
theorem alloc_rowSS (w : World) (a b : Addr) (v u' : Value) (row : List Value) (T : TypeId) : ∀ j u, row[j]? = some u → (((w.setCell a v).setCell b u').alloc (.cells row.toArray T)).cell? ⟨w.heap.size, j, none⟩ = some u := by
  intro j u h
  have := alloc_row ((w.setCell a v).setCell b u') row T j u h
  rwa [show ((w.setCell a v).setCell b u').heap.size = w.heap.size by simp [World.setCell]] at this
/-- a variable that is boxed: what is there behind calls that leave all that is old -/
theorem box_at {w w' : World} {cs : Array Value} {T : TypeId} (h : Below (w.alloc (.cells cs T)).heap.size (w.alloc (.cells cs T)) w') :
    (∀ j u, cs[j]? = some u → w'.cell? ⟨w.heap.size, j, none⟩ = some u) ∧ (∀ j, w'.frozen? ⟨w.heap.size, j, none⟩ = false) ∧ Below w.heap.size w w' := by
  have hb : w'.heap[w.heap.size]? = some (.cells cs T (0, 0)) := by
    rw [h.block w.heap.size (by rw [size_al]; omega)]
    exact heap_alloc_new w _
  refine ⟨fun j u hj => ?_, fun j => ?_, ?_⟩
  · simp [World.cell?, hb, hj]
  · simp [World.frozen?, hb]
  · exact below_trans (box_below w _) h
/-- what the call has built of rows reads as the list that they were built of -/
theorem slr_rows {α : Type} {R : World → List Value → α → Prop} {w : World} {base : Nat} {e : TypeId} {v : Value} {n sz : Nat} {xs : List α} (f : α → List Value) (hf : ∀ x ∈ xs, (f x).length = sz) (hsz : 0 < sz) (h : w.ownsRow base e sz v n (xs.flatMap f)) (hR : ∀ x ∈ xs, R w (f x) x) : SlR sz R w v xs := by
  obtain ⟨hl, h⟩ := h
  have hlen : ∀ ys : List α, (∀ x ∈ ys, (f x).length = sz) → (ys.flatMap f).length = ys.length * sz := by
    intro ys
    induction ys with
    | nil => intro _; simp
    | cons y ys ih =>
      intro hy
      rw [List.flatMap_cons, List.length_append, ih (fun x hx => hy x (by simp [hx])), hy y (by simp), List.length_cons, Nat.add_mul, Nat.one_mul]
      omega
  have hn : n = xs.length := by
    rw [hlen xs hf] at hl
    exact (Nat.eq_of_mul_eq_mul_right hsz hl).symm
  have hat : ∀ (ys : List α) (i : Nat) (hi : i < ys.length), (∀ x ∈ ys, (f x).length = sz) → ∀ j, j < sz → (ys.flatMap f)[i * sz + j]? = (f ys[i])[j]? := by
    intro ys
    induction ys with
    | nil => intro i hi; simp at hi
    | cons y ys ih =>
      intro i hi hy j hj
      have hy0 := hy y (by simp)
      rw [List.flatMap_cons]
      cases i with
      | zero =>
        rw [List.getElem?_append_left (by omega)]
        simp
      | succ i =>
        rw [Nat.add_mul, Nat.one_mul, List.getElem?_append_right (by omega), show i * sz + sz + j - (f y).length = i * sz + j by omega]
        exact ih i (by simpa using hi) (fun x hx => hy x (by simp [hx])) j hj
  refine ⟨xs.map f, ?_, by simp, fun i hi => ?_⟩
  · rcases h with ⟨rfl, h0⟩ | ⟨g, cap, cur, rfl, hb, hg, hc, hm, hs, ht⟩
    · have : xs = [] := List.eq_nil_of_length_eq_zero (by omega)
      subst this
      exact Or.inl ⟨none, 0, rfl, fun _ => rfl, rfl⟩
    · rcases Nat.eq_zero_or_pos xs.length with h0 | h0
      · have : xs = [] := List.eq_nil_of_length_eq_zero h0
        subst this
        exact Or.inl ⟨_, _, by rw [hn]; rfl, (fun h => by cases h), rfl⟩
      · refine Or.inr ⟨g, 0, cap, by rw [hn, List.length_map], by rw [List.length_map]; exact h0, by rw [List.length_map]; omega, hm, fun i hi => ?_⟩
        have hi2 : i < xs.length := by simpa using hi
        have e1 : (xs.map f).getD i [] = f xs[i] := by simp [List.getD_eq_getElem?_getD, List.getElem?_eq_getElem hi2]
        rw [e1]
        refine ⟨hf _ (List.getElem_mem hi2), fun j hj => ?_⟩
        have e2 := hat xs i hi2 hf j hj
        have hlt : i * sz + j < n * sz := by
          have : (i + 1) * sz ≤ n * sz := Nat.mul_le_mul_right _ (by omega)
          rw [Nat.add_mul, Nat.one_mul] at this
          omega
        rw [← ht, List.getElem?_take, if_pos hlt] at e2
        rw [← e2]
        simp [World.cell?, hg]
  · have e1 : (xs.map f).getD i [] = f xs[i] := by simp [List.getD_eq_getElem?_getD, List.getElem?_eq_getElem hi]
    rw [e1]
    exact hR _ (List.getElem_mem hi)

/-- an element of three cells: its address' rule, its cells, what it reads as -/
theorem slr_idx3 {α : Type} {P : Program} {R : World → List Value → α → Prop} {w : World} {v : Value} {xs : List α} (h : SlR 3 R w v xs) {t : TypeId} (ht : P.underlying t = some (.slice (P.elem t))) (hs : ∀ w, (sizeOf (P.elem t)).run P w = .ok 3 w) (i : Nat) (h1 : i < xs.length) :
    ∃ (b o : Nat) (c0 c1 c2 : Value), (∀ w', (Instr.indexAt t v (.int .i64 (i : Int))).run P w' = .ok (.pointer (some ⟨b, o, none⟩)) w') ∧ w.cell? ⟨b, o, none⟩ = some c0 ∧ w.cell? ⟨b, o + 1, none⟩ = some c1 ∧ w.cell? ⟨b, o + 2, none⟩ = some c2 ∧ R w [c0, c1, c2] xs[i] := by
  obtain ⟨rows, g1, g2, g3⟩ := h
  obtain ⟨ao, cap, rfl, hc, hn, hx⟩ := g1.form
  obtain ⟨hm, b, off, rfl, hcell⟩ := hx (by omega)
  obtain ⟨l1, l2⟩ := hcell i (by omega)
  have e0 := l2 0 (by omega)
  have e1 := l2 1 (by omega)
  have e2 := l2 2 (by omega)
  have hr := g3 i h1
  match hrow : rows.getD i [], l1 with
  | [c0, c1, c2], _ =>
    rw [hrow] at e0 e1 e2 hr
    refine ⟨b, off + i * 3, c0, c1, c2, fun w' => ?_, by simpa using e0, by simpa using e1, by simpa using e2, hr⟩
    rw [run_indexAt_slice (h := ht), if_pos ⟨by omega, by omega⟩, hs]
    simp only [Result.andThen, Int.toNat_natCast]
    congr 3
    unfold Addr.add
    split
    · rename_i hz; rw [hz]; rfl
    · rfl

/-
  Blocks that stand in a world: variables that are boxed, results kept in memory. No Go text in sight.
-/
theorem own_le {w : World} {b b' : Nat} {e : TypeId} {sz : Nat} {v : Value} {n : Nat} {cs : List Value} (h : b ≤ b') (o : w.ownsRow b' e sz v n cs) : w.ownsRow b e sz v n cs := by
  obtain ⟨hl, o⟩ := o
  refine ⟨hl, ?_⟩
  rcases o with o | ⟨g, cap, cur, rfl, hb, o⟩
  · exact Or.inl o
  · exact Or.inr ⟨g, cap, cur, rfl, by omega, o⟩
theorem own_form {w : World} {b : Nat} {e : TypeId} {sz : Nat} {v : Value} {n : Nat} {cs : List Value} (o : w.ownsRow b e sz v n cs) : ∃ ao cap, v = .slice ao n cap := by
  obtain ⟨hl, o⟩ := o
  rcases o with ⟨rfl, h0⟩ | ⟨g, cap, cur, rfl, o⟩
  · exact ⟨none, 0, by rw [h0]⟩
  · exact ⟨_, _, rfl⟩
theorem alloc_row2 (w : World) (A : Obj) (row : List Value) (T : TypeId) : ∀ j u, row[j]? = some u → ((w.alloc A).alloc (.cells row.toArray T)).cell? ⟨w.heap.size + 1, j, none⟩ = some u := by
  intro j u h
  have := alloc_row (w.alloc A) row T j u h
  rwa [size_al] at this
/-- a block that stands in a world: its cells, and that they may be written -/
def Stands (w : World) (b : Nat) (cs : Array Value) (T : TypeId) : Prop := w.heap[b]? = some (.cells cs T (0, 0))
theorem stands_new (w : World) (cs : Array Value) (T : TypeId) : Stands (w.alloc (.cells cs T)) w.heap.size cs T := heap_alloc_new w _
theorem Stands.below {w w' : World} {b : Nat} {cs : Array Value} {T : TypeId} (h : Stands w b cs T) (g : Below w.heap.size w w') : Stands w' b cs T := by
  unfold Stands at h ⊢
  rw [g.block b (Array.getElem?_eq_some_iff.1 h).1]
  exact h
theorem Stands.cell {w : World} {b : Nat} {cs : Array Value} {T : TypeId} (h : Stands w b cs T) (j : Nat) (u : Value) (hj : cs[j]? = some u) : w.cell? ⟨b, j, none⟩ = some u := by
  unfold Stands at h
  simp [World.cell?, h, hj]
theorem Stands.free {w : World} {b : Nat} {cs : Array Value} {T : TypeId} (h : Stands w b cs T) (j : Nat) : w.frozen? ⟨b, j, none⟩ = false := by
  unfold Stands at h
  simp [World.frozen?, h]
theorem Stands.set {w : World} {b : Nat} {cs : Array Value} {T : TypeId} (h : Stands w b cs T) (j : Nat) (u : Value) : Stands (w.setCell ⟨b, j, none⟩ u) b (cs.setIfInBounds j u) T := by
  unfold Stands at h ⊢
  have hb := (Array.getElem?_eq_some_iff.1 h).1
  have e : w.heap[b] = .cells cs T (0, 0) := (Array.getElem?_eq_some_iff.1 h).2
  simp only [World.setCell]
  rw [Array.getElem?_modify, if_pos rfl, Array.getElem?_eq_getElem hb, e]
  rfl
theorem Stands.other {w : World} {b b' : Nat} {cs : Array Value} {T : TypeId} (h : Stands w b cs T) (j : Nat) (u : Value) (hb : b ≠ b') : Stands (w.setCell ⟨b', j, none⟩ u) b cs T := by
  unfold Stands at h ⊢
  simp only [World.setCell]
  rw [Array.getElem?_modify, if_neg (by omega)]
  exact h
theorem own_other {w : World} {b : Nat} {e : TypeId} {v : Value} {n : Nat} {cs : List Value} (o : w.ownsRow b e 1 v n cs) (g : Nat) (j : Nat) (u : Value) (hg : g < b) : (w.setCell ⟨g, j, none⟩ u).ownsRow b e 1 v n cs := by
  obtain ⟨hl, o⟩ := o
  refine ⟨hl, ?_⟩
  rcases o with o | ⟨g', cap, cur, rfl, hb, h1, o⟩
  · exact Or.inl o
  · refine Or.inr ⟨g', cap, cur, rfl, hb, ?_, o⟩
    simp only [World.setCell]
    rw [Array.getElem?_modify, if_neg (by omega)]
    exact h1
theorem below_set {w w' : World} (h : Below w.heap.size w w') (g j : Nat) (u : Value) (hg : w.heap.size ≤ g) : Below w.heap.size w (w'.setCell ⟨g, j, none⟩ u) := by
  refine ⟨h.os, h.tape, h.output, by simpa [World.setCell] using h.size, fun k hk => ?_⟩
  rw [← h.block k hk]
  simp only [World.setCell]
  rw [Array.getElem?_modify, if_neg (by omega)]
/-- a block of another kind lies apart from a row of the call's own -/
theorem stands_apart {w : World} {b : Nat} {cs : Array Value} {T : TypeId} {base : Nat} {e : TypeId} {v : Value} {n sz : Nat} {xs : List Value} (h : Stands w b cs T) (o : w.ownsRow base e sz v n xs) (ht : ¬ e = T) : some b ≠ v.ownBlock := by
  obtain ⟨hl, o⟩ := o
  rcases o with ⟨rfl, h0⟩ | ⟨g, cap, cur, rfl, hb, hg, o⟩
  · simp [Value.ownBlock]
  · intro hh
    simp [Value.ownBlock] at hh
    subst hh
    unfold Stands at h
    rw [h] at hg
    simp at hg
    exact ht hg.2.symm
theorem Stands.grown {w w' : World} {b : Nat} {cs : Array Value} {T : TypeId} {row : Option Nat} (h : Stands w b cs T) (g : w.grownBy w' row) (hr : some b ≠ row) : Stands w' b cs T := by
  unfold Stands at h ⊢
  rw [g.block b (Array.getElem?_eq_some_iff.1 h).1 hr]
  exact h

/-
  Rows that the call has built, whose cells may be slices of the call's own themselves: what stands when another row grows or is written, by the kinds of the blocks. No Go text in sight.
-/
/-- all old blocks stand but perhaps one of kind T -/
def Kept (T : TypeId) (w w' : World) : Prop := ∃ row, w.grownBy w' row ∧ ∀ g, row = some g → ∃ cur fr, w.heap[g]? = some (.cells cur T fr)
theorem grown_none {w w' : World} (h : Below w.heap.size w w') : w.grownBy w' none := ⟨h.os, h.tape, h.output, h.size, fun k hk _ => h.block k hk⟩
theorem Kept.below {T : TypeId} {w w' : World} (h : Below w.heap.size w w') : Kept T w w' := ⟨none, grown_none h, fun g hg => by cases hg⟩
theorem Kept.own {base : Nat} {e : TypeId} {sz : Nat} {w w' : World} {v : Value} {n : Nat} {cs : List Value} (o : w.ownsRow base e sz v n cs) (g : w.grownBy w' v.ownBlock) : Kept e w w' := by
  refine ⟨_, g, fun k hk => ?_⟩
  obtain ⟨_, o⟩ := o
  rcases o with ⟨rfl, _⟩ | ⟨k', cap, cur, rfl, _, h1, _⟩
  · simp [Value.ownBlock] at hk
  · simp [Value.ownBlock] at hk
    subst hk
    exact ⟨cur, _, h1⟩
theorem Kept.stands {b : Nat} {cs : Array Value} {T : TypeId} {w w' : World} (h : Stands w b cs T) (g : w.grownBy w' (some b)) : Kept T w w' :=
  ⟨_, g, fun k hk => by cases hk; exact ⟨cs, _, h⟩⟩
/-- what does not lie in blocks of kind T -/
def Apt {α : Type} (T : TypeId) (O : World → List Value → α → Prop) : Prop := ∀ w w' cs x, Kept T w w' → O w cs x → O w' cs x
theorem own_kept {T : TypeId} {w w' : World} (k : Kept T w w') {base : Nat} {e : TypeId} {sz : Nat} {v : Value} {n : Nat} {cs : List Value} (hne : ¬ e = T) (o : w.ownsRow base e sz v n cs) : w'.ownsRow base e sz v n cs := by
  obtain ⟨row, g, hr⟩ := k
  obtain ⟨hl, o⟩ := o
  refine ⟨hl, ?_⟩
  rcases o with o | ⟨b, cap, cur, rfl, hb, h1, o⟩
  · exact Or.inl o
  · refine Or.inr ⟨b, cap, cur, rfl, hb, ?_, o⟩
    rw [g.block b (Array.getElem?_eq_some_iff.1 h1).1 (fun e0 => ?_)]
    · exact h1
    · obtain ⟨cur', fr, h2⟩ := hr b e0.symm
      rw [h1] at h2
      simp at h2
      exact hne h2.2.1
theorem stands_kept {T : TypeId} {w w' : World} (k : Kept T w w') {b : Nat} {cs : Array Value} {e : TypeId} (hne : ¬ e = T) (h : Stands w b cs e) : Stands w' b cs e := by
  obtain ⟨row, g, hr⟩ := k
  unfold Stands at h ⊢
  rw [g.block b (Array.getElem?_eq_some_iff.1 h).1 (fun e0 => ?_)]
  · exact h
  · obtain ⟨cur', fr, h2⟩ := hr b e0.symm
    rw [h] at h2
    simp at h2
    exact hne h2.2.1
/-- rows of sz cells of kind e, each as O says -/
def OwnR {α : Type} (e : TypeId) (sz : Nat) (O : World → List Value → α → Prop) (base : Nat) (w : World) (v : Value) (xs : List α) : Prop :=
  ∃ rows : List (List Value), rows.length = xs.length ∧ (∀ r ∈ rows, r.length = sz) ∧ w.ownsRow base e sz v xs.length rows.flatten ∧ ∀ i (h : i < xs.length), O w (rows.getD i []) xs[i]
theorem OwnR.nil {α : Type} (e : TypeId) (sz : Nat) (O : World → List Value → α → Prop) (base : Nat) (w : World) : OwnR e sz O base w (.slice none 0 0) ([] : List α) := ⟨[], rfl, by simp, World.ownsRow_nil _ _ _ _, fun i hi => by simp at hi⟩
theorem OwnR.row {α : Type} {e : TypeId} {sz : Nat} {O : World → List Value → α → Prop} {base : Nat} {w : World} {v : Value} {xs : List α} (h : OwnR e sz O base w v xs) : ∃ cs, w.ownsRow base e sz v xs.length cs := by
  obtain ⟨rows, _, _, h3, _⟩ := h
  exact ⟨_, h3⟩
theorem OwnR.read {α : Type} {e : TypeId} {sz : Nat} {O R : World → List Value → α → Prop} {base : Nat} {w : World} {v : Value} {xs : List α} (hsz : 0 < sz) (h : OwnR e sz O base w v xs) (hR : ∀ cs x, O w cs x → R w cs x) : SlR sz R w v xs := by
  obtain ⟨rows, h1, h2, h3, h4⟩ := h
  have h5 : SlR sz (fun _ cs (r : List Value) => cs = r) w v rows := slr_rows (n := xs.length) (e := e) (base := base) id h2 hsz (by simpa [List.flatMap_id] using h3) (fun _ _ => rfl)
  obtain ⟨rows', k1, k2, k3⟩ := h5
  have e0 : rows' = rows := by
    apply List.ext_getElem k2
    intro i hi hj
    have := k3 i hj
    rw [List.getD_eq_getElem?_getD, List.getElem?_eq_getElem hi] at this
    simpa using this
  subst e0
  exact ⟨rows', k1, h1, fun i hi => hR _ _ (h4 i hi)⟩
theorem OwnR.kept {α : Type} {T e : TypeId} {sz : Nat} {O : World → List Value → α → Prop} {base : Nat} {w w' : World} {v : Value} {xs : List α} (h : OwnR e sz O base w v xs) (k : Kept T w w') (hne : ¬ e = T) (ha : Apt T O) : OwnR e sz O base w' v xs := by
  obtain ⟨rows, h1, h2, h3, h4⟩ := h
  exact ⟨rows, h1, h2, own_kept k hne h3, fun i hi => ha _ _ _ _ k (h4 i hi)⟩
theorem OwnR.apt {α : Type} {T e : TypeId} {sz : Nat} {O : World → List Value → α → Prop} {base : Nat} (hne : ¬ e = T) (ha : Apt T O) : ∀ w w' v xs, Kept T w w' → OwnR e sz O base w v xs → OwnR e sz O base w' v xs := fun w w' v xs k h => h.kept k hne ha
/-- behind a call that leaves all that is old -/
theorem OwnR.below {α : Type} {e : TypeId} {sz : Nat} {O : World → List Value → α → Prop} {base : Nat} {w w' : World} {v : Value} {xs : List α} (h : OwnR e sz O base w v xs) (g : Below w.heap.size w w') (hO : ∀ cs x, O w cs x → O w' cs x) : OwnR e sz O base w' v xs := by
  obtain ⟨rows, h1, h2, ⟨hl, h3⟩, h4⟩ := h
  refine ⟨rows, h1, h2, ⟨hl, ?_⟩, fun i hi => hO _ _ (h4 i hi)⟩
  rcases h3 with h | ⟨b, cap, cur, rfl, hb, hg, hc⟩
  · exact Or.inl h
  · refine Or.inr ⟨b, cap, cur, rfl, hb, ?_, hc⟩
    rw [g.block b (Array.getElem?_eq_some_iff.1 hg).1]
    exact hg
theorem OwnR.le {α : Type} {e : TypeId} {sz : Nat} {O O' : World → List Value → α → Prop} {base base' : Nat} {w : World} {v : Value} {xs : List α} (hb : base' ≤ base) (h : OwnR e sz O base w v xs) (hO : ∀ cs x, O w cs x → O' w cs x) : OwnR e sz O' base' w v xs := by
  obtain ⟨rows, h1, h2, h3, h4⟩ := h
  exact ⟨rows, h1, h2, own_le hb h3, fun i hi => hO _ _ (h4 i hi)⟩
/-- a row more -/
theorem OwnR.snoc {α : Type} {e : TypeId} {sz : Nat} {O : World → List Value → α → Prop} {base : Nat} {w w' : World} {U v' : Value} {xs : List α} {x : α} {row : List Value} {rows : List (List Value)} (ha : Apt e O) (h1 : rows.length = xs.length) (h2 : ∀ r ∈ rows, r.length = sz) (h3 : w.ownsRow base e sz U xs.length rows.flatten) (h4 : ∀ i (h : i < xs.length), O w (rows.getD i []) xs[i])
    (hr : row.length = sz) (hx : O w row x) (o : w'.ownsRow base e sz v' (xs.length + 1) (rows.flatten ++ row)) (g : w.grownBy w' U.ownBlock) : OwnR e sz O base w' v' (xs ++ [x]) := by
  have k := Kept.own h3 g
  refine ⟨rows ++ [row], by simp [h1], fun r hm => ?_, by simpa using o, fun i hi => ?_⟩
  · rcases List.mem_append.1 hm with hm | hm
    · exact h2 r hm
    · simp at hm; subst hm; exact hr
  · by_cases hlt : i < xs.length
    · rw [List.getD_eq_getElem?_getD, List.getElem?_append_left (by omega), List.getElem_append_left hlt, ← List.getD_eq_getElem?_getD]
      exact ha _ _ _ _ k (h4 i hlt)
    · have hi2 : i = xs.length := by simp at hi; omega
      subst hi2
      rw [List.getD_eq_getElem?_getD, List.getElem?_append_right (by omega), h1]
      simp
      exact ha _ _ _ _ k hx
theorem flat_set {α : Type} : ∀ (rows : List (List α)) (sz i j : Nat) (u : α), (∀ r ∈ rows, r.length = sz) → i < rows.length → j < sz → rows.flatten.set (i * sz + j) u = (rows.set i ((rows.getD i []).set j u)).flatten
  | [], sz, i, j, u, _, hi, _ => by simp at hi
  | r :: rows, sz, 0, j, u, h, hi, hj => by
    have hr := h r (by simp)
    simp only [List.flatten_cons, Nat.zero_mul, Nat.zero_add, List.set_cons_zero, List.getD_cons_zero]
    rw [List.set_append_left _ _ (by omega)]
  | r :: rows, sz, i + 1, j, u, h, hi, hj => by
    have hr := h r (by simp)
    have ih := flat_set rows sz i j u (fun x hx => h x (by simp [hx])) (by simpa using hi) hj
    simp only [List.flatten_cons, List.set_cons_succ, List.getD_cons_succ]
    rw [List.set_append_right _ _ (by rw [hr, Nat.add_mul]; omega), hr, show (i + 1) * sz + j - sz = i * sz + j by rw [Nat.add_mul]; omega, ih]
/-- a cell of a row written -/
theorem OwnR.set {α : Type} {e : TypeId} {sz : Nat} {O : World → List Value → α → Prop} {base : Nat} {w : World} {g n cap : Nat} {xs : List α} {rows : List (List Value)} (ha : Apt e O) (h1 : rows.length = xs.length) (h2 : ∀ r ∈ rows, r.length = sz) (h3 : w.ownsRow base e sz (.slice (some ⟨g, 0, none⟩) n cap) xs.length rows.flatten) (h4 : ∀ i (h : i < xs.length), O w (rows.getD i []) xs[i])
    (i j : Nat) (hi : i < xs.length) (hj : j < sz) (u : Value) (x : α) (hx : O (w.setCell ⟨g, i * sz + j, none⟩ u) ((rows.getD i []).set j u) x) : OwnR e sz O base (w.setCell ⟨g, i * sz + j, none⟩ u) (.slice (some ⟨g, 0, none⟩) n cap) (xs.set i x) ∧ Kept e w (w.setCell ⟨g, i * sz + j, none⟩ u) := by
  have hn : n = xs.length := by
    obtain ⟨_, h3⟩ := h3
    rcases h3 with ⟨h, _⟩ | ⟨g', cap', cur, h, _⟩
    · simp at h
    · simp at h; exact h.2.1
  subst hn
  obtain ⟨s1, s2⟩ := h3.stored (i * sz + j) u
  have k : Kept e w (w.setCell ⟨g, i * sz + j, none⟩ u) := Kept.own (v := .slice (some ⟨g, 0, none⟩) xs.length cap) h3 (by simpa [Value.ownBlock] using s2)
  rw [flat_set rows sz i j u h2 (by omega) hj] at s1
  refine ⟨⟨rows.set i ((rows.getD i []).set j u), by simp [h1], fun r hm => ?_, by simpa using s1, fun m hm => ?_⟩, k⟩
  · rcases List.mem_or_eq_of_mem_set hm with hm | rfl
    · exact h2 r hm
    · rw [List.length_set, List.getD_eq_getElem?_getD, List.getElem?_eq_getElem (by omega)]
      exact h2 _ (List.getElem_mem _)
  · rw [List.length_set] at hm
    rw [List.getElem_set]
    by_cases him : i = m
    · subst him
      rw [if_pos rfl, List.getD_eq_getElem?_getD, List.getElem?_set_self (by omega)]
      exact hx
    · rw [if_neg him, List.getD_eq_getElem?_getD, List.getElem?_set_ne him, ← List.getD_eq_getElem?_getD]
      exact ha _ _ _ _ k (h4 m hm)

/-
  Slices of rows appended to rows of the call's own. No Go text in sight.
-/
theorem flat_get {α : Type} : ∀ (rows : List (List α)) (sz i j : Nat), (∀ r ∈ rows, r.length = sz) → i < rows.length → j < sz → rows.flatten[i * sz + j]? = (rows.getD i [])[j]?
  | [], sz, i, j, _, hi, _ => by simp at hi
  | r :: rows, sz, 0, j, h, hi, hj => by
    have hr := h r (by simp)
    simp only [List.flatten_cons, Nat.zero_mul, Nat.zero_add, List.getD_cons_zero]
    rw [List.getElem?_append_left (by omega)]
  | r :: rows, sz, i + 1, j, h, hi, hj => by
    have hr := h r (by simp)
    have ih := flat_get rows sz i j (fun x hx => h x (by simp [hx])) (by simpa using hi) hj
    simp only [List.flatten_cons, List.getD_cons_succ]
    rw [List.getElem?_append_right (by rw [hr, Nat.add_mul]; omega), hr, show (i + 1) * sz + j - sz = i * sz + j by rw [Nat.add_mul]; omega, ih]
theorem flat_len {α : Type} (rows : List (List α)) (sz : Nat) (h : ∀ r ∈ rows, r.length = sz) : rows.flatten.length = rows.length * sz := by
  induction rows with
  | nil => simp
  | cons r rows ih =>
    rw [List.flatten_cons, List.length_append, ih (fun x hx => h x (by simp [hx])), h r (by simp), List.length_cons, Nat.add_mul]
    omega
/-- append of a slice of rows onto a row of the call's own -/
theorem wp_append_rows {P : Program} {w : World} {o : Oper} {a : Act} {K : Act → World → Prop} {Q : Exit → Act → World → Prop} (s x : Operand) (t : TypeId)
    (ho : o.op = .call { callee := .builtin .append, args := #[s, x], argTypes := #[t, t] })
    (base : Nat) (e : TypeId) (i : TypeInfo) (z : Value) (sz bytes : Nat) (ht : P.underlying t = some (.slice e)) (hi : P.info? e = some i) (hz : i.zero = some z) (hsize : i.size = sz) (hby : i.bytes = bytes) (hzs : z.cells.size = sz) (hsz : 0 < sz)
    (v : Value) (n : Nat) (cs : List Value) (hs : a.eval s = v) (hown : w.ownsRow base e sz v n cs)
    (vx : Value) (rows : List (List Value)) (hx : a.eval x = vx) (hr : SlC sz w vx rows) (h1 : ∀ r ∈ rows, ∀ u ∈ r, u.oneCell' = true)
    (h63 : n + rows.length ≤ maxLen) (hbytes : (n + rows.length) * bytes ≤ 140737488355328) (hbase : base ≤ w.heap.size)
    (h : ∀ v' w', w'.ownsRow base e sz v' (n + rows.length) (cs ++ rows.flatten) → w.grownBy w' v.ownBlock → K (a.put o.dst v') w') : o.wp P a w K Q := by
  rcases hr with ⟨ao, cap, rfl, hn, rfl⟩ | ⟨b, off, cap, rfl, h0, hc1, hc2, hc⟩
  · cases ao with
    | none =>
      obtain rfl := hn rfl
      have hrun := run_append_owned_none (P := P) (w := w) base t o.type e i sz ht hi v n cs hown
      unfold Oper.wp
      simp [execOp, ho, resolve, invoke, builtin, hs, hx, hrun, Result.andThen]
      exact h v w (by simpa using hown) ⟨rfl, rfl, rfl, Nat.le_refl _, fun _ _ _ => rfl⟩
    | some ad =>
      refine wp_append_own w s x t ho base e i z sz bytes ht hi hz hsize hby hzs hsz v n _ hs hown ad 0 cap [] hx (by simp) (by simp) (by simp) (by simpa using h63) (by simpa using hbytes) hbase ?_
      intro v' w' h2 h3 _
      exact h v' w' (by simpa using h2) h3
  · have hlen : ∀ r ∈ rows, r.length = sz := by
      intro r hr
      obtain ⟨k, hk, rfl⟩ := List.getElem_of_mem hr
      have := (hc k hk).1
      rwa [List.getD_eq_getElem?_getD, List.getElem?_eq_getElem hk] at this
    refine wp_append_own w s x t ho base e i z sz bytes ht hi hz hsize hby hzs hsz v n _ hs hown ⟨b, off, none⟩ rows.length cap rows.flatten hx (flat_len rows sz hlen) ?_ (fun u hu => ?_) h63 hbytes hbase ?_
    · intro j u hj
      have hjl : j < rows.length * sz := by
        rw [← flat_len rows sz hlen]
        rcases Nat.lt_or_ge j rows.flatten.length with g | g
        · exact g
        · rw [List.getElem?_eq_none g] at hj; cases hj
      have hdm := Nat.div_add_mod j sz
      have hq : j / sz < rows.length := (Nat.div_lt_iff_lt_mul hsz).2 hjl
      have hm := Nat.mod_lt j hsz
      have e1 := flat_get rows sz (j / sz) (j % sz) hlen hq hm
      have e2 : j / sz * sz + j % sz = j := by rw [Nat.mul_comm]; exact hdm
      rw [e2, hj] at e1
      have e3 := (hc (j / sz) hq).2 (j % sz) hm
      rw [← e1, Nat.add_assoc, e2] at e3
      by_cases hz : j = 0
      · subst hz; simpa [Addr.add] using e3
      · simpa [Addr.add, hz] using e3
    · rw [List.mem_flatten] at hu
      obtain ⟨r, hr, hu⟩ := hu
      exact h1 r hr u hu
    · intro v' w' h2 h3 _
      exact h v' w' h2 h3
theorem wpList_append_rows {P : Program} {w : World} {ops : Array Oper} {rest : List Oper} {o : Oper} {a : Act} {Q : Exit → Act → World → Prop} (hgd : o.guard = none) (s x : Operand) (t : TypeId)
    (ho : o.op = .call { callee := .builtin .append, args := #[s, x], argTypes := #[t, t] })
    (base : Nat) (e : TypeId) (i : TypeInfo) (z : Value) (sz bytes : Nat) (ht : P.underlying t = some (.slice e)) (hi : P.info? e = some i) (hz : i.zero = some z) (hsize : i.size = sz) (hby : i.bytes = bytes) (hzs : z.cells.size = sz) (hsz : 0 < sz)
    (v : Value) (n : Nat) (cs : List Value) (hs : a.eval s = v) (hown : w.ownsRow base e sz v n cs)
    (vx : Value) (rows : List (List Value)) (hx : a.eval x = vx) (hr : SlC sz w vx rows) (h1 : ∀ r ∈ rows, ∀ u ∈ r, u.oneCell' = true)
    (h63 : n + rows.length ≤ maxLen) (hbytes : (n + rows.length) * bytes ≤ 140737488355328) (hbase : base ≤ w.heap.size)
    (h : ∀ v' w', w'.ownsRow base e sz v' (n + rows.length) (cs ++ rows.flatten) → w.grownBy w' v.ownBlock → wpList P ops Q rest (a.put o.dst v') w') : wpList P ops Q (o :: rest) a w :=
  wpList_plain hgd fun _ hK => wp_append_rows s x t ho base e i z sz bytes ht hi hz hsize hby hzs hsz v n cs hs hown vx rows hx hr h1 h63 hbytes hbase fun v' w' h2 h3 => hK _ _ (h v' w' h2 h3)
/-- the same as one step of a region that draws its order -/
theorem step_append_rows {P : Program} {ops : Array Oper} {w : World} {o : Oper} {a : Act} {K : Act → World → Prop} {Q : Exit → Act → World → Prop} {E : Prop} (hgd : o.guard = none) (s x : Operand) (t : TypeId)
    (ho : o.op = .call { callee := .builtin .append, args := #[s, x], argTypes := #[t, t] })
    (base : Nat) (e : TypeId) (i : TypeInfo) (z : Value) (sz bytes : Nat) (ht : P.underlying t = some (.slice e)) (hi : P.info? e = some i) (hz : i.zero = some z) (hsize : i.size = sz) (hby : i.bytes = bytes) (hzs : z.cells.size = sz) (hsz : 0 < sz)
    (v : Value) (n : Nat) (cs : List Value) (hs : a.eval s = v) (hown : w.ownsRow base e sz v n cs)
    (vx : Value) (rows : List (List Value)) (hx : a.eval x = vx) (hr : SlC sz w vx rows) (h1 : ∀ r ∈ rows, ∀ u ∈ r, u.oneCell' = true)
    (h63 : n + rows.length ≤ maxLen) (hbytes : (n + rows.length) * bytes ≤ 140737488355328) (hbase : base ≤ w.heap.size)
    (h : ∀ v' w', w'.ownsRow base e sz v' (n + rows.length) (cs ++ rows.flatten) → w.grownBy w' v.ownBlock → K (a.put o.dst v') w') :
    if Region.wanted o (yielded ops a.tmps) = true then Oper.wp P o a w K Q else E := by
  rw [if_pos (by simp [Region.wanted, hgd])]
  exact wp_append_rows s x t ho base e i z sz bytes ht hi hz hsize hby hzs hsz v n cs hs hown vx rows hx hr h1 h63 hbytes hbase h
/-- one row that was laid, as a slice of rows -/
theorem slc_one (w : World) (row : List Value) (T : TypeId) (sz : Nat) (h : row.length = sz) : SlC sz (w.alloc (.cells row.toArray T)) (.slice (some ⟨w.heap.size, 0, none⟩) 1 1) [row] := by
  refine Or.inr ⟨w.heap.size, 0, 1, rfl, by simp, by simp, by decide, fun i hi => ?_⟩
  have : i = 0 := by simp at hi; omega
  subst this
  refine ⟨by simpa using h, fun j hj => ?_⟩
  rw [World.cell?_alloc_new]
  simp

/-
  A row's cells by their places. No Go text in sight.
-/
/-- a row's cells by their places -/
theorem slr_idxN {α : Type} {P : Program} {R : World → List Value → α → Prop} {w : World} {v : Value} {xs : List α} {sz : Nat} (h : SlR sz R w v xs) {t : TypeId} (ht : P.underlying t = some (.slice (P.elem t))) (hs : ∀ w, (sizeOf (P.elem t)).run P w = .ok sz w) (i : Nat) (h1 : i < xs.length) :
    ∃ (b o : Nat) (cs : List Value), (∀ w', (Instr.indexAt t v (.int .i64 (i : Int))).run P w' = .ok (.pointer (some ⟨b, o, none⟩)) w') ∧ cs.length = sz ∧ (∀ j, j < sz → w.cell? ⟨b, o + j, none⟩ = cs[j]?) ∧ R w cs xs[i] := by
  obtain ⟨rows, g1, g2, g3⟩ := h
  obtain ⟨ao, cap, rfl, hc, hn, hx⟩ := g1.form
  obtain ⟨hm, b, off, rfl, hcell⟩ := hx (by omega)
  obtain ⟨l1, l2⟩ := hcell i (by omega)
  refine ⟨b, off + i * sz, rows.getD i [], fun w' => ?_, l1, fun j hj => l2 j hj, g3 i h1⟩
  rw [run_indexAt_slice (h := ht), if_pos ⟨by omega, by omega⟩, hs]
  simp only [Result.andThen, Int.toNat_natCast]
  congr 3
  unfold Addr.add
  split
  · rename_i hz; rw [hz]; rfl
  · rfl

/-
  Small things about rows and blocks that several layers lean on. No Go text in sight.
-/
theorem rd_slice {k : IntKind} {w : World} {v : Value} {xs : List Int} (h : Rd k w v xs) : ∃ ao cap, v = .slice ao xs.length cap := by
  obtain ⟨ao, cap, rfl, _⟩ := rd_form h
  exact ⟨ao, cap, rfl⟩
theorem slr_slice {α : Type} {R : World → List Value → α → Prop} {sz : Nat} {w : World} {v : Value} {xs : List α} (h : SlR sz R w v xs) : ∃ ao cap, v = .slice ao xs.length cap := by
  obtain ⟨rows, h1, h2, _⟩ := h
  obtain ⟨ao, cap, rfl, _⟩ := h1.form
  exact ⟨ao, cap, by rw [h2]⟩
theorem set_kept {w : World} {b : Nat} {cs : Array Value} {T : TypeId} (h : Stands w b cs T) (j : Nat) (u : Value) : Kept T w (w.setCell ⟨b, j, none⟩ u) := by
  refine Kept.stands h ⟨rfl, rfl, rfl, by simp, fun k hk hne => ?_⟩
  exact Below.heap_setCell _ _ _ k (fun e => hne (by rw [e]))
theorem set5 {w : World} {b : Nat} {z0 z1 z2 z3 z4 : Value} {T : TypeId} (h : Stands w b #[z0, z1, z2, z3, z4] T) (a0 a1 a2 a3 a4 : Value) :
    Stands (((((w.setCell ⟨b, 0, none⟩ a0).setCell ⟨b, 1, none⟩ a1).setCell ⟨b, 2, none⟩ a2).setCell ⟨b, 3, none⟩ a3).setCell ⟨b, 4, none⟩ a4) b #[a0, a1, a2, a3, a4] T ∧
    (∀ {base : Nat} {e : TypeId} {sz : Nat} {v : Value} {n : Nat} {xs : List Value}, ¬ e = T → w.ownsRow base e sz v n xs → (((((w.setCell ⟨b, 0, none⟩ a0).setCell ⟨b, 1, none⟩ a1).setCell ⟨b, 2, none⟩ a2).setCell ⟨b, 3, none⟩ a3).setCell ⟨b, 4, none⟩ a4).ownsRow base e sz v n xs) := by
  have h0 := h.set 0 a0
  have h1 := h0.set 1 a1
  have h2 := h1.set 2 a2
  have h3 := h2.set 3 a3
  have h4 := h3.set 4 a4
  exact ⟨h4, fun hne o => own_kept (set_kept h3 4 a4) hne (own_kept (set_kept h2 3 a3) hne (own_kept (set_kept h1 2 a2) hne (own_kept (set_kept h0 1 a1) hne (own_kept (set_kept h 0 a0) hne o))))⟩
theorem own_some {w : World} {base : Nat} {e : TypeId} {sz : Nat} {v : Value} {n : Nat} {cs : List Value} (o : w.ownsRow base e sz v n cs) (h : 0 < n) : ∃ g cap, v = .slice (some ⟨g, 0, none⟩) n cap := by
  rcases o.2 with ⟨_, h0⟩ | ⟨g, cap, cur, hv, _⟩
  · omega
  · exact ⟨g, cap, hv⟩
theorem own_cell {w : World} {base : Nat} {e : TypeId} {sz g n cap : Nat} {cs : List Value} (o : w.ownsRow base e sz (.slice (some ⟨g, 0, none⟩) n cap) n cs) (j : Nat) (u : Value) (h : cs[j]? = some u) : w.cell? ⟨g, j, none⟩ = some u := by
  have h1 := o.cells (g := g) rfl j u h
  have e1 : (⟨g, 0, none⟩ : Addr).add j = ⟨g, j, none⟩ := by
    unfold Addr.add
    split
    · rename_i hz; rw [hz]
    · simp
  rwa [e1] at h1
theorem two_boxes (w : World) (a b : Array Value) (T : TypeId) : Stands ((w.alloc (.cells a T)).alloc (.cells b T)) w.heap.size a T ∧ Stands ((w.alloc (.cells a T)).alloc (.cells b T)) (w.heap.size + 1) b T ∧ Below w.heap.size w ((w.alloc (.cells a T)).alloc (.cells b T)) := by
  refine ⟨(stands_new w a T).below (box_below _ _), ?_, below_trans (box_below w _) (box_below _ _)⟩
  have := stands_new (w.alloc (.cells a T)) b T
  rwa [size_al] at this
theorem grown_below {w w' : World} {r : Option Nat} (g : w.grownBy w' r) {e : TypeId} {sz base : Nat} {v : Value} {n : Nat} {cs : List Value} (o : w.ownsRow base e sz v n cs) (hne : ∀ k, v.ownBlock = some k → r ≠ some k) : w'.ownsRow base e sz v n cs := by
  obtain ⟨hl, o⟩ := o
  refine ⟨hl, ?_⟩
  rcases o with h | ⟨b, cap, cur, rfl, h1, h2, h3⟩
  · exact Or.inl h
  · refine Or.inr ⟨b, cap, cur, rfl, h1, ?_, h3⟩
    rw [g.block b (Array.getElem?_eq_some_iff.1 h2).1 (fun e => hne b rfl e.symm)]
    exact h2
theorem gb_refl (w : World) (r : Option Nat) : w.grownBy w r := ⟨rfl, rfl, rfl, Nat.le_refl _, fun _ _ _ => rfl⟩
theorem gb_below {a b c : World} {r : Option Nat} (h : a.grownBy b r) (g : Below b.heap.size b c) : a.grownBy c r :=
  ⟨g.os.trans h.os, g.tape.trans h.tape, g.output.trans h.output, Nat.le_trans h.size g.size, fun k hk hne => (g.block k (Nat.lt_of_lt_of_le hk h.size)).trans (h.block k hk hne)⟩
theorem gb_set {a b : World} {g : Nat} (h : a.grownBy b (some g)) (j : Nat) (u : Value) : a.grownBy (b.setCell ⟨g, j, none⟩ u) (some g) :=
  ⟨h.os, h.tape, h.output, by simpa [World.setCell] using h.size, fun k hk hne => (Below.heap_setCell _ _ _ k (fun e => hne (by rw [e]))).trans (h.block k hk hne)⟩
theorem gb_new {a b : World} {r : Option Nat} {g : Nat} (h : a.grownBy b r) (hg : a.heap.size ≤ g) (j : Nat) (u : Value) : a.grownBy (b.setCell ⟨g, j, none⟩ u) r :=
  ⟨h.os, h.tape, h.output, by simpa [World.setCell] using h.size, fun k hk hne => (Below.heap_setCell _ _ _ k (fun e => by have e2 : k = g := e; omega)).trans (h.block k hk hne)⟩
theorem slr_tail {α : Type} {P : Program} {R : World → List Value → α → Prop} {w : World} {v : Value} {xs : List α} {sz : Nat} (h : SlR sz R w v xs) {t : TypeId} (ht : P.underlying t = some (.slice (P.elem t))) (hs : ∀ w, (sizeOf (P.elem t)).run P w = .ok sz w) (n : Nat) (hn : n ≤ xs.length) :
    ∃ v', (∀ w', (Instr.slice t v (some (.int .i64 (n : Int))) none none).run P w' = .ok v' w') ∧ SlR sz R w v' (xs.drop n) := by
  obtain ⟨rows, h1, h2, h3⟩ := h
  obtain ⟨ao, cap, rfl, hc, hno, hx⟩ := h1.form
  refine ⟨sliced ao n rows.length cap sz, fun w' => ?_, rows.drop n, ?_, by simp [h2], fun i hi => ?_⟩
  · rw [run_slice_l w' t ao rows.length cap ht .i64 (n : Int) (by omega) (by omega), hs]
    simp [Result.andThen]
  · rcases Nat.eq_zero_or_pos (rows.length - n) with h0 | h0
    · refine Or.inl ⟨if cap = n then ao else ao.map (·.add (n * sz)), cap - n, by rw [sliced, h0], ?_, ?_⟩
      · intro he
        by_cases hcl : cap = n
        · omega
        · rw [if_neg hcl] at he
          cases ao with
          | none => have := hno rfl; omega
          | some a => cases he
      · apply List.eq_nil_of_length_eq_zero
        rw [List.length_drop]
        exact h0
    · obtain ⟨hm, b, off, rfl, hcell⟩ := hx (by omega)
      have hl : (rows.drop n).length = rows.length - n := by simp
      refine Or.inr ⟨b, off + n * sz, cap - n, ?_, by omega, by omega, by omega, fun i hi => ?_⟩
      · rw [sliced, hl, if_neg (by omega)]
        simp [Addr.add]
      · rw [hl] at hi
        have e : (rows.drop n).getD i [] = rows.getD (n + i) [] := by
          rw [List.getD_eq_getElem?_getD, List.getD_eq_getElem?_getD, List.getElem?_drop]
        rw [e]
        have := hcell (n + i) (by omega)
        rw [show off + n * sz + i * sz = off + (n + i) * sz by rw [Nat.add_mul]; omega]
        exact this
  · have hi2 : n + i < xs.length := by simp at hi; omega
    have e : (rows.drop n).getD i [] = rows.getD (n + i) [] := by
      rw [List.getD_eq_getElem?_getD, List.getD_eq_getElem?_getD, List.getElem?_drop]
    rw [e, List.getElem_drop]
    exact h3 (n + i) hi2
theorem own_belowN {w w' : World} {base : Nat} {e : TypeId} {sz : Nat} {v : Value} {n : Nat} {cs : List Value} (o : w.ownsRow base e sz v n cs) (g : Below w.heap.size w w') : w'.ownsRow base e sz v n cs := by
  obtain ⟨hl, h3⟩ := o
  refine ⟨hl, ?_⟩
  rcases h3 with h | ⟨b, cap, cur, rfl, hb, hg, hc⟩
  · exact Or.inl h
  · refine Or.inr ⟨b, cap, cur, rfl, hb, ?_, hc⟩
    rw [g.block b (Array.getElem?_eq_some_iff.1 hg).1]
    exact hg
theorem slr_first {α : Type} {P : Program} {R : World → List Value → α → Prop} {w : World} {v : Value} {xs : List α} {sz : Nat} (h : SlR sz R w v xs) {t : TypeId} (ht : P.underlying t = some (.slice (P.elem t))) (hs : ∀ w, (sizeOf (P.elem t)).run P w = .ok sz w) (n : Nat) (hn : n ≤ xs.length) :
    ∃ v', (∀ w', (Instr.slice t v none (some (.int .i64 (n : Int))) none).run P w' = .ok v' w') ∧ SlR sz R w v' (xs.take n) := by
  obtain ⟨rows, h1, h2, h3⟩ := h
  obtain ⟨ao, cap, rfl, hc, hno, hx⟩ := h1.form
  refine ⟨sliced ao 0 n cap sz, fun w' => ?_, rows.take n, ?_, by simp [h2], fun i hi => ?_⟩
  · rw [run_slice_h w' t ao rows.length cap ht .i64 (n : Int) (by omega) (by omega), hs]
    simp [Result.andThen]
  · rcases Nat.eq_zero_or_pos n with h0 | h0
    · subst h0
      refine Or.inl ⟨if cap = 0 then ao else ao.map (·.add (0 * sz)), cap, by simp [sliced], ?_, by simp⟩
      intro he
      by_cases hc0 : cap = 0
      · exact hc0
      · rw [if_neg hc0] at he
        cases ao with
        | none => exact hno rfl
        | some a => cases he
    · obtain ⟨hm, b, off, rfl, hcell⟩ := hx (by omega)
      have hl : (rows.take n).length = n := by simp; omega
      refine Or.inr ⟨b, off, cap, ?_, by omega, by omega, hm, fun i hi => ?_⟩
      · rw [sliced, hl, if_neg (by omega)]
        simp [Addr.add]
      · rw [hl] at hi
        have e : (rows.take n).getD i [] = rows.getD i [] := by
          rw [List.getD_eq_getElem?_getD, List.getD_eq_getElem?_getD, List.getElem?_take, if_pos hi]
        rw [e]
        exact hcell i (by omega)
  · have hi2 : i < n := by simp at hi; omega
    have e : (rows.take n).getD i [] = rows.getD i [] := by
      rw [List.getD_eq_getElem?_getD, List.getD_eq_getElem?_getD, List.getElem?_take, if_pos hi2]
    rw [e, List.getElem_take]
    exact h3 i (by simp at hi; omega)
theorem res_row2 {P : Program} {fn : Func} {p a : Tmp} {ty : TypeId} (h : fn.results = #[.cell p ty, .tmp a]) (tmps : Array Value) (w : World) (g : Nat) (t : TypeId) (cs : Array Value) (fr : Nat × Nat) (d : TypeDesc)
    (hp : tmps.getD p undef = .pointer (some ⟨g, 0, none⟩)) (hg : w.heap[g]? = some (.cells cs t fr))
    (hu : P.underlying ty = some d) (hd : (match d with | .struct _ | .array _ _ => true | _ => false) = true) (hi : (P.info? ty).map (·.size) = some cs.size) :
    (results fn tmps).run P w = .ok (.tuple #[.agg cs, tmps.getD a undef]) w := by
  have hp' : tmps[p]?.getD undef = .pointer (some ⟨g, 0, none⟩) := by simpa using hp
  simp [results, h, hp', asAddr, run_loadVar_row w g t ty cs fr d hg hu hd hi]
theorem res_row3 {P : Program} {fn : Func} {p a b : Tmp} {ty : TypeId} (h : fn.results = #[.cell p ty, .tmp a, .tmp b]) (tmps : Array Value) (w : World) (g : Nat) (t : TypeId) (cs : Array Value) (fr : Nat × Nat) (d : TypeDesc)
    (hp : tmps.getD p undef = .pointer (some ⟨g, 0, none⟩)) (hg : w.heap[g]? = some (.cells cs t fr))
    (hu : P.underlying ty = some d) (hd : (match d with | .struct _ | .array _ _ => true | _ => false) = true) (hi : (P.info? ty).map (·.size) = some cs.size) :
    (results fn tmps).run P w = .ok (.tuple #[.agg cs, tmps.getD a undef, tmps.getD b undef]) w := by
  have hp' : tmps[p]?.getD undef = .pointer (some ⟨g, 0, none⟩) := by simpa using hp
  simp [results, h, hp', asAddr, run_loadVar_row w g t ty cs fr d hg hu hd hi]
theorem set5q {w : World} {b : Nat} {z0 z1 z2 z3 z4 : Value} {T : TypeId} (h : Stands w b #[z0, z1, z2, z3, z4] T) (a0 a1 a2 a3 a4 : Value) :
    Stands (((((w.setCell ⟨b, 0, none⟩ a0).setCell ⟨b, 1, none⟩ a1).setCell ⟨b, 2, none⟩ a2).setCell ⟨b, 3, none⟩ a3).setCell ⟨b, 4, none⟩ a4) b #[a0, a1, a2, a3, a4] T ∧ ∀ Q : World → Prop, (∀ u u', Kept T u u' → Q u → Q u') → Q w → Q (((((w.setCell ⟨b, 0, none⟩ a0).setCell ⟨b, 1, none⟩ a1).setCell ⟨b, 2, none⟩ a2).setCell ⟨b, 3, none⟩ a3).setCell ⟨b, 4, none⟩ a4) := by
  have h0 := h.set 0 a0
  have h1 := h0.set 1 a1
  have h2 := h1.set 2 a2
  have h3 := h2.set 3 a3
  have h4 := h3.set 4 a4
  exact ⟨by simpa only [List.setIfInBounds_toArray, List.set_cons_zero, List.set_cons_succ] using h4, fun Q hQ q => hQ _ _ (set_kept h3 4 a4) (hQ _ _ (set_kept h2 3 a3) (hQ _ _ (set_kept h1 2 a2) (hQ _ _ (set_kept h0 1 a1) (hQ _ _ (set_kept h 0 a0) q))))⟩

/-
  A call of a Go function as one step of a region that draws its order.
-/
theorem step_call {P : Program} {ops : Array Oper} {w : World} {o : Oper} {a : Act} {K : Act → World → Prop} {Q : Exit → Act → World → Prop} {E : Prop} (hgd : o.guard = none) (f : Nat) (x : Operand) (t : TypeId)
    (hop : o.op = .call { callee := .value (.func f), args := #[x], argTypes := #[t] }) (hent : ∀ args w, (callFunc f args).run P w = .ok (.enter f args) w) (vx : Value) (hx : a.eval x = vx)
    (hc : Calls P f #[vx] w fun e w' => ∃ v, e = .returned v ∧ K (a.put o.dst v) w') :
    if Region.wanted o (yielded ops a.tmps) = true then Oper.wp P o a w K Q else E := by
  rw [if_pos (by simp [Region.wanted, hgd])]
  unfold Oper.wp
  have he : a.eval (.func f) = .func (.func f) #[] #[] := rfl
  simp [execOp, hop, resolve, invoke, hx, he, hent, Deferred.ofValue]
  rw [Oper.upon_enter]
  refine hc.mono ?_
  rintro e w' ⟨v, rfl, h⟩
  exact h

end Go.Proofs.Ythihkfimledccaa
