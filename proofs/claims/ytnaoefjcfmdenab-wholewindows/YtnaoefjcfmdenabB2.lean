/-
  Texts of one proof, laid one behind the other: St Sd Ark Pb2 Rmm Rp1 Rmf Br1 Br2 Rp2 Lr1 Lr2 Ow Ow2 Sgi.
-/
import Derived.Test.YtnaoefjcfmdenabB1
import Derived.Deep.RegionLaw
import Derived.Deep.MidRow
import Derived.Deep.WholeRow
import Derived.Test.YtnaoefjcfmdenabProg
import Derived.Laws.BitsAllLaws
import Derived.Laws.OwnMore
namespace Go.Proofs.Ytnaoefjcfmdenab
open Go.ChangeShapes Go.WideShapes Go.ChangeAt Go.RowKit
set_option linter.unusedVariables false
set_option linter.unusedSimpArgs false

/-
  Rows of structs: appended to a row of the call's own, and read from it. No Go text in sight.
-/
/-- append of one row of cells onto a row of the call's own -/
theorem wpList_append_row {P : Program} {w : World} {ops : Array Oper} {rest : List Oper} {o : Oper} {a : Act} {Q : Exit → Act → World → Prop} (hgd : o.guard = none) (s x : Operand) (t : TypeId)
    (ho : o.op = .call { callee := .builtin .append, args := #[s, x], argTypes := #[t, t] })
    (base : Nat) (e : TypeId) (i : TypeInfo) (z : Value) (sz bytes : Nat) (ht : P.underlying t = some (.slice e)) (hi : P.info? e = some i) (hz : i.zero = some z) (hsize : i.size = sz) (hby : i.bytes = bytes) (hzs : z.cells.size = sz) (hsz : 0 < sz)
    (v : Value) (n : Nat) (cs : List Value) (hs : a.eval s = v) (hown : w.ownsRow base e sz v n cs)
    (b : Nat) (row : List Value) (hx : a.eval x = .slice (some ⟨b, 0, none⟩) 1 1) (hl : row.length = sz) (hc : ∀ j u, row[j]? = some u → w.cell? ⟨b, j, none⟩ = some u) (h1 : ∀ u ∈ row, u.oneCell' = true)
    (h63 : n + 1 ≤ maxLen) (hbytes : (n + 1) * bytes ≤ 140737488355328) (hbase : base ≤ w.heap.size)
    (h : ∀ v' w', w'.ownsRow base e sz v' (n + 1) (cs ++ row) → w.grownBy w' v.ownBlock → wpList P ops Q rest (a.put o.dst v') w') : wpList P ops Q (o :: rest) a w := by
  refine wpList_plain hgd fun _ hK => ?_
  refine wp_append_own w s x t ho base e i z sz bytes ht hi hz hsize hby hzs hsz v n cs hs hown ⟨b, 0, none⟩ 1 1 row hx (by omega) ?_ h1 h63 hbytes hbase ?_
  · intro j u hj
    have := hc j u hj
    by_cases hz : j = 0
    · subst hz; simpa [Addr.add] using this
    · simpa [Addr.add, hz] using this
  · intro v' w' h2 h3 _
    exact hK _ _ (h v' w' h2 h3)
/-- append of a slice that is read, as one step of a region that draws its order -/
theorem step_append_rd {P : Program} {ops : Array Oper} {w : World} {k : IntKind} {o : Oper} {a : Act} {K : Act → World → Prop} {Q : Exit → Act → World → Prop} {E : Prop} (hgd : o.guard = none) (s x : Operand) (t : TypeId)
    (ho : o.op = .call { callee := .builtin .append, args := #[s, x], argTypes := #[t, t] })
    (base : Nat) (e : TypeId) (i : TypeInfo) (bytes : Nat) (ht : P.underlying t = some (.slice e)) (hi : P.info? e = some i) (hz : i.zero = some (.int k 0)) (hsize : i.size = 1) (hby : i.bytes = bytes)
    (v : Value) (ys : List Int) (hs : a.eval s = v) (hown : w.ownsRow base e 1 v ys.length (ys.map (Value.int k)))
    (vx : Value) (xs : List Int) (hx : a.eval x = vx) (hr : Rd k w vx xs)
    (h63 : ys.length + xs.length ≤ maxLen) (hbytes : (ys.length + xs.length) * bytes ≤ 140737488355328) (hbase : base ≤ w.heap.size)
    (h : ∀ v' w', w'.ownsRow base e 1 v' (ys ++ xs).length ((ys ++ xs).map (Value.int k)) → w.grownBy w' v.ownBlock → K (a.put o.dst v') w') :
    if Region.wanted o (yielded ops a.tmps) = true then Oper.wp P o a w K Q else E := by
  rw [if_pos (by simp [Region.wanted, hgd])]
  exact wp_append_rd s x t ho base e i bytes ht hi hz hsize hby v ys hs hown vx xs hx hr h63 hbytes hbase h
/-- a block that was laid of a row -/
theorem alloc_row (w : World) (row : List Value) (T : TypeId) : ∀ j u, row[j]? = some u → (w.alloc (.cells row.toArray T)).cell? ⟨w.heap.size, j, none⟩ = some u := by
  intro j u h
  rw [World.cell?_alloc_new]
  simpa using h
theorem alloc_rowS (w : World) (a : Addr) (v : Value) (row : List Value) (T : TypeId) : ∀ j u, row[j]? = some u → ((w.setCell a v).alloc (.cells row.toArray T)).cell? ⟨w.heap.size, j, none⟩ = some u := by
  intro j u h
  have := alloc_row (w.setCell a v) row T j u h
  rwa [show (w.setCell a v).heap.size = w.heap.size by simp [World.setCell]] at this
theorem alloc_rowSS (w : World) (a b : Addr) (v u' : Value) (row : List Value) (T : TypeId) : ∀ j u, row[j]? = some u → (((w.setCell a v).setCell b u').alloc (.cells row.toArray T)).cell? ⟨w.heap.size, j, none⟩ = some u := by
  intro j u h
  have := alloc_row ((w.setCell a v).setCell b u') row T j u h
  rwa [show ((w.setCell a v).setCell b u').heap.size = w.heap.size by simp [World.setCell]] at this
/-- a variable that is boxed: what is there behind calls that leave all that is old -/
theorem box_at {w w' : World} {cs : Array Value} {T : TypeId} (h : Below (w.alloc (.cells cs T)).heap.size (w.alloc (.cells cs T)) w') :
    (∀ j u, cs[j]? = some u → w'.cell? ⟨w.heap.size, j, none⟩ = some u) ∧ (∀ j, w'.frozen? ⟨w.heap.size, j, none⟩ = false) ∧ Below w.heap.size w w' := by
  have hb : w'.heap[w.heap.size]? = some (.cells cs T (0, 0)) := by
    rw [h.block w.heap.size (by rw [size_al]; omega)]
    exact heap_alloc_new w _
  refine ⟨fun j u hj => ?_, fun j => ?_, ?_⟩
  · simp [World.cell?, hb, hj]
  · simp [World.frozen?, hb]
  · exact below_trans (box_below w _) h
/-- what the call has built of rows reads as the list that they were built of -/
theorem slr_rows {α : Type} {R : World → List Value → α → Prop} {w : World} {base : Nat} {e : TypeId} {v : Value} {n sz : Nat} {xs : List α} (f : α → List Value) (hf : ∀ x ∈ xs, (f x).length = sz) (hsz : 0 < sz) (h : w.ownsRow base e sz v n (xs.flatMap f)) (hR : ∀ x ∈ xs, R w (f x) x) : SlR sz R w v xs := by
  obtain ⟨hl, h⟩ := h
  have hlen : ∀ ys : List α, (∀ x ∈ ys, (f x).length = sz) → (ys.flatMap f).length = ys.length * sz := by
    intro ys
    induction ys with
    | nil => intro _; simp
    | cons y ys ih =>
      intro hy
      rw [List.flatMap_cons, List.length_append, ih (fun x hx => hy x (by simp [hx])), hy y (by simp), List.length_cons, Nat.add_mul, Nat.one_mul]
      omega
  have hn : n = xs.length := by
    rw [hlen xs hf] at hl
    exact (Nat.eq_of_mul_eq_mul_right hsz hl).symm
  have hat : ∀ (ys : List α) (i : Nat) (hi : i < ys.length), (∀ x ∈ ys, (f x).length = sz) → ∀ j, j < sz → (ys.flatMap f)[i * sz + j]? = (f ys[i])[j]? := by
    intro ys
    induction ys with
    | nil => intro i hi; simp at hi
    | cons y ys ih =>
      intro i hi hy j hj
      have hy0 := hy y (by simp)
      rw [List.flatMap_cons]
      cases i with
      | zero =>
        rw [List.getElem?_append_left (by omega)]
        simp
      | succ i =>
        rw [Nat.add_mul, Nat.one_mul, List.getElem?_append_right (by omega), show i * sz + sz + j - (f y).length = i * sz + j by omega]
        exact ih i (by simpa using hi) (fun x hx => hy x (by simp [hx])) j hj
  refine ⟨xs.map f, ?_, by simp, fun i hi => ?_⟩
  · rcases h with ⟨rfl, h0⟩ | ⟨g, cap, cur, rfl, hb, hg, hc, hm, hs, ht⟩
    · have : xs = [] := List.eq_nil_of_length_eq_zero (by omega)
      subst this
      exact Or.inl ⟨none, 0, rfl, fun _ => rfl, rfl⟩
    · rcases Nat.eq_zero_or_pos xs.length with h0 | h0
      · have : xs = [] := List.eq_nil_of_length_eq_zero h0
        subst this
        exact Or.inl ⟨_, _, by rw [hn]; rfl, (fun h => by cases h), rfl⟩
      · refine Or.inr ⟨g, 0, cap, by rw [hn, List.length_map], by rw [List.length_map]; exact h0, by rw [List.length_map]; omega, hm, fun i hi => ?_⟩
        have hi2 : i < xs.length := by simpa using hi
        have e1 : (xs.map f).getD i [] = f xs[i] := by simp [List.getD_eq_getElem?_getD, List.getElem?_eq_getElem hi2]
        rw [e1]
        refine ⟨hf _ (List.getElem_mem hi2), fun j hj => ?_⟩
        have e2 := hat xs i hi2 hf j hj
        have hlt : i * sz + j < n * sz := by
          have : (i + 1) * sz ≤ n * sz := Nat.mul_le_mul_right _ (by omega)
          rw [Nat.add_mul, Nat.one_mul] at this
          omega
        rw [← ht, List.getElem?_take, if_pos hlt] at e2
        rw [← e2]
        simp [World.cell?, hg]
  · have e1 : (xs.map f).getD i [] = f xs[i] := by simp [List.getD_eq_getElem?_getD, List.getElem?_eq_getElem hi]
    rw [e1]
    exact hR _ (List.getElem_mem hi)

/-- an element of three cells: its address' rule, its cells, what it reads as -/
theorem slr_idx3 {α : Type} {P : Program} {R : World → List Value → α → Prop} {w : World} {v : Value} {xs : List α} (h : SlR 3 R w v xs) {t : TypeId} (ht : P.underlying t = some (.slice (P.elem t))) (hs : ∀ w, (sizeOf (P.elem t)).run P w = .ok 3 w) (i : Nat) (h1 : i < xs.length) :
    ∃ (b o : Nat) (c0 c1 c2 : Value), (∀ w', (Instr.indexAt t v (.int .i64 (i : Int))).run P w' = .ok (.pointer (some ⟨b, o, none⟩)) w') ∧ w.cell? ⟨b, o, none⟩ = some c0 ∧ w.cell? ⟨b, o + 1, none⟩ = some c1 ∧ w.cell? ⟨b, o + 2, none⟩ = some c2 ∧ R w [c0, c1, c2] xs[i] := by
  obtain ⟨rows, g1, g2, g3⟩ := h
  obtain ⟨ao, cap, rfl, hc, hn, hx⟩ := g1.form
  obtain ⟨hm, b, off, rfl, hcell⟩ := hx (by omega)
  obtain ⟨l1, l2⟩ := hcell i (by omega)
  have e0 := l2 0 (by omega)
  have e1 := l2 1 (by omega)
  have e2 := l2 2 (by omega)
  have hr := g3 i h1
  match hrow : rows.getD i [], l1 with
  | [c0, c1, c2], _ =>
    rw [hrow] at e0 e1 e2 hr
    refine ⟨b, off + i * 3, c0, c1, c2, fun w' => ?_, by simpa using e0, by simpa using e1, by simpa using e2, hr⟩
    rw [run_indexAt_slice (h := ht), if_pos ⟨by omega, by omega⟩, hs]
    simp only [Result.andThen, Int.toNat_natCast]
    congr 3
    unfold Addr.add
    split
    · rename_i hz; rw [hz]; rfl
    · rfl

/-
  Blocks that stand in a world: variables that are boxed, results kept in memory. No Go text in sight.
-/
theorem own_le {w : World} {b b' : Nat} {e : TypeId} {sz : Nat} {v : Value} {n : Nat} {cs : List Value} (h : b ≤ b') (o : w.ownsRow b' e sz v n cs) : w.ownsRow b e sz v n cs := by
  obtain ⟨hl, o⟩ := o
  refine ⟨hl, ?_⟩
  rcases o with o | ⟨g, cap, cur, rfl, hb, o⟩
  · exact Or.inl o
  · exact Or.inr ⟨g, cap, cur, rfl, by omega, o⟩
theorem own_form {w : World} {b : Nat} {e : TypeId} {sz : Nat} {v : Value} {n : Nat} {cs : List Value} (o : w.ownsRow b e sz v n cs) : ∃ ao cap, v = .slice ao n cap := by
  obtain ⟨hl, o⟩ := o
  rcases o with ⟨rfl, h0⟩ | ⟨g, cap, cur, rfl, o⟩
  · exact ⟨none, 0, by rw [h0]⟩
  · exact ⟨_, _, rfl⟩
theorem alloc_row2 (w : World) (A : Obj) (row : List Value) (T : TypeId) : ∀ j u, row[j]? = some u → ((w.alloc A).alloc (.cells row.toArray T)).cell? ⟨w.heap.size + 1, j, none⟩ = some u := by
  intro j u h
  have := alloc_row (w.alloc A) row T j u h
  rwa [size_al] at this
/-- a block that stands in a world: its cells, and that they may be written -/
def Stands (w : World) (b : Nat) (cs : Array Value) (T : TypeId) : Prop := w.heap[b]? = some (.cells cs T (0, 0))
theorem stands_new (w : World) (cs : Array Value) (T : TypeId) : Stands (w.alloc (.cells cs T)) w.heap.size cs T := heap_alloc_new w _
theorem Stands.below {w w' : World} {b : Nat} {cs : Array Value} {T : TypeId} (h : Stands w b cs T) (g : Below w.heap.size w w') : Stands w' b cs T := by
  unfold Stands at h ⊢
  rw [g.block b (Array.getElem?_eq_some_iff.1 h).1]
  exact h
theorem Stands.cell {w : World} {b : Nat} {cs : Array Value} {T : TypeId} (h : Stands w b cs T) (j : Nat) (u : Value) (hj : cs[j]? = some u) : w.cell? ⟨b, j, none⟩ = some u := by
  unfold Stands at h
  simp [World.cell?, h, hj]
theorem Stands.free {w : World} {b : Nat} {cs : Array Value} {T : TypeId} (h : Stands w b cs T) (j : Nat) : w.frozen? ⟨b, j, none⟩ = false := by
  unfold Stands at h
  simp [World.frozen?, h]
theorem Stands.set {w : World} {b : Nat} {cs : Array Value} {T : TypeId} (h : Stands w b cs T) (j : Nat) (u : Value) : Stands (w.setCell ⟨b, j, none⟩ u) b (cs.setIfInBounds j u) T := by
  unfold Stands at h ⊢
  have hb := (Array.getElem?_eq_some_iff.1 h).1
  have e : w.heap[b] = .cells cs T (0, 0) := (Array.getElem?_eq_some_iff.1 h).2
  simp only [World.setCell]
  rw [Array.getElem?_modify, if_pos rfl, Array.getElem?_eq_getElem hb, e]
  rfl
theorem Stands.other {w : World} {b b' : Nat} {cs : Array Value} {T : TypeId} (h : Stands w b cs T) (j : Nat) (u : Value) (hb : b ≠ b') : Stands (w.setCell ⟨b', j, none⟩ u) b cs T := by
  unfold Stands at h ⊢
  simp only [World.setCell]
  rw [Array.getElem?_modify, if_neg (by omega)]
  exact h
theorem own_other {w : World} {b : Nat} {e : TypeId} {v : Value} {n : Nat} {cs : List Value} (o : w.ownsRow b e 1 v n cs) (g : Nat) (j : Nat) (u : Value) (hg : g < b) : (w.setCell ⟨g, j, none⟩ u).ownsRow b e 1 v n cs := by
  obtain ⟨hl, o⟩ := o
  refine ⟨hl, ?_⟩
  rcases o with o | ⟨g', cap, cur, rfl, hb, h1, o⟩
  · exact Or.inl o
  · refine Or.inr ⟨g', cap, cur, rfl, hb, ?_, o⟩
    simp only [World.setCell]
    rw [Array.getElem?_modify, if_neg (by omega)]
    exact h1
theorem below_set {w w' : World} (h : Below w.heap.size w w') (g j : Nat) (u : Value) (hg : w.heap.size ≤ g) : Below w.heap.size w (w'.setCell ⟨g, j, none⟩ u) := by
  refine ⟨h.os, h.tape, h.output, by simpa [World.setCell] using h.size, fun k hk => ?_⟩
  rw [← h.block k hk]
  simp only [World.setCell]
  rw [Array.getElem?_modify, if_neg (by omega)]
/-- a block of another kind lies apart from a row of the call's own -/
theorem stands_apart {w : World} {b : Nat} {cs : Array Value} {T : TypeId} {base : Nat} {e : TypeId} {v : Value} {n sz : Nat} {xs : List Value} (h : Stands w b cs T) (o : w.ownsRow base e sz v n xs) (ht : ¬ e = T) : some b ≠ v.ownBlock := by
  obtain ⟨hl, o⟩ := o
  rcases o with ⟨rfl, h0⟩ | ⟨g, cap, cur, rfl, hb, hg, o⟩
  · simp [Value.ownBlock]
  · intro hh
    simp [Value.ownBlock] at hh
    subst hh
    unfold Stands at h
    rw [h] at hg
    simp at hg
    exact ht hg.2.symm
theorem Stands.grown {w w' : World} {b : Nat} {cs : Array Value} {T : TypeId} {row : Option Nat} (h : Stands w b cs T) (g : w.grownBy w' row) (hr : some b ≠ row) : Stands w' b cs T := by
  unfold Stands at h ⊢
  rw [g.block b (Array.getElem?_eq_some_iff.1 h).1 hr]
  exact h

/-
  Arrays of integers by value, of any length, in memory: boxed, read whole, written whole; the cells are a list. No Go text in sight.
-/
/-- the cells of an array -/
def ArA (k : IntKind) (B : List Int) : Array Value := (B.map (Value.int k)).toArray
theorem ara_at {k : IntKind} {B : List Int} (i : Nat) (h : i < B.length) : (ArA k B)[i]? = some (.int k (B.getD i 0)) := by
  simp [ArA, List.getD_eq_getElem?_getD, List.getElem?_eq_getElem h]
theorem ara_size (k : IntKind) (B : List Int) : (ArA k B).size = B.length := by simp [ArA]
theorem ara_one (k : IntKind) (B : List Int) : (ArA k B).all (·.oneCell') = true := by
  rw [Array.all_eq_true_iff_forall_mem]
  intro v hv
  simp only [ArA, List.mem_toArray, List.mem_map] at hv
  obtain ⟨x, _, rfl⟩ := hv
  rfl
theorem ara_set (k : IntKind) (L : List Int) (j : Nat) (v : Int) : (ArA k L).setIfInBounds j (.int k v) = ArA k (L.set j v) := by
  simp [ArA, List.map_set]
/-- from place o of block b on these integers lie -/
def ArAt (k : IntKind) (w : World) (b o : Nat) (B : List Int) : Prop := ∀ i, i < B.length → w.cell? ⟨b, o + i, none⟩ = some (.int k (B.getD i 0))
theorem ArAt.below {k : IntKind} {w w' : World} {b o : Nat} {B : List Int} (h : ArAt k w b o B) (g : Below w.heap.size w w') : ArAt k w' b o B := fun i hi => below_cell g (h i hi)
theorem arat_box (k : IntKind) (w : World) (B : List Int) (T : TypeId) : ArAt k (w.alloc (.cells (ArA k B) T)) w.heap.size 0 B := fun i hi => by
  rw [Nat.zero_add]
  exact box_cell w (ArA k B) T i _ (ara_at i hi)
theorem arat_stands {k : IntKind} {w : World} {b : Nat} {B : List Int} {T : TypeId} (h : Stands w b (ArA k B) T) : ArAt k w b 0 B := fun i hi => by
  rw [Nat.zero_add]
  exact h.cell i _ (ara_at i hi)
theorem ArAt.heap {k : IntKind} {w w' : World} {b o : Nat} {B : List Int} (h : ArAt k w b o B) (g : w'.heap[b]? = w.heap[b]?) : ArAt k w' b o B := fun i hi => by
  have := h i hi
  unfold World.cell? at this ⊢
  rw [g]
  exact this
theorem arat_range {k : IntKind} {w : World} {b o : Nat} {B : List Int} (h : ArAt k w b o B) : w.rangeAt b o (B.map (Value.int k)) := fun j v hv => by
  rw [List.getElem?_map] at hv
  rcases Nat.lt_or_ge j B.length with hj | hj
  · rw [h j hj]
    rw [List.getElem?_eq_getElem hj] at hv
    simp only [Option.map_some] at hv
    rw [← hv, List.getD_eq_getElem?_getD, List.getElem?_eq_getElem hj]
    rfl
  · rw [List.getElem?_eq_none hj] at hv
    cases hv
/-- an array is read whole -/
theorem wpList_load_ar {P : Program} {k : IntKind} {ops : Array Oper} {rest : List Oper} {op : Oper} {a : Act} {w : World} {Q : Exit → Act → World → Prop} (hgd : op.guard = none) (ty : TypeId) (x : Operand) (ho : op.op = .load ty x)
    (b o : Nat) (hx : a.eval x = .pointer (some ⟨b, o, none⟩)) (B : List Int) (hc : ArAt k w b o B) (d : TypeDesc) (hu : P.underlying ty = some d) (hd : d.isRow = true) (hi : (P.info? ty).map (·.size) = some B.length)
    (h : wpList P ops Q rest (a.put op.dst (.agg (ArA k B))) w) : wpList P ops Q (op :: rest) a w :=
  wpList_load_mid hgd ty x ho b o hx (B.map (Value.int k)) d (arat_range hc) hu hd (by rw [List.length_map]; exact hi) h
theorem wpList_load_arG {P : Program} {k : IntKind} {ops : Array Oper} {rest : List Oper} {op : Oper} {a : Act} {w : World} {Q : Exit → Act → World → Prop} (hgd : Region.wanted op (yielded ops a.tmps) = true) (ty : TypeId) (x : Operand) (ho : op.op = .load ty x)
    (b o : Nat) (hx : a.eval x = .pointer (some ⟨b, o, none⟩)) (B : List Int) (hc : ArAt k w b o B) (d : TypeDesc) (hu : P.underlying ty = some d) (hd : d.isRow = true) (hi : (P.info? ty).map (·.size) = some B.length)
    (h : wpList P ops Q rest (a.put op.dst (.agg (ArA k B))) w) : wpList P ops Q (op :: rest) a w :=
  wpList_step fun K hK => by
    rw [if_pos hgd]
    exact wp_load_mid ty x ho b o hx (B.map (Value.int k)) d (arat_range hc) hu hd (by rw [List.length_map]; exact hi) (hK _ _ h)
theorem yields_load_ar {P : Program} {k : IntKind} {ops : Array Oper} {S : World → Prop} {op : Oper} {a : Act} (hw : Region.wanted op (yielded ops a.tmps) = true) (ty : TypeId) (x : Operand) (ho : op.op = .load ty x)
    (b o : Nat) (hx : a.eval x = .pointer (some ⟨b, o, none⟩)) (B : List Int) (d : TypeDesc) (hS : ∀ w, S w → ArAt k w b o B) (hu : P.underlying ty = some d) (hd : d.isRow = true) (hi : (P.info? ty).map (·.size) = some B.length) : YieldsIf P ops S op (.agg (ArA k B)) a :=
  yieldsIf_load_mid hw ty x ho b o hx (B.map (Value.int k)) d (fun w h => arat_range (hS w h)) hu hd (by rw [List.length_map]; exact hi)

/-
  What is planned, sector by sector, and what comes of it. No Go text in sight.
-/
theorem dkK_cases (a n : Int) (k : Int) : (dkK a n k = [] ∧ (a + n ≤ 512 * k ∨ 512 * k + 512 ≤ a ∨ n ≤ 0)) ∨
    (dkK a n k = [(false, k), (true, k)] ∧ 512 * k < a + n ∧ a < 512 * k + 512 ∧ 0 < n) ∨ (dkK a n k = [(true, k)] ∧ a ≤ 512 * k ∧ 512 * k + 512 ≤ a + n ∧ 0 < n) := by
  unfold dkK
  split
  · exact Or.inl ⟨rfl, by omega⟩
  · split
    · exact Or.inr (Or.inl ⟨rfl, by omega, by omega, by omega⟩)
    · exact Or.inr (Or.inr ⟨rfl, by omega, by omega, by omega⟩)
theorem dkL_mono (a n : Int) : ∀ (m k : Nat), k ≤ m → (dkL a n k).length ≤ (dkL a n m).length
  | 0, k, h => by rw [show k = 0 by omega]; exact Nat.le_refl _
  | m + 1, k, h => by
    by_cases e : k = m + 1
    · rw [e]; exact Nat.le_refl _
    · have := dkL_mono a n m k (by omega)
      simp only [dkL, List.length_append]
      omega
theorem dkL_bd (a n : Int) : ∀ k : Nat, (dkL a n k).length ≤ 2 * k
  | 0 => by simp [dkL]
  | k + 1 => by
    have := dkL_bd a n k
    simp only [dkL, List.length_append]
    rcases dkK_cases a n k with ⟨e, _⟩ | ⟨e, _⟩ | ⟨e, _⟩ <;> (rw [e]; simp; omega)
theorem dkP_bd (a n : Int) : (dkP a n).1.length ≤ 128 := by
  unfold dkP
  split
  · simp
  · exact dkL_bd a n 64
/-- a longer plan begins with a shorter one -/
theorem dkL_pre (a n : Int) : ∀ (m k i : Nat), k ≤ m → i < (dkL a n k).length → (dkL a n m)[i]? = (dkL a n k)[i]?
  | 0, k, i, h, hi => by rw [show k = 0 by omega]
  | m + 1, k, i, h, hi => by
    by_cases e : k = m + 1
    · rw [e]
    · have h2 := dkL_mono a n m k (by omega)
      rw [dkL, List.getElem?_append_left (by omega)]
      exact dkL_pre a n m k i (by omega) hi
/-- where the plan goes on: the next sector of which bytes are put -/
theorem dk_next (d : List Int) (a : Nat) (b : List Int) (i : Nat) : ∀ (f k : Nat), k + f = 64 → (dkL a b.length k).length = i → i < (dkL a b.length 64).length →
    ∃ k', k ≤ k' ∧ k' < 64 ∧ (dkL a b.length k').length = i ∧ ¬ dkK a b.length k' = [] ∧ ovl d a b k' = ovl d a b k
  | 0, k, hf, hk, hi => by rw [show k = 64 by omega] at hk; omega
  | f + 1, k, hf, hk, hi => by
    by_cases he : dkK (a : Int) b.length k = []
    · have hk1 : (dkL (a : Int) b.length (k + 1)).length = i := by simp only [dkL, List.length_append, he, List.length_nil]; omega
      obtain ⟨k', h1, h2, h3, h4, h5⟩ := dk_next d a b i f (k + 1) (by omega) hk1 hi
      refine ⟨k', by omega, h2, h3, h4, h5.trans (ovl_none d a b k ?_)⟩
      rcases dkK_cases (a : Int) b.length k with ⟨_, h⟩ | ⟨e, _⟩ | ⟨e, _⟩
      · omega
      · rw [he] at e; cases e
      · rw [he] at e; cases e
    · exact ⟨k, Nat.le_refl _, by omega, hk, he, rfl⟩
/-- behind the plan's end -/
theorem dk_end (d : List Int) (a : Nat) (b : List Int) : ∀ (f k : Nat), k + f = 64 → (dkL a b.length k).length = (dkL a b.length 64).length → ovl d a b 64 = ovl d a b k
  | 0, k, hf, hk => by rw [show k = 64 by omega]
  | f + 1, k, hf, hk => by
    have h1 := dkL_mono a b.length 64 (k + 1) (by omega)
    have h2 := dkL_mono a b.length (k + 1) k (by omega)
    have he : dkK (a : Int) b.length k = [] := by
      have h3 : (dkL (a : Int) b.length (k + 1)).length = (dkL (a : Int) b.length k).length + (dkK (a : Int) b.length k).length := by rw [dkL, List.length_append]
      apply List.eq_nil_of_length_eq_zero
      omega
    rw [dk_end d a b f (k + 1) (by omega) (by omega)]
    apply ovl_none
    rcases dkK_cases (a : Int) b.length k with ⟨_, h⟩ | ⟨e, _⟩ | ⟨e, _⟩
    · omega
    · rw [he] at e; cases e
    · rw [he] at e; cases e
/-- the plan at a place where a sector begins -/
theorem dk_at (a n : Int) (k : Nat) (hk : k < 64) (j : Nat) (hj : j < (dkK a n k).length) : (dkL a n 64)[(dkL a n k).length + j]? = (dkK a n k)[j]? := by
  have h1 : (dkL a n (k + 1)).length = (dkL a n k).length + (dkK a n k).length := by simp [dkL]
  rw [dkL_pre a n 64 (k + 1) _ (by omega) (by omega), dkL, List.getElem?_append_right (by omega)]
  congr 1
  omega
/-- a sector with bytes among those that are put lies in the disk -/
theorem dk_in {d b : List Int} {a k : Nat} (hd : d.length % 512 = 0) (h : a + b.length ≤ d.length) (hk : ¬ dkK (a : Int) b.length k = []) : 512 * k + 512 ≤ d.length := by
  rcases dkK_cases (a : Int) b.length k with ⟨e, _⟩ | ⟨e, h1, _⟩ | ⟨e, h1, h2, _⟩
  · exact absurd e hk
  · omega
  · omega

/-
  In, Same, Copy, wrong, Fetch, Text of the document's answer for a memory of bytes.
-/
/-- a row of bytes of the call's own -/
def Own8 (base : Nat) (w : World) (v : Value) (xs : List Int) : Prop := w.ownsRow base 5 1 v xs.length (xs.map (Value.int .u8))

theorem uB : Try.prog.underlying 23 = some (.slice (Try.prog.elem 23)) := by kernel_rfl
theorem eB : Try.prog.elem 23 = 5 := by kernel_rfl
theorem zB (w : World) : (sizeOf (Try.prog.elem 23)).run Try.prog w = .ok 1 w := by rw [eB]; exact Try.sizeOf5 w
theorem infoU8 : (Try.prog.info? 5).map (fun i => (i.zero, i.size, i.bytes)) = some (some (.int .u8 0), 1, 1) := by kernel_rfl
theorem rd_strT {w : World} {v : Value} {xs : List Int} (h : Rd .u8 w v xs) : (convert 23 9 v).run Try.prog w = .ok (.string (strOfNums xs)) w :=
  rd_str h Try.underlying23 Try.underlying5 Try.underlying9

/-
  Named, EncodeInt, EncodeText of the document's answer for properties.
-/
theorem run_at {w : World} (s : ByteArray) (k : Nat) (h : k < s.size) (hm : s.size ≤ maxLen) : (Instr.index 9 (.string s) (.int .i64 (k : Int))).run Try.prog w = .ok (.int .u8 (s[k].toNat : Int)) w := by
  unfold maxLen at hm
  rw [run_index_string (h := Try.underlying9)]
  simp [h]

theorem run_bad (k : Nat) (hk : k < 6) (w : World) : (Instr.index 9 (.string ⟨#[47, 92, 58, 91, 93, 64]⟩) (.int .i64 (k : Int))).run Try.prog w = .ok (.int .u8 (([47, 92, 58, 91, 93, 64] : List Int).getD k 0)) w := by
  rw [run_at ⟨#[47, 92, 58, 91, 93, 64]⟩ k (show k < 6 from hk) (by decide)]
  have : k = 0 ∨ k = 1 ∨ k = 2 ∨ k = 3 ∨ k = 4 ∨ k = 5 := by omega
  rcases this with rfl | rfl | rfl | rfl | rfl | rfl <;> rfl

theorem enc_at (n : Int) (h0 : 0 ≤ n) (k : Nat) (hk : k ≤ 3) : (beB 4 n).take (3 - k + 1) = (beB 4 n).take (3 - k) ++ [n / 2 ^ (8 * k) % 256] := by
  have e : beB 4 n = [n / 256 / 256 / 256 % 256, n / 256 / 256 % 256, n / 256 % 256, n % 256] := by simp [beB]
  rw [e]
  have : k = 0 ∨ k = 1 ∨ k = 2 ∨ k = 3 := by omega
  rcases this with rfl | rfl | rfl | rfl
  all_goals simp
  all_goals omega

/-
  Fetch and Text of the document's answer for a memory of bytes.
-/
/-- a byte of the memory: its address' rule, its cell, its bounds -/
theorem mem_at {w : World} {v : Value} {xs : List Int} (h : Rd .u8 w v xs) (hb : bytesL xs) (i : Int) (h0 : 0 ≤ i) (h1 : i < xs.length) :
    ∃ (ad : Addr) (b : Int), (∀ w', (Instr.indexAt 23 v (.int .i64 i)).run Try.prog w' = .ok (.pointer (some ad)) w') ∧ w.cell? ad = some (.int .u8 b) ∧ 0 ≤ b ∧ b < 256 ∧ xs.getD i.toNat 0 = b := by
  obtain ⟨ad, h2, h3⟩ := rd_idx h uB zB i h0 h1
  have hm : xs.getD i.toNat 0 ∈ xs := by
    rw [List.getD_eq_getElem?_getD, List.getElem?_eq_getElem (by omega)]
    simp
  exact ⟨ad, _, h2, h3, (hb _ hm).1, (hb _ hm).2, rfl⟩
theorem take_one (xs : List Int) (p : Nat) (h : p < xs.length) : (xs.drop p).take 1 = [xs.getD p 0] := by
  rw [List.drop_eq_getElem_cons h, List.getD_eq_getElem?_getD, List.getElem?_eq_getElem h]; rfl
theorem take_more (xs : List Int) (p n : Nat) (h : p < xs.length) : (xs.drop p).take (n + 1) = xs.getD p 0 :: (xs.drop (p + 1)).take n := by
  rw [List.drop_eq_getElem_cons h, List.getD_eq_getElem?_getD, List.getElem?_eq_getElem h]; rfl

/-
  Formed, In, Read, Get, Write, Put of the document's answer for layer 20.
-/
theorem own8_nil (base : Nat) (w : World) : Own8 base w (.slice none 0 0) [] := World.ownsRow_nil _ _ _ _
theorem own8_below {w w' : World} {base : Nat} {v : Value} {xs : List Int} (h : Own8 base w v xs) (g : Below w.heap.size w w') : Own8 base w' v xs := by
  obtain ⟨hl, h⟩ := h
  refine ⟨hl, ?_⟩
  rcases h with h | ⟨b, cap, cur, rfl, hb, hg, hc, hm, hs, ht⟩
  · exact Or.inl h
  · refine Or.inr ⟨b, cap, cur, rfl, hb, ?_, hc, hm, hs, ht⟩
    rw [g.block b (Array.getElem?_eq_some_iff.1 hg).1]
    exact hg
theorem own8_base {base base' : Nat} {w : World} {v : Value} {xs : List Int} (h : Own8 base w v xs) (hb : base' ≤ base) : Own8 base' w v xs := by
  obtain ⟨hl, h⟩ := h
  refine ⟨hl, ?_⟩
  rcases h with h | ⟨b, cap, cur, rfl, hb2, hg, hc, hm, hs, ht⟩
  · exact Or.inl h
  · exact Or.inr ⟨b, cap, cur, rfl, Nat.le_trans hb hb2, hg, hc, hm, hs, ht⟩

/-
  Write and Put of the document's answer for layer 20.
-/


/-
  EncodeText, DecodeInt, DecodeText, Join, Ints, Texts of the document's answer for properties.
-/
/-- append of one cell onto a row of the call's own -/
theorem wpList_append_one {P : Program} {w : World} {ops : Array Oper} {rest : List Oper} {o : Oper} {a : Act} {Q : Exit → Act → World → Prop} (hgd : o.guard = none) (s x : Operand) (t : TypeId)
    (ho : o.op = .call { callee := .builtin .append, args := #[s, x], argTypes := #[t, t] })
    (base : Nat) (e : TypeId) (i : TypeInfo) (z : Value) (bytes : Nat) (ht : P.underlying t = some (.slice e)) (hi : P.info? e = some i) (hz : i.zero = some z) (hsize : i.size = 1) (hby : i.bytes = bytes) (hz1 : z.cells = #[z])
    (v : Value) (cs : List Value) (hs : a.eval s = v) (hown : w.ownsRow base e 1 v cs.length cs)
    (b : Nat) (c : Value) (hx : a.eval x = .slice (some ⟨b, 0, none⟩) 1 1) (hc : w.cell? ⟨b, 0, none⟩ = some c) (hc1 : c.oneCell' = true)
    (h63 : cs.length + 1 ≤ maxLen) (hbytes : (cs.length + 1) * bytes ≤ 140737488355328) (hbase : base ≤ w.heap.size)
    (h : ∀ v' w', w'.ownsRow base e 1 v' (cs ++ [c]).length (cs ++ [c]) → w.grownBy w' v.ownBlock → wpList P ops Q rest (a.put o.dst v') w') : wpList P ops Q (o :: rest) a w := by
  refine wpList_plain hgd fun _ hK => ?_
  refine wp_append_own w s x t ho base e i z 1 bytes ht hi hz hsize hby (by rw [hz1]; rfl) (by decide) v cs.length _ hs hown ⟨b, 0, none⟩ 1 1 [c] hx (by simp) ?_ ?_ (by simpa using h63) (by simpa using hbytes) hbase ?_
  · intro j u hj
    have : j = 0 := by
      rcases Nat.eq_zero_or_pos j with h | h
      · exact h
      · rw [List.getElem?_eq_none (by simp; omega)] at hj; cases hj
    subst this
    simp at hj
    subst hj
    simpa [Addr.add] using hc
  · intro u hu
    simp at hu
    subst hu
    exact hc1
  · intro v' w' h2 h3 _
    exact hK _ _ (h v' w' (by simpa using h2) h3)

theorem enT_zero (l : List Int) (k : Nat) (h : k < l.length) (hz : l[k] = 0) : enTF l = ([], 15) := by
  unfold enTF
  rw [if_pos]
  rw [Bool.eq_false_iff]
  intro hall
  rw [List.all_eq_true] at hall
  have := hall l[k] (List.getElem_mem h)
  simp [hz] at this
theorem enT_long (l : List Int) (h : l.all (fun c => decide (¬ c = 0)) = true) (hl : 256 ≤ l.length) : enTF l = ([], 3) := by
  unfold enTF
  rw [h, if_neg (by decide), if_pos hl]
theorem enT_ok (l : List Int) (h : l.all (fun c => decide (¬ c = 0)) = true) (hl : ¬ 256 ≤ l.length) : enTF l = (l ++ [0], 0) := by
  unfold enTF
  rw [h, if_neg (by decide), if_neg hl]

theorem deT_hit (l : List Int) (i : Nat) (h : i < l.length) (hz : l[i] = 0) (inv : spl 0 [] l = spl 0 (l.take i) (l.drop i)) : deTF l = (l.take i, l.drop (i + 1), 0) := by
  have hl := spl_len 0 (l.drop (i + 1)) []
  unfold deTF
  rw [inv, List.drop_eq_getElem_cons h, spl, if_pos hz]
  cases hq : spl 0 [] (l.drop (i + 1)) with
  | nil => rw [hq] at hl; simp at hl
  | cons q r =>
    simp
    omega
theorem deT_miss (l : List Int) (inv : spl 0 [] l = spl 0 l []) : deTF l = ([], [], 2) := by
  unfold deTF
  rw [inv]
  rfl
theorem spl_step (l : List Int) (i : Nat) (h : i < l.length) (hz : ¬ l[i] = 0) (inv : spl 0 [] l = spl 0 (l.take i) (l.drop i)) : spl 0 [] l = spl 0 (l.take (i + 1)) (l.drop (i + 1)) := by
  rw [inv, List.drop_eq_getElem_cons h, spl, if_neg hz, List.take_succ_eq_append_getElem h]

/-
  bytes and Make of the document's answer for layer 21.
-/
theorem arrL : Try.prog.underlying 30 = some (.array 8 29) := by kernel_rfl
theorem arrL' : Try.prog.underlying 30 = some (.array (Try.prog.arrayLen 30) (Try.prog.elem 30)) := by kernel_rfl
theorem lenL : Try.prog.arrayLen 30 = 8 := by kernel_rfl
theorem elL : Try.prog.elem 30 = 29 := by kernel_rfl
theorem szL : (Try.prog.info? 30).map (·.size) = some 16 := by kernel_rfl
theorem pt_ix (b i : Nat) (k : IntKind) (I : Int) (hi : I = (i : Int)) (h : i < 8) (w : World) : (Instr.indexAt 30 (.pointer (some ⟨b, 0, none⟩)) (.int k I)).run Try.prog w = .ok (.pointer (some ⟨b, 2 * i, none⟩)) w := by
  subst hi
  rw [run_indexAt_array (h := arrL'), lenL, if_pos (by omega), elL, Try.sizeOf29]
  simp only [Result.andThen, Int.toNat_natCast, Addr.add_lit, Nat.zero_add, Nat.mul_comm]

theorem flat_take_be (ps : List Int) (i : Nat) (h : 2 * i + 1 < ps.length) : (ps.take (2 * (i + 1))).flatMap (beB 4) = (ps.take (2 * i)).flatMap (beB 4) ++ beB 4 (ps.getD (2 * i) 0) ++ beB 4 (ps.getD (2 * i + 1) 0) := by
  rw [show 2 * (i + 1) = 2 * i + 1 + 1 by omega, List.take_succ_eq_append_getElem (by omega), List.take_succ_eq_append_getElem (by omega)]
  simp only [List.flatMap_append, List.flatMap_cons, List.flatMap_nil, List.append_nil]
  rw [List.getD_eq_getElem?_getD, List.getD_eq_getElem?_getD, List.getElem?_eq_getElem (by omega), List.getElem?_eq_getElem (by omega)]
  rfl

def k508 : Nat := 508

/-
  Make and Select of the document's answer for layer 21.
-/
theorem lb_step (ps : List Int) (i : Nat) (h : 2 * i + 1 < ps.length) : lb64 (ps.take (2 * (i + 1))) = (lb64 (ps.take (2 * i)) && (decide (ps.getD (2 * i) 0 ≤ 64) && decide (ps.getD (2 * i + 1) 0 ≤ 64))) := by
  rw [show 2 * (i + 1) = 2 * i + 1 + 1 by omega, List.take_succ_eq_append_getElem (by omega), List.take_succ_eq_append_getElem (by omega)]
  unfold lb64
  rw [List.getD_eq_getElem?_getD, List.getD_eq_getElem?_getD, List.getElem?_eq_getElem (by omega), List.getElem?_eq_getElem (by omega)]
  simp only [List.all_append, List.all_cons, List.all_nil, Bool.and_true, Option.getD_some, Bool.and_assoc]
theorem lb_false (ps : List Int) (n : Nat) (h : lb64 (ps.take n) = false) : lb64 ps = false := by
  cases hq : lb64 ps with
  | false => rfl
  | true =>
    unfold lb64 at h hq
    rw [List.all_eq_true] at hq
    have : (ps.take n).all (fun x => decide (x ≤ 64)) = true := List.all_eq_true.2 fun x hx => hq x (List.mem_of_mem_take hx)
    rw [this] at h
    cases h

theorem lb_from (s : ByteArray) (k : Nat) : LB (s.extract k s.size) = (LB s).drop k := by
  unfold LB
  rw [ByteArray.data_extract, Array.toList_extract, List.extract_eq_take_drop, ← List.map_drop, List.take_of_length_le (by rw [List.length_drop]; exact Nat.le_refl _)]
/-- a byte of a text -/
theorem run_atT (s : ByteArray) (k : Nat) (h : k < s.size) (w : World) : (Instr.index 9 (.string s) (.int .i64 (k : Int))).run Try.prog w = .ok (.int .u8 ((LB s).getD k 0)) w := by
  rw [run_index_string (h := Try.underlying9)]
  have : (LB s).getD k 0 = (s[k].toNat : Int) := by
    unfold LB
    rw [List.getD_eq_getElem?_getD, List.getElem?_map]
    have h2 : s.data.toList[k]? = some s[k] := by rw [Array.getElem?_toList, Array.getElem?_eq_getElem h]; rfl
    rw [h2]
    rfl
  rw [this]
  simp [h]

/-
  Rows that the call has built, whose cells may be slices of the call's own themselves: what stands when another row grows or is written, by the kinds of the blocks. No Go text in sight.
-/
/-- all old blocks stand but perhaps one of kind T -/
def Kept (T : TypeId) (w w' : World) : Prop := ∃ row, w.grownBy w' row ∧ ∀ g, row = some g → ∃ cur fr, w.heap[g]? = some (.cells cur T fr)
theorem grown_none {w w' : World} (h : Below w.heap.size w w') : w.grownBy w' none := ⟨h.os, h.tape, h.output, h.size, fun k hk _ => h.block k hk⟩
theorem Kept.below {T : TypeId} {w w' : World} (h : Below w.heap.size w w') : Kept T w w' := ⟨none, grown_none h, fun g hg => by cases hg⟩
theorem Kept.own {base : Nat} {e : TypeId} {sz : Nat} {w w' : World} {v : Value} {n : Nat} {cs : List Value} (o : w.ownsRow base e sz v n cs) (g : w.grownBy w' v.ownBlock) : Kept e w w' := by
  refine ⟨_, g, fun k hk => ?_⟩
  obtain ⟨_, o⟩ := o
  rcases o with ⟨rfl, _⟩ | ⟨k', cap, cur, rfl, _, h1, _⟩
  · simp [Value.ownBlock] at hk
  · simp [Value.ownBlock] at hk
    subst hk
    exact ⟨cur, _, h1⟩
theorem Kept.stands {b : Nat} {cs : Array Value} {T : TypeId} {w w' : World} (h : Stands w b cs T) (g : w.grownBy w' (some b)) : Kept T w w' :=
  ⟨_, g, fun k hk => by cases hk; exact ⟨cs, _, h⟩⟩
/-- what does not lie in blocks of kind T -/
def Apt {α : Type} (T : TypeId) (O : World → List Value → α → Prop) : Prop := ∀ w w' cs x, Kept T w w' → O w cs x → O w' cs x
theorem own_kept {T : TypeId} {w w' : World} (k : Kept T w w') {base : Nat} {e : TypeId} {sz : Nat} {v : Value} {n : Nat} {cs : List Value} (hne : ¬ e = T) (o : w.ownsRow base e sz v n cs) : w'.ownsRow base e sz v n cs := by
  obtain ⟨row, g, hr⟩ := k
  obtain ⟨hl, o⟩ := o
  refine ⟨hl, ?_⟩
  rcases o with o | ⟨b, cap, cur, rfl, hb, h1, o⟩
  · exact Or.inl o
  · refine Or.inr ⟨b, cap, cur, rfl, hb, ?_, o⟩
    rw [g.block b (Array.getElem?_eq_some_iff.1 h1).1 (fun e0 => ?_)]
    · exact h1
    · obtain ⟨cur', fr, h2⟩ := hr b e0.symm
      rw [h1] at h2
      simp at h2
      exact hne h2.2.1
theorem stands_kept {T : TypeId} {w w' : World} (k : Kept T w w') {b : Nat} {cs : Array Value} {e : TypeId} (hne : ¬ e = T) (h : Stands w b cs e) : Stands w' b cs e := by
  obtain ⟨row, g, hr⟩ := k
  unfold Stands at h ⊢
  rw [g.block b (Array.getElem?_eq_some_iff.1 h).1 (fun e0 => ?_)]
  · exact h
  · obtain ⟨cur', fr, h2⟩ := hr b e0.symm
    rw [h] at h2
    simp at h2
    exact hne h2.2.1
/-- rows of sz cells of kind e, each as O says -/
def OwnR {α : Type} (e : TypeId) (sz : Nat) (O : World → List Value → α → Prop) (base : Nat) (w : World) (v : Value) (xs : List α) : Prop :=
  ∃ rows : List (List Value), rows.length = xs.length ∧ (∀ r ∈ rows, r.length = sz) ∧ w.ownsRow base e sz v xs.length rows.flatten ∧ ∀ i (h : i < xs.length), O w (rows.getD i []) xs[i]
theorem OwnR.nil {α : Type} (e : TypeId) (sz : Nat) (O : World → List Value → α → Prop) (base : Nat) (w : World) : OwnR e sz O base w (.slice none 0 0) ([] : List α) := ⟨[], rfl, by simp, World.ownsRow_nil _ _ _ _, fun i hi => by simp at hi⟩
theorem OwnR.row {α : Type} {e : TypeId} {sz : Nat} {O : World → List Value → α → Prop} {base : Nat} {w : World} {v : Value} {xs : List α} (h : OwnR e sz O base w v xs) : ∃ cs, w.ownsRow base e sz v xs.length cs := by
  obtain ⟨rows, _, _, h3, _⟩ := h
  exact ⟨_, h3⟩
theorem OwnR.read {α : Type} {e : TypeId} {sz : Nat} {O R : World → List Value → α → Prop} {base : Nat} {w : World} {v : Value} {xs : List α} (hsz : 0 < sz) (h : OwnR e sz O base w v xs) (hR : ∀ cs x, O w cs x → R w cs x) : SlR sz R w v xs := by
  obtain ⟨rows, h1, h2, h3, h4⟩ := h
  have h5 : SlR sz (fun _ cs (r : List Value) => cs = r) w v rows := slr_rows (n := xs.length) (e := e) (base := base) id h2 hsz (by simpa [List.flatMap_id] using h3) (fun _ _ => rfl)
  obtain ⟨rows', k1, k2, k3⟩ := h5
  have e0 : rows' = rows := by
    apply List.ext_getElem k2
    intro i hi hj
    have := k3 i hj
    rw [List.getD_eq_getElem?_getD, List.getElem?_eq_getElem hi] at this
    simpa using this
  subst e0
  exact ⟨rows', k1, h1, fun i hi => hR _ _ (h4 i hi)⟩
theorem OwnR.kept {α : Type} {T e : TypeId} {sz : Nat} {O : World → List Value → α → Prop} {base : Nat} {w w' : World} {v : Value} {xs : List α} (h : OwnR e sz O base w v xs) (k : Kept T w w') (hne : ¬ e = T) (ha : Apt T O) : OwnR e sz O base w' v xs := by
  obtain ⟨rows, h1, h2, h3, h4⟩ := h
  exact ⟨rows, h1, h2, own_kept k hne h3, fun i hi => ha _ _ _ _ k (h4 i hi)⟩
theorem OwnR.apt {α : Type} {T e : TypeId} {sz : Nat} {O : World → List Value → α → Prop} {base : Nat} (hne : ¬ e = T) (ha : Apt T O) : ∀ w w' v xs, Kept T w w' → OwnR e sz O base w v xs → OwnR e sz O base w' v xs := fun w w' v xs k h => h.kept k hne ha
/-- behind a call that leaves all that is old -/
theorem OwnR.below {α : Type} {e : TypeId} {sz : Nat} {O : World → List Value → α → Prop} {base : Nat} {w w' : World} {v : Value} {xs : List α} (h : OwnR e sz O base w v xs) (g : Below w.heap.size w w') (hO : ∀ cs x, O w cs x → O w' cs x) : OwnR e sz O base w' v xs := by
  obtain ⟨rows, h1, h2, ⟨hl, h3⟩, h4⟩ := h
  refine ⟨rows, h1, h2, ⟨hl, ?_⟩, fun i hi => hO _ _ (h4 i hi)⟩
  rcases h3 with h | ⟨b, cap, cur, rfl, hb, hg, hc⟩
  · exact Or.inl h
  · refine Or.inr ⟨b, cap, cur, rfl, hb, ?_, hc⟩
    rw [g.block b (Array.getElem?_eq_some_iff.1 hg).1]
    exact hg
theorem OwnR.le {α : Type} {e : TypeId} {sz : Nat} {O O' : World → List Value → α → Prop} {base base' : Nat} {w : World} {v : Value} {xs : List α} (hb : base' ≤ base) (h : OwnR e sz O base w v xs) (hO : ∀ cs x, O w cs x → O' w cs x) : OwnR e sz O' base' w v xs := by
  obtain ⟨rows, h1, h2, h3, h4⟩ := h
  exact ⟨rows, h1, h2, own_le hb h3, fun i hi => hO _ _ (h4 i hi)⟩
/-- a row more -/
theorem OwnR.snoc {α : Type} {e : TypeId} {sz : Nat} {O : World → List Value → α → Prop} {base : Nat} {w w' : World} {U v' : Value} {xs : List α} {x : α} {row : List Value} {rows : List (List Value)} (ha : Apt e O) (h1 : rows.length = xs.length) (h2 : ∀ r ∈ rows, r.length = sz) (h3 : w.ownsRow base e sz U xs.length rows.flatten) (h4 : ∀ i (h : i < xs.length), O w (rows.getD i []) xs[i])
    (hr : row.length = sz) (hx : O w row x) (o : w'.ownsRow base e sz v' (xs.length + 1) (rows.flatten ++ row)) (g : w.grownBy w' U.ownBlock) : OwnR e sz O base w' v' (xs ++ [x]) := by
  have k := Kept.own h3 g
  refine ⟨rows ++ [row], by simp [h1], fun r hm => ?_, by simpa using o, fun i hi => ?_⟩
  · rcases List.mem_append.1 hm with hm | hm
    · exact h2 r hm
    · simp at hm; subst hm; exact hr
  · by_cases hlt : i < xs.length
    · rw [List.getD_eq_getElem?_getD, List.getElem?_append_left (by omega), List.getElem_append_left hlt, ← List.getD_eq_getElem?_getD]
      exact ha _ _ _ _ k (h4 i hlt)
    · have hi2 : i = xs.length := by simp at hi; omega
      subst hi2
      rw [List.getD_eq_getElem?_getD, List.getElem?_append_right (by omega), h1]
      simp
      exact ha _ _ _ _ k hx
theorem flat_set {α : Type} : ∀ (rows : List (List α)) (sz i j : Nat) (u : α), (∀ r ∈ rows, r.length = sz) → i < rows.length → j < sz → rows.flatten.set (i * sz + j) u = (rows.set i ((rows.getD i []).set j u)).flatten
  | [], sz, i, j, u, _, hi, _ => by simp at hi
  | r :: rows, sz, 0, j, u, h, hi, hj => by
    have hr := h r (by simp)
    simp only [List.flatten_cons, Nat.zero_mul, Nat.zero_add, List.set_cons_zero, List.getD_cons_zero]
    rw [List.set_append_left _ _ (by omega)]
  | r :: rows, sz, i + 1, j, u, h, hi, hj => by
    have hr := h r (by simp)
    have ih := flat_set rows sz i j u (fun x hx => h x (by simp [hx])) (by simpa using hi) hj
    simp only [List.flatten_cons, List.set_cons_succ, List.getD_cons_succ]
    rw [List.set_append_right _ _ (by rw [hr, Nat.add_mul]; omega), hr, show (i + 1) * sz + j - sz = i * sz + j by rw [Nat.add_mul]; omega, ih]
/-- a cell of a row written -/
theorem OwnR.set {α : Type} {e : TypeId} {sz : Nat} {O : World → List Value → α → Prop} {base : Nat} {w : World} {g n cap : Nat} {xs : List α} {rows : List (List Value)} (ha : Apt e O) (h1 : rows.length = xs.length) (h2 : ∀ r ∈ rows, r.length = sz) (h3 : w.ownsRow base e sz (.slice (some ⟨g, 0, none⟩) n cap) xs.length rows.flatten) (h4 : ∀ i (h : i < xs.length), O w (rows.getD i []) xs[i])
    (i j : Nat) (hi : i < xs.length) (hj : j < sz) (u : Value) (x : α) (hx : O (w.setCell ⟨g, i * sz + j, none⟩ u) ((rows.getD i []).set j u) x) : OwnR e sz O base (w.setCell ⟨g, i * sz + j, none⟩ u) (.slice (some ⟨g, 0, none⟩) n cap) (xs.set i x) ∧ Kept e w (w.setCell ⟨g, i * sz + j, none⟩ u) := by
  have hn : n = xs.length := by
    obtain ⟨_, h3⟩ := h3
    rcases h3 with ⟨h, _⟩ | ⟨g', cap', cur, h, _⟩
    · simp at h
    · simp at h; exact h.2.1
  subst hn
  obtain ⟨s1, s2⟩ := h3.stored (i * sz + j) u
  have k : Kept e w (w.setCell ⟨g, i * sz + j, none⟩ u) := Kept.own (v := .slice (some ⟨g, 0, none⟩) xs.length cap) h3 (by simpa [Value.ownBlock] using s2)
  rw [flat_set rows sz i j u h2 (by omega) hj] at s1
  refine ⟨⟨rows.set i ((rows.getD i []).set j u), by simp [h1], fun r hm => ?_, by simpa using s1, fun m hm => ?_⟩, k⟩
  · rcases List.mem_or_eq_of_mem_set hm with hm | rfl
    · exact h2 r hm
    · rw [List.length_set, List.getD_eq_getElem?_getD, List.getElem?_eq_getElem (by omega)]
      exact h2 _ (List.getElem_mem _)
  · rw [List.length_set] at hm
    rw [List.getElem_set]
    by_cases him : i = m
    · subst him
      rw [if_pos rfl, List.getD_eq_getElem?_getD, List.getElem?_set_self (by omega)]
      exact hx
    · rw [if_neg him, List.getD_eq_getElem?_getD, List.getElem?_set_ne him, ← List.getD_eq_getElem?_getD]
      exact ha _ _ _ _ k (h4 m hm)

/-
  Slices of rows appended to rows of the call's own. No Go text in sight.
-/
theorem flat_get {α : Type} : ∀ (rows : List (List α)) (sz i j : Nat), (∀ r ∈ rows, r.length = sz) → i < rows.length → j < sz → rows.flatten[i * sz + j]? = (rows.getD i [])[j]?
  | [], sz, i, j, _, hi, _ => by simp at hi
  | r :: rows, sz, 0, j, h, hi, hj => by
    have hr := h r (by simp)
    simp only [List.flatten_cons, Nat.zero_mul, Nat.zero_add, List.getD_cons_zero]
    rw [List.getElem?_append_left (by omega)]
  | r :: rows, sz, i + 1, j, h, hi, hj => by
    have hr := h r (by simp)
    have ih := flat_get rows sz i j (fun x hx => h x (by simp [hx])) (by simpa using hi) hj
    simp only [List.flatten_cons, List.getD_cons_succ]
    rw [List.getElem?_append_right (by rw [hr, Nat.add_mul]; omega), hr, show (i + 1) * sz + j - sz = i * sz + j by rw [Nat.add_mul]; omega, ih]
theorem flat_len {α : Type} (rows : List (List α)) (sz : Nat) (h : ∀ r ∈ rows, r.length = sz) : rows.flatten.length = rows.length * sz := by
  induction rows with
  | nil => simp
  | cons r rows ih =>
    rw [List.flatten_cons, List.length_append, ih (fun x hx => h x (by simp [hx])), h r (by simp), List.length_cons, Nat.add_mul]
    omega
/-- append of a slice of rows onto a row of the call's own -/
theorem wp_append_rows {P : Program} {w : World} {o : Oper} {a : Act} {K : Act → World → Prop} {Q : Exit → Act → World → Prop} (s x : Operand) (t : TypeId)
    (ho : o.op = .call { callee := .builtin .append, args := #[s, x], argTypes := #[t, t] })
    (base : Nat) (e : TypeId) (i : TypeInfo) (z : Value) (sz bytes : Nat) (ht : P.underlying t = some (.slice e)) (hi : P.info? e = some i) (hz : i.zero = some z) (hsize : i.size = sz) (hby : i.bytes = bytes) (hzs : z.cells.size = sz) (hsz : 0 < sz)
    (v : Value) (n : Nat) (cs : List Value) (hs : a.eval s = v) (hown : w.ownsRow base e sz v n cs)
    (vx : Value) (rows : List (List Value)) (hx : a.eval x = vx) (hr : SlC sz w vx rows) (h1 : ∀ r ∈ rows, ∀ u ∈ r, u.oneCell' = true)
    (h63 : n + rows.length ≤ maxLen) (hbytes : (n + rows.length) * bytes ≤ 140737488355328) (hbase : base ≤ w.heap.size)
    (h : ∀ v' w', w'.ownsRow base e sz v' (n + rows.length) (cs ++ rows.flatten) → w.grownBy w' v.ownBlock → K (a.put o.dst v') w') : o.wp P a w K Q := by
  rcases hr with ⟨ao, cap, rfl, hn, rfl⟩ | ⟨b, off, cap, rfl, h0, hc1, hc2, hc⟩
  · cases ao with
    | none =>
      obtain rfl := hn rfl
      have hrun := run_append_owned_none (P := P) (w := w) base t o.type e i sz ht hi v n cs hown
      unfold Oper.wp
      simp [execOp, ho, resolve, invoke, builtin, hs, hx, hrun, Result.andThen]
      exact h v w (by simpa using hown) ⟨rfl, rfl, rfl, Nat.le_refl _, fun _ _ _ => rfl⟩
    | some ad =>
      refine wp_append_own w s x t ho base e i z sz bytes ht hi hz hsize hby hzs hsz v n _ hs hown ad 0 cap [] hx (by simp) (by simp) (by simp) (by simpa using h63) (by simpa using hbytes) hbase ?_
      intro v' w' h2 h3 _
      exact h v' w' (by simpa using h2) h3
  · have hlen : ∀ r ∈ rows, r.length = sz := by
      intro r hr
      obtain ⟨k, hk, rfl⟩ := List.getElem_of_mem hr
      have := (hc k hk).1
      rwa [List.getD_eq_getElem?_getD, List.getElem?_eq_getElem hk] at this
    refine wp_append_own w s x t ho base e i z sz bytes ht hi hz hsize hby hzs hsz v n _ hs hown ⟨b, off, none⟩ rows.length cap rows.flatten hx (flat_len rows sz hlen) ?_ (fun u hu => ?_) h63 hbytes hbase ?_
    · intro j u hj
      have hjl : j < rows.length * sz := by
        rw [← flat_len rows sz hlen]
        rcases Nat.lt_or_ge j rows.flatten.length with g | g
        · exact g
        · rw [List.getElem?_eq_none g] at hj; cases hj
      have hdm := Nat.div_add_mod j sz
      have hq : j / sz < rows.length := (Nat.div_lt_iff_lt_mul hsz).2 hjl
      have hm := Nat.mod_lt j hsz
      have e1 := flat_get rows sz (j / sz) (j % sz) hlen hq hm
      have e2 : j / sz * sz + j % sz = j := by rw [Nat.mul_comm]; exact hdm
      rw [e2, hj] at e1
      have e3 := (hc (j / sz) hq).2 (j % sz) hm
      rw [← e1, Nat.add_assoc, e2] at e3
      by_cases hz : j = 0
      · subst hz; simpa [Addr.add] using e3
      · simpa [Addr.add, hz] using e3
    · rw [List.mem_flatten] at hu
      obtain ⟨r, hr, hu⟩ := hu
      exact h1 r hr u hu
    · intro v' w' h2 h3 _
      exact h v' w' h2 h3
theorem wpList_append_rows {P : Program} {w : World} {ops : Array Oper} {rest : List Oper} {o : Oper} {a : Act} {Q : Exit → Act → World → Prop} (hgd : o.guard = none) (s x : Operand) (t : TypeId)
    (ho : o.op = .call { callee := .builtin .append, args := #[s, x], argTypes := #[t, t] })
    (base : Nat) (e : TypeId) (i : TypeInfo) (z : Value) (sz bytes : Nat) (ht : P.underlying t = some (.slice e)) (hi : P.info? e = some i) (hz : i.zero = some z) (hsize : i.size = sz) (hby : i.bytes = bytes) (hzs : z.cells.size = sz) (hsz : 0 < sz)
    (v : Value) (n : Nat) (cs : List Value) (hs : a.eval s = v) (hown : w.ownsRow base e sz v n cs)
    (vx : Value) (rows : List (List Value)) (hx : a.eval x = vx) (hr : SlC sz w vx rows) (h1 : ∀ r ∈ rows, ∀ u ∈ r, u.oneCell' = true)
    (h63 : n + rows.length ≤ maxLen) (hbytes : (n + rows.length) * bytes ≤ 140737488355328) (hbase : base ≤ w.heap.size)
    (h : ∀ v' w', w'.ownsRow base e sz v' (n + rows.length) (cs ++ rows.flatten) → w.grownBy w' v.ownBlock → wpList P ops Q rest (a.put o.dst v') w') : wpList P ops Q (o :: rest) a w :=
  wpList_plain hgd fun _ hK => wp_append_rows s x t ho base e i z sz bytes ht hi hz hsize hby hzs hsz v n cs hs hown vx rows hx hr h1 h63 hbytes hbase fun v' w' h2 h3 => hK _ _ (h v' w' h2 h3)
/-- the same as one step of a region that draws its order -/
theorem step_append_rows {P : Program} {ops : Array Oper} {w : World} {o : Oper} {a : Act} {K : Act → World → Prop} {Q : Exit → Act → World → Prop} {E : Prop} (hgd : o.guard = none) (s x : Operand) (t : TypeId)
    (ho : o.op = .call { callee := .builtin .append, args := #[s, x], argTypes := #[t, t] })
    (base : Nat) (e : TypeId) (i : TypeInfo) (z : Value) (sz bytes : Nat) (ht : P.underlying t = some (.slice e)) (hi : P.info? e = some i) (hz : i.zero = some z) (hsize : i.size = sz) (hby : i.bytes = bytes) (hzs : z.cells.size = sz) (hsz : 0 < sz)
    (v : Value) (n : Nat) (cs : List Value) (hs : a.eval s = v) (hown : w.ownsRow base e sz v n cs)
    (vx : Value) (rows : List (List Value)) (hx : a.eval x = vx) (hr : SlC sz w vx rows) (h1 : ∀ r ∈ rows, ∀ u ∈ r, u.oneCell' = true)
    (h63 : n + rows.length ≤ maxLen) (hbytes : (n + rows.length) * bytes ≤ 140737488355328) (hbase : base ≤ w.heap.size)
    (h : ∀ v' w', w'.ownsRow base e sz v' (n + rows.length) (cs ++ rows.flatten) → w.grownBy w' v.ownBlock → K (a.put o.dst v') w') :
    if Region.wanted o (yielded ops a.tmps) = true then Oper.wp P o a w K Q else E := by
  rw [if_pos (by simp [Region.wanted, hgd])]
  exact wp_append_rows s x t ho base e i z sz bytes ht hi hz hsize hby hzs hsz v n cs hs hown vx rows hx hr h1 h63 hbytes hbase h
/-- one row that was laid, as a slice of rows -/
theorem slc_one (w : World) (row : List Value) (T : TypeId) (sz : Nat) (h : row.length = sz) : SlC sz (w.alloc (.cells row.toArray T)) (.slice (some ⟨w.heap.size, 0, none⟩) 1 1) [row] := by
  refine Or.inr ⟨w.heap.size, 0, 1, rfl, by simp, by simp, by decide, fun i hi => ?_⟩
  have : i = 0 := by simp at hi; omega
  subst this
  refine ⟨by simpa using h, fun j hj => ?_⟩
  rw [World.cell?_alloc_new]
  simp

/-
  A row's cells by their places. No Go text in sight.
-/
/-- a row's cells by their places -/
theorem slr_idxN {α : Type} {P : Program} {R : World → List Value → α → Prop} {w : World} {v : Value} {xs : List α} {sz : Nat} (h : SlR sz R w v xs) {t : TypeId} (ht : P.underlying t = some (.slice (P.elem t))) (hs : ∀ w, (sizeOf (P.elem t)).run P w = .ok sz w) (i : Nat) (h1 : i < xs.length) :
    ∃ (b o : Nat) (cs : List Value), (∀ w', (Instr.indexAt t v (.int .i64 (i : Int))).run P w' = .ok (.pointer (some ⟨b, o, none⟩)) w') ∧ cs.length = sz ∧ (∀ j, j < sz → w.cell? ⟨b, o + j, none⟩ = cs[j]?) ∧ R w cs xs[i] := by
  obtain ⟨rows, g1, g2, g3⟩ := h
  obtain ⟨ao, cap, rfl, hc, hn, hx⟩ := g1.form
  obtain ⟨hm, b, off, rfl, hcell⟩ := hx (by omega)
  obtain ⟨l1, l2⟩ := hcell i (by omega)
  refine ⟨b, off + i * sz, rows.getD i [], fun w' => ?_, l1, fun j hj => l2 j hj, g3 i h1⟩
  rw [run_indexAt_slice (h := ht), if_pos ⟨by omega, by omega⟩, hs]
  simp only [Result.andThen, Int.toNat_natCast]
  congr 3
  unfold Addr.add
  split
  · rename_i hz; rw [hz]; rfl
  · rfl

end Go.Proofs.Ytnaoefjcfmdenab
