/-
  Rows of structs: appended to a row of the call's own, and read from it. No Go text in sight.
-/
import Derived.Test.YtaiimfdcbdfbdaaDoorSg
import Derived.Deep.RegionLaw
namespace Go.Proofs.YtaiimfdcbdfbdaaDoor
open Go.ChangeShapes Go.WideShapes Go.ChangeAt Go.RowKit
set_option linter.unusedVariables false
set_option linter.unusedSimpArgs false

/-- append of one row of cells onto a row of the call's own -/
theorem wpList_append_row {P : Program} {w : World} {ops : Array Oper} {rest : List Oper} {o : Oper} {a : Act} {Q : Exit → Act → World → Prop} (hgd : o.guard = none) (s x : Operand) (t : TypeId)
    (ho : o.op = .call { callee := .builtin .append, args := #[s, x], argTypes := #[t, t] })
    (base : Nat) (e : TypeId) (i : TypeInfo) (z : Value) (sz bytes : Nat) (ht : P.underlying t = some (.slice e)) (hi : P.info? e = some i) (hz : i.zero = some z) (hsize : i.size = sz) (hby : i.bytes = bytes) (hzs : z.cells.size = sz) (hsz : 0 < sz)
    (v : Value) (n : Nat) (cs : List Value) (hs : a.eval s = v) (hown : w.ownsRow base e sz v n cs)
    (b : Nat) (row : List Value) (hx : a.eval x = .slice (some ⟨b, 0, none⟩) 1 1) (hl : row.length = sz) (hc : ∀ j u, row[j]? = some u → w.cell? ⟨b, j, none⟩ = some u) (h1 : ∀ u ∈ row, u.oneCell' = true)
    (h63 : n + 1 ≤ maxLen) (hbytes : (n + 1) * bytes ≤ 140737488355328) (hbase : base ≤ w.heap.size)
    (h : ∀ v' w', w'.ownsRow base e sz v' (n + 1) (cs ++ row) → w.grownBy w' v.ownBlock → wpList P ops Q rest (a.put o.dst v') w') : wpList P ops Q (o :: rest) a w := by
  refine wpList_plain hgd fun _ hK => ?_
  refine wp_append_own w s x t ho base e i z sz bytes ht hi hz hsize hby hzs hsz v n cs hs hown ⟨b, 0, none⟩ 1 1 row hx (by omega) ?_ h1 h63 hbytes hbase ?_
  · intro j u hj
    have := hc j u hj
    by_cases hz : j = 0
    · subst hz; simpa [Addr.add] using this
    · simpa [Addr.add, hz] using this
  · intro v' w' h2 h3 _
    exact hK _ _ (h v' w' h2 h3)
/-- append of a slice that is read, as one step of a region that draws its order -/
theorem step_append_rd {P : Program} {ops : Array Oper} {w : World} {k : IntKind} {o : Oper} {a : Act} {K : Act → World → Prop} {Q : Exit → Act → World → Prop} {E : Prop} (hgd : o.guard = none) (s x : Operand) (t : TypeId)
    (ho : o.op = .call { callee := .builtin .append, args := #[s, x], argTypes := #[t, t] })
    (base : Nat) (e : TypeId) (i : TypeInfo) (bytes : Nat) (ht : P.underlying t = some (.slice e)) (hi : P.info? e = some i) (hz : i.zero = some (.int k 0)) (hsize : i.size = 1) (hby : i.bytes = bytes)
    (v : Value) (ys : List Int) (hs : a.eval s = v) (hown : w.ownsRow base e 1 v ys.length (ys.map (Value.int k)))
    (vx : Value) (xs : List Int) (hx : a.eval x = vx) (hr : Rd k w vx xs)
    (h63 : ys.length + xs.length ≤ maxLen) (hbytes : (ys.length + xs.length) * bytes ≤ 140737488355328) (hbase : base ≤ w.heap.size)
    (h : ∀ v' w', w'.ownsRow base e 1 v' (ys ++ xs).length ((ys ++ xs).map (Value.int k)) → w.grownBy w' v.ownBlock → K (a.put o.dst v') w') :
    if Region.wanted o (yielded ops a.tmps) = true then Oper.wp P o a w K Q else E := by
  rw [if_pos (by simp [Region.wanted, hgd])]
  exact wp_append_rd s x t ho base e i bytes ht hi hz hsize hby v ys hs hown vx xs hx hr h63 hbytes hbase h
/-- a block that was laid of a row -/
theorem alloc_row (w : World) (row : List Value) (T : TypeId) : ∀ j u, row[j]? = some u → (w.alloc (.cells row.toArray T)).cell? ⟨w.heap.size, j, none⟩ = some u := by
  intro j u h
  rw [World.cell?_alloc_new]
  simpa using h
theorem alloc_rowS (w : World) (a : Addr) (v : Value) (row : List Value) (T : TypeId) : ∀ j u, row[j]? = some u → ((w.setCell a v).alloc (.cells row.toArray T)).cell? ⟨w.heap.size, j, none⟩ = some u := by
  intro j u h
  have := alloc_row (w.setCell a v) row T j u h
  rwa [show (w.setCell a v).heap.size = w.heap.size by simp [World.setCell]] at this
theorem alloc_rowSS (w : World) (a b : Addr) (v u' : Value) (row : List Value) (T : TypeId) : ∀ j u, row[j]? = some u → (((w.setCell a v).setCell b u').alloc (.cells row.toArray T)).cell? ⟨w.heap.size, j, none⟩ = some u := by
  intro j u h
  have := alloc_row ((w.setCell a v).setCell b u') row T j u h
  rwa [show ((w.setCell a v).setCell b u').heap.size = w.heap.size by simp [World.setCell]] at this
/-- a variable that is boxed: what is there behind calls that leave all that is old -/
theorem box_at {w w' : World} {cs : Array Value} {T : TypeId} (h : Below (w.alloc (.cells cs T)).heap.size (w.alloc (.cells cs T)) w') :
    (∀ j u, cs[j]? = some u → w'.cell? ⟨w.heap.size, j, none⟩ = some u) ∧ (∀ j, w'.frozen? ⟨w.heap.size, j, none⟩ = false) ∧ Below w.heap.size w w' := by
  have hb : w'.heap[w.heap.size]? = some (.cells cs T (0, 0)) := by
    rw [h.block w.heap.size (by rw [size_al]; omega)]
    exact heap_alloc_new w _
  refine ⟨fun j u hj => ?_, fun j => ?_, ?_⟩
  · simp [World.cell?, hb, hj]
  · simp [World.frozen?, hb]
  · exact below_trans (box_below w _) h
/-- what the call has built of rows reads as the list that they were built of -/
theorem slr_rows {α : Type} {R : World → List Value → α → Prop} {w : World} {base : Nat} {e : TypeId} {v : Value} {n sz : Nat} {xs : List α} (f : α → List Value) (hf : ∀ x ∈ xs, (f x).length = sz) (hsz : 0 < sz) (h : w.ownsRow base e sz v n (xs.flatMap f)) (hR : ∀ x ∈ xs, R w (f x) x) : SlR sz R w v xs := by
  obtain ⟨hl, h⟩ := h
  have hlen : ∀ ys : List α, (∀ x ∈ ys, (f x).length = sz) → (ys.flatMap f).length = ys.length * sz := by
    intro ys
    induction ys with
    | nil => intro _; simp
    | cons y ys ih =>
      intro hy
      rw [List.flatMap_cons, List.length_append, ih (fun x hx => hy x (by simp [hx])), hy y (by simp), List.length_cons, Nat.add_mul, Nat.one_mul]
      omega
  have hn : n = xs.length := by
    rw [hlen xs hf] at hl
    exact (Nat.eq_of_mul_eq_mul_right hsz hl).symm
  have hat : ∀ (ys : List α) (i : Nat) (hi : i < ys.length), (∀ x ∈ ys, (f x).length = sz) → ∀ j, j < sz → (ys.flatMap f)[i * sz + j]? = (f ys[i])[j]? := by
    intro ys
    induction ys with
    | nil => intro i hi; simp at hi
    | cons y ys ih =>
      intro i hi hy j hj
      have hy0 := hy y (by simp)
      rw [List.flatMap_cons]
      cases i with
      | zero =>
        rw [List.getElem?_append_left (by omega)]
        simp
      | succ i =>
        rw [Nat.add_mul, Nat.one_mul, List.getElem?_append_right (by omega), show i * sz + sz + j - (f y).length = i * sz + j by omega]
        exact ih i (by simpa using hi) (fun x hx => hy x (by simp [hx])) j hj
  refine ⟨xs.map f, ?_, by simp, fun i hi => ?_⟩
  · rcases h with ⟨rfl, h0⟩ | ⟨g, cap, cur, rfl, hb, hg, hc, hm, hs, ht⟩
    · have : xs = [] := List.eq_nil_of_length_eq_zero (by omega)
      subst this
      exact Or.inl ⟨none, 0, rfl, fun _ => rfl, rfl⟩
    · rcases Nat.eq_zero_or_pos xs.length with h0 | h0
      · have : xs = [] := List.eq_nil_of_length_eq_zero h0
        subst this
        exact Or.inl ⟨_, _, by rw [hn]; rfl, (fun h => by cases h), rfl⟩
      · refine Or.inr ⟨g, 0, cap, by rw [hn, List.length_map], by rw [List.length_map]; exact h0, by rw [List.length_map]; omega, hm, fun i hi => ?_⟩
        have hi2 : i < xs.length := by simpa using hi
        have e1 : (xs.map f).getD i [] = f xs[i] := by simp [List.getD_eq_getElem?_getD, List.getElem?_eq_getElem hi2]
        rw [e1]
        refine ⟨hf _ (List.getElem_mem hi2), fun j hj => ?_⟩
        have e2 := hat xs i hi2 hf j hj
        have hlt : i * sz + j < n * sz := by
          have : (i + 1) * sz ≤ n * sz := Nat.mul_le_mul_right _ (by omega)
          rw [Nat.add_mul, Nat.one_mul] at this
          omega
        rw [← ht, List.getElem?_take, if_pos hlt] at e2
        rw [← e2]
        simp [World.cell?, hg]
  · have e1 : (xs.map f).getD i [] = f xs[i] := by simp [List.getD_eq_getElem?_getD, List.getElem?_eq_getElem hi]
    rw [e1]
    exact hR _ (List.getElem_mem hi)

/-- an element of three cells: its address' rule, its cells, what it reads as -/
theorem slr_idx3 {α : Type} {P : Program} {R : World → List Value → α → Prop} {w : World} {v : Value} {xs : List α} (h : SlR 3 R w v xs) {t : TypeId} (ht : P.underlying t = some (.slice (P.elem t))) (hs : ∀ w, (sizeOf (P.elem t)).run P w = .ok 3 w) (i : Nat) (h1 : i < xs.length) :
    ∃ (b o : Nat) (c0 c1 c2 : Value), (∀ w', (Instr.indexAt t v (.int .i64 (i : Int))).run P w' = .ok (.pointer (some ⟨b, o, none⟩)) w') ∧ w.cell? ⟨b, o, none⟩ = some c0 ∧ w.cell? ⟨b, o + 1, none⟩ = some c1 ∧ w.cell? ⟨b, o + 2, none⟩ = some c2 ∧ R w [c0, c1, c2] xs[i] := by
  obtain ⟨rows, g1, g2, g3⟩ := h
  obtain ⟨ao, cap, rfl, hc, hn, hx⟩ := g1.form
  obtain ⟨hm, b, off, rfl, hcell⟩ := hx (by omega)
  obtain ⟨l1, l2⟩ := hcell i (by omega)
  have e0 := l2 0 (by omega)
  have e1 := l2 1 (by omega)
  have e2 := l2 2 (by omega)
  have hr := g3 i h1
  match hrow : rows.getD i [], l1 with
  | [c0, c1, c2], _ =>
    rw [hrow] at e0 e1 e2 hr
    refine ⟨b, off + i * 3, c0, c1, c2, fun w' => ?_, by simpa using e0, by simpa using e1, by simpa using e2, hr⟩
    rw [run_indexAt_slice (h := ht), if_pos ⟨by omega, by omega⟩, hs]
    simp only [Result.andThen, Int.toNat_natCast]
    congr 3
    unfold Addr.add
    split
    · rename_i hz; rw [hz]; rfl
    · rfl
end Go.Proofs.YtaiimfdcbdfbdaaDoor
