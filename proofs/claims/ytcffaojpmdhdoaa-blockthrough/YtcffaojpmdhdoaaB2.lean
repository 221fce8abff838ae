/-
  Texts of one proof, laid one behind the other: St Sd Bam Bka Cp Bkb Bkc Ark.
-/
import Derived.Test.YtcffaojpmdhdoaaB1
import Derived.Deep.RegionLaw
import Derived.Laws.StructEq
import Derived.Laws.CopyOwn
import Derived.Lib.BufferWrite
import Derived.Deep.OwnRows
import Derived.Deep.MidRow
import Derived.Deep.WholeRow
namespace Go.Proofs.Ytcffaojpmdhdoaa
open Go.ChangeShapes Go.WideShapes Go.ChangeAt Go.RowKit
set_option linter.unusedVariables false
set_option linter.unusedSimpArgs false

/-
  Rows of structs: appended to a row of the call's own, and read from it. No Go text in sight.
-/
/-- append of one row of cells onto a row of the call's own -/
theorem wpList_append_row {P : Program} {w : World} {ops : Array Oper} {rest : List Oper} {o : Oper} {a : Act} {Q : Exit → Act → World → Prop} (hgd : o.guard = none) (s x : Operand) (t : TypeId)
    (ho : o.op = .call { callee := .builtin .append, args := #[s, x], argTypes := #[t, t] })
    (base : Nat) (e : TypeId) (i : TypeInfo) (z : Value) (sz bytes : Nat) (ht : P.underlying t = some (.slice e)) (hi : P.info? e = some i) (hz : i.zero = some z) (hsize : i.size = sz) (hby : i.bytes = bytes) (hzs : z.cells.size = sz) (hsz : 0 < sz)
    (v : Value) (n : Nat) (cs : List Value) (hs : a.eval s = v) (hown : w.ownsRow base e sz v n cs)
    (b : Nat) (row : List Value) (hx : a.eval x = .slice (some ⟨b, 0, none⟩) 1 1) (hl : row.length = sz) (hc : ∀ j u, row[j]? = some u → w.cell? ⟨b, j, none⟩ = some u) (h1 : ∀ u ∈ row, u.oneCell' = true)
    (h63 : n + 1 ≤ maxLen) (hbytes : (n + 1) * bytes ≤ 140737488355328) (hbase : base ≤ w.heap.size)
    (h : ∀ v' w', w'.ownsRow base e sz v' (n + 1) (cs ++ row) → w.grownBy w' v.ownBlock → wpList P ops Q rest (a.put o.dst v') w') : wpList P ops Q (o :: rest) a w := by
  refine wpList_plain hgd fun _ hK => ?_
  refine wp_append_own w s x t ho base e i z sz bytes ht hi hz hsize hby hzs hsz v n cs hs hown ⟨b, 0, none⟩ 1 1 row hx (by omega) ?_ h1 h63 hbytes hbase ?_
  · intro j u hj
    have := hc j u hj
    by_cases hz : j = 0
    · subst hz; simpa [Addr.add] using this
    · simpa [Addr.add, hz] using this
  · intro v' w' h2 h3 _
    exact hK _ _ (h v' w' h2 h3)
/-- append of a slice that is read, as one step of a region that draws its order -/
theorem step_append_rd {P : Program} {ops : Array Oper} {w : World} {k : IntKind} {o : Oper} {a : Act} {K : Act → World → Prop} {Q : Exit → Act → World → Prop} {E : Prop} (hgd : o.guard = none) (s x : Operand) (t : TypeId)
    (ho : o.op = .call { callee := .builtin .append, args := #[s, x], argTypes := #[t, t] })
    (base : Nat) (e : TypeId) (i : TypeInfo) (bytes : Nat) (ht : P.underlying t = some (.slice e)) (hi : P.info? e = some i) (hz : i.zero = some (.int k 0)) (hsize : i.size = 1) (hby : i.bytes = bytes)
    (v : Value) (ys : List Int) (hs : a.eval s = v) (hown : w.ownsRow base e 1 v ys.length (ys.map (Value.int k)))
    (vx : Value) (xs : List Int) (hx : a.eval x = vx) (hr : Rd k w vx xs)
    (h63 : ys.length + xs.length ≤ maxLen) (hbytes : (ys.length + xs.length) * bytes ≤ 140737488355328) (hbase : base ≤ w.heap.size)
    (h : ∀ v' w', w'.ownsRow base e 1 v' (ys ++ xs).length ((ys ++ xs).map (Value.int k)) → w.grownBy w' v.ownBlock → K (a.put o.dst v') w') :
    if Region.wanted o (yielded ops a.tmps) = true then Oper.wp P o a w K Q else E := by
  rw [if_pos (by simp [Region.wanted, hgd])]
  exact wp_append_rd s x t ho base e i bytes ht hi hz hsize hby v ys hs hown vx xs hx hr h63 hbytes hbase h
/-- a block that was laid of a row -/
theorem alloc_row (w : World) (row : List Value) (T : TypeId) : ∀ j u, row[j]? = some u → (w.alloc (.cells row.toArray T)).cell? ⟨w.heap.size, j, none⟩ = some u := by
  intro j u h
  rw [World.cell?_alloc_new]
  simpa using h
theorem alloc_rowS (w : World) (a : Addr) (v : Value) (row : List Value) (T : TypeId) : ∀ j u, row[j]? = some u → ((w.setCell a v).alloc (.cells row.toArray T)).cell? ⟨w.heap.size, j, none⟩ = some u := by
  intro j u h
  have := alloc_row (w.setCell a v) row T j u h
  rwa [show (w.setCell a v).heap.size = w.heap.size by simp [World.setCell]] at this
theorem alloc_rowSS (w : World) (a b : Addr) (v u' : Value) (row : List Value) (T : TypeId) : ∀ j u, row[j]? = some u → (((w.setCell a v).setCell b u').alloc (.cells row.toArray T)).cell? ⟨w.heap.size, j, none⟩ = some u := by
  intro j u h
  have := alloc_row ((w.setCell a v).setCell b u') row T j u h
  rwa [show ((w.setCell a v).setCell b u').heap.size = w.heap.size by simp [World.setCell]] at this
/-- a variable that is boxed: what is there behind calls that leave all that is old -/
theorem box_at {w w' : World} {cs : Array Value} {T : TypeId} (h : Below (w.alloc (.cells cs T)).heap.size (w.alloc (.cells cs T)) w') :
    (∀ j u, cs[j]? = some u → w'.cell? ⟨w.heap.size, j, none⟩ = some u) ∧ (∀ j, w'.frozen? ⟨w.heap.size, j, none⟩ = false) ∧ Below w.heap.size w w' := by
  have hb : w'.heap[w.heap.size]? = some (.cells cs T (0, 0)) := by
    rw [h.block w.heap.size (by rw [size_al]; omega)]
    exact heap_alloc_new w _
  refine ⟨fun j u hj => ?_, fun j => ?_, ?_⟩
  · simp [World.cell?, hb, hj]
  · simp [World.frozen?, hb]
  · exact below_trans (box_below w _) h
/-- what the call has built of rows reads as the list that they were built of -/
theorem slr_rows {α : Type} {R : World → List Value → α → Prop} {w : World} {base : Nat} {e : TypeId} {v : Value} {n sz : Nat} {xs : List α} (f : α → List Value) (hf : ∀ x ∈ xs, (f x).length = sz) (hsz : 0 < sz) (h : w.ownsRow base e sz v n (xs.flatMap f)) (hR : ∀ x ∈ xs, R w (f x) x) : SlR sz R w v xs := by
  obtain ⟨hl, h⟩ := h
  have hlen : ∀ ys : List α, (∀ x ∈ ys, (f x).length = sz) → (ys.flatMap f).length = ys.length * sz := by
    intro ys
    induction ys with
    | nil => intro _; simp
    | cons y ys ih =>
      intro hy
      rw [List.flatMap_cons, List.length_append, ih (fun x hx => hy x (by simp [hx])), hy y (by simp), List.length_cons, Nat.add_mul, Nat.one_mul]
      omega
  have hn : n = xs.length := by
    rw [hlen xs hf] at hl
    exact (Nat.eq_of_mul_eq_mul_right hsz hl).symm
  have hat : ∀ (ys : List α) (i : Nat) (hi : i < ys.length), (∀ x ∈ ys, (f x).length = sz) → ∀ j, j < sz → (ys.flatMap f)[i * sz + j]? = (f ys[i])[j]? := by
    intro ys
    induction ys with
    | nil => intro i hi; simp at hi
    | cons y ys ih =>
      intro i hi hy j hj
      have hy0 := hy y (by simp)
      rw [List.flatMap_cons]
      cases i with
      | zero =>
        rw [List.getElem?_append_left (by omega)]
        simp
      | succ i =>
        rw [Nat.add_mul, Nat.one_mul, List.getElem?_append_right (by omega), show i * sz + sz + j - (f y).length = i * sz + j by omega]
        exact ih i (by simpa using hi) (fun x hx => hy x (by simp [hx])) j hj
  refine ⟨xs.map f, ?_, by simp, fun i hi => ?_⟩
  · rcases h with ⟨rfl, h0⟩ | ⟨g, cap, cur, rfl, hb, hg, hc, hm, hs, ht⟩
    · have : xs = [] := List.eq_nil_of_length_eq_zero (by omega)
      subst this
      exact Or.inl ⟨none, 0, rfl, fun _ => rfl, rfl⟩
    · rcases Nat.eq_zero_or_pos xs.length with h0 | h0
      · have : xs = [] := List.eq_nil_of_length_eq_zero h0
        subst this
        exact Or.inl ⟨_, _, by rw [hn]; rfl, (fun h => by cases h), rfl⟩
      · refine Or.inr ⟨g, 0, cap, by rw [hn, List.length_map], by rw [List.length_map]; exact h0, by rw [List.length_map]; omega, hm, fun i hi => ?_⟩
        have hi2 : i < xs.length := by simpa using hi
        have e1 : (xs.map f).getD i [] = f xs[i] := by simp [List.getD_eq_getElem?_getD, List.getElem?_eq_getElem hi2]
        rw [e1]
        refine ⟨hf _ (List.getElem_mem hi2), fun j hj => ?_⟩
        have e2 := hat xs i hi2 hf j hj
        have hlt : i * sz + j < n * sz := by
          have : (i + 1) * sz ≤ n * sz := Nat.mul_le_mul_right _ (by omega)
          rw [Nat.add_mul, Nat.one_mul] at this
          omega
        rw [← ht, List.getElem?_take, if_pos hlt] at e2
        rw [← e2]
        simp [World.cell?, hg]
  · have e1 : (xs.map f).getD i [] = f xs[i] := by simp [List.getD_eq_getElem?_getD, List.getElem?_eq_getElem hi]
    rw [e1]
    exact hR _ (List.getElem_mem hi)

/-- an element of three cells: its address' rule, its cells, what it reads as -/
theorem slr_idx3 {α : Type} {P : Program} {R : World → List Value → α → Prop} {w : World} {v : Value} {xs : List α} (h : SlR 3 R w v xs) {t : TypeId} (ht : P.underlying t = some (.slice (P.elem t))) (hs : ∀ w, (sizeOf (P.elem t)).run P w = .ok 3 w) (i : Nat) (h1 : i < xs.length) :
    ∃ (b o : Nat) (c0 c1 c2 : Value), (∀ w', (Instr.indexAt t v (.int .i64 (i : Int))).run P w' = .ok (.pointer (some ⟨b, o, none⟩)) w') ∧ w.cell? ⟨b, o, none⟩ = some c0 ∧ w.cell? ⟨b, o + 1, none⟩ = some c1 ∧ w.cell? ⟨b, o + 2, none⟩ = some c2 ∧ R w [c0, c1, c2] xs[i] := by
  obtain ⟨rows, g1, g2, g3⟩ := h
  obtain ⟨ao, cap, rfl, hc, hn, hx⟩ := g1.form
  obtain ⟨hm, b, off, rfl, hcell⟩ := hx (by omega)
  obtain ⟨l1, l2⟩ := hcell i (by omega)
  have e0 := l2 0 (by omega)
  have e1 := l2 1 (by omega)
  have e2 := l2 2 (by omega)
  have hr := g3 i h1
  match hrow : rows.getD i [], l1 with
  | [c0, c1, c2], _ =>
    rw [hrow] at e0 e1 e2 hr
    refine ⟨b, off + i * 3, c0, c1, c2, fun w' => ?_, by simpa using e0, by simpa using e1, by simpa using e2, hr⟩
    rw [run_indexAt_slice (h := ht), if_pos ⟨by omega, by omega⟩, hs]
    simp only [Result.andThen, Int.toNat_natCast]
    congr 3
    unfold Addr.add
    split
    · rename_i hz; rw [hz]; rfl
    · rfl

/-
  Blocks that stand in a world: variables that are boxed, results kept in memory. No Go text in sight.
-/
theorem own_le {w : World} {b b' : Nat} {e : TypeId} {sz : Nat} {v : Value} {n : Nat} {cs : List Value} (h : b ≤ b') (o : w.ownsRow b' e sz v n cs) : w.ownsRow b e sz v n cs := by
  obtain ⟨hl, o⟩ := o
  refine ⟨hl, ?_⟩
  rcases o with o | ⟨g, cap, cur, rfl, hb, o⟩
  · exact Or.inl o
  · exact Or.inr ⟨g, cap, cur, rfl, by omega, o⟩
theorem own_form {w : World} {b : Nat} {e : TypeId} {sz : Nat} {v : Value} {n : Nat} {cs : List Value} (o : w.ownsRow b e sz v n cs) : ∃ ao cap, v = .slice ao n cap := by
  obtain ⟨hl, o⟩ := o
  rcases o with ⟨rfl, h0⟩ | ⟨g, cap, cur, rfl, o⟩
  · exact ⟨none, 0, by rw [h0]⟩
  · exact ⟨_, _, rfl⟩
theorem alloc_row2 (w : World) (A : Obj) (row : List Value) (T : TypeId) : ∀ j u, row[j]? = some u → ((w.alloc A).alloc (.cells row.toArray T)).cell? ⟨w.heap.size + 1, j, none⟩ = some u := by
  intro j u h
  have := alloc_row (w.alloc A) row T j u h
  rwa [size_al] at this
/-- a block that stands in a world: its cells, and that they may be written -/
def Stands (w : World) (b : Nat) (cs : Array Value) (T : TypeId) : Prop := w.heap[b]? = some (.cells cs T (0, 0))
theorem stands_new (w : World) (cs : Array Value) (T : TypeId) : Stands (w.alloc (.cells cs T)) w.heap.size cs T := heap_alloc_new w _
theorem Stands.below {w w' : World} {b : Nat} {cs : Array Value} {T : TypeId} (h : Stands w b cs T) (g : Below w.heap.size w w') : Stands w' b cs T := by
  unfold Stands at h ⊢
  rw [g.block b (Array.getElem?_eq_some_iff.1 h).1]
  exact h
theorem Stands.cell {w : World} {b : Nat} {cs : Array Value} {T : TypeId} (h : Stands w b cs T) (j : Nat) (u : Value) (hj : cs[j]? = some u) : w.cell? ⟨b, j, none⟩ = some u := by
  unfold Stands at h
  simp [World.cell?, h, hj]
theorem Stands.free {w : World} {b : Nat} {cs : Array Value} {T : TypeId} (h : Stands w b cs T) (j : Nat) : w.frozen? ⟨b, j, none⟩ = false := by
  unfold Stands at h
  simp [World.frozen?, h]
theorem Stands.set {w : World} {b : Nat} {cs : Array Value} {T : TypeId} (h : Stands w b cs T) (j : Nat) (u : Value) : Stands (w.setCell ⟨b, j, none⟩ u) b (cs.setIfInBounds j u) T := by
  unfold Stands at h ⊢
  have hb := (Array.getElem?_eq_some_iff.1 h).1
  have e : w.heap[b] = .cells cs T (0, 0) := (Array.getElem?_eq_some_iff.1 h).2
  simp only [World.setCell]
  rw [Array.getElem?_modify, if_pos rfl, Array.getElem?_eq_getElem hb, e]
  rfl
theorem Stands.other {w : World} {b b' : Nat} {cs : Array Value} {T : TypeId} (h : Stands w b cs T) (j : Nat) (u : Value) (hb : b ≠ b') : Stands (w.setCell ⟨b', j, none⟩ u) b cs T := by
  unfold Stands at h ⊢
  simp only [World.setCell]
  rw [Array.getElem?_modify, if_neg (by omega)]
  exact h
theorem own_other {w : World} {b : Nat} {e : TypeId} {v : Value} {n : Nat} {cs : List Value} (o : w.ownsRow b e 1 v n cs) (g : Nat) (j : Nat) (u : Value) (hg : g < b) : (w.setCell ⟨g, j, none⟩ u).ownsRow b e 1 v n cs := by
  obtain ⟨hl, o⟩ := o
  refine ⟨hl, ?_⟩
  rcases o with o | ⟨g', cap, cur, rfl, hb, h1, o⟩
  · exact Or.inl o
  · refine Or.inr ⟨g', cap, cur, rfl, hb, ?_, o⟩
    simp only [World.setCell]
    rw [Array.getElem?_modify, if_neg (by omega)]
    exact h1
theorem below_set {w w' : World} (h : Below w.heap.size w w') (g j : Nat) (u : Value) (hg : w.heap.size ≤ g) : Below w.heap.size w (w'.setCell ⟨g, j, none⟩ u) := by
  refine ⟨h.os, h.tape, h.output, by simpa [World.setCell] using h.size, fun k hk => ?_⟩
  rw [← h.block k hk]
  simp only [World.setCell]
  rw [Array.getElem?_modify, if_neg (by omega)]
/-- a block of another kind lies apart from a row of the call's own -/
theorem stands_apart {w : World} {b : Nat} {cs : Array Value} {T : TypeId} {base : Nat} {e : TypeId} {v : Value} {n sz : Nat} {xs : List Value} (h : Stands w b cs T) (o : w.ownsRow base e sz v n xs) (ht : ¬ e = T) : some b ≠ v.ownBlock := by
  obtain ⟨hl, o⟩ := o
  rcases o with ⟨rfl, h0⟩ | ⟨g, cap, cur, rfl, hb, hg, o⟩
  · simp [Value.ownBlock]
  · intro hh
    simp [Value.ownBlock] at hh
    subst hh
    unfold Stands at h
    rw [h] at hg
    simp at hg
    exact ht hg.2.symm
theorem Stands.grown {w w' : World} {b : Nat} {cs : Array Value} {T : TypeId} {row : Option Nat} (h : Stands w b cs T) (g : w.grownBy w' row) (hr : some b ≠ row) : Stands w' b cs T := by
  unfold Stands at h ⊢
  rw [g.block b (Array.getElem?_eq_some_iff.1 h).1 hr]
  exact h

/-
  Rows of what is done to sectors (api.Act) in memory: two cells each.
-/
def acC (p : Bool × Int) : List Value := [.bool p.1, .int .i64 p.2]
def acR (_ : World) (cs : List Value) (p : Bool × Int) : Prop := cs = acC p
theorem acR_below {w w' : World} (cs : List Value) (x : Bool × Int) (h : acR w cs x) : acR w' cs x := h
theorem uAc : Try.prog.underlying 32 = some (.slice (Try.prog.elem 32)) := by kernel_rfl
theorem eAc : Try.prog.elem 32 = 36 := by kernel_rfl
theorem zAc (w : World) : (sizeOf (Try.prog.elem 32)).run Try.prog w = .ok 2 w := by rw [eAc]; exact Try.sizeOf36 w
theorem infoAc : (Try.prog.info? 36).map (fun i => (i.zero, i.size, i.bytes)) = some (some (.agg #[.bool false, .int .i64 0]), 2, 16) := by kernel_rfl
theorem info_ac : ∃ i, Try.prog.info? 36 = some i ∧ i.zero = some (.agg #[.bool false, .int .i64 0]) ∧ i.size = 2 ∧ i.bytes = 16 := by
  obtain ⟨i, h1, h2⟩ := Option.map_eq_some_iff.1 infoAc
  injection h2 with h2 h3
  injection h3 with h3 h4
  exact ⟨i, h1, h2, h3, h4⟩
/-- an element of two cells: its address' rule, its cells, what it reads as -/
theorem slr_idx2 {α : Type} {P : Program} {R : World → List Value → α → Prop} {w : World} {v : Value} {xs : List α} (h : SlR 2 R w v xs) {t : TypeId} (ht : P.underlying t = some (.slice (P.elem t))) (hs : ∀ w, (sizeOf (P.elem t)).run P w = .ok 2 w) (i : Nat) (h1 : i < xs.length) :
    ∃ (b o : Nat) (c0 c1 : Value), (∀ w', (Instr.indexAt t v (.int .i64 (i : Int))).run P w' = .ok (.pointer (some ⟨b, o, none⟩)) w') ∧ w.cell? ⟨b, o, none⟩ = some c0 ∧ w.cell? ⟨b, o + 1, none⟩ = some c1 ∧ R w [c0, c1] xs[i] := by
  obtain ⟨rows, g1, g2, g3⟩ := h
  obtain ⟨ao, cap, rfl, hc, hn, hx⟩ := g1.form
  obtain ⟨hm, b, off, rfl, hcell⟩ := hx (by omega)
  obtain ⟨l1, l2⟩ := hcell i (by omega)
  have e0 := l2 0 (by omega)
  have e1 := l2 1 (by omega)
  have hr := g3 i h1
  match hrow : rows.getD i [], l1 with
  | [c0, c1], _ =>
    rw [hrow] at e0 e1 hr
    refine ⟨b, off + i * 2, c0, c1, fun w' => ?_, by simpa using e0, by simpa using e1, hr⟩
    rw [run_indexAt_slice (h := ht), if_pos ⟨by omega, by omega⟩, hs]
    simp only [Result.andThen, Int.toNat_natCast]
    congr 3
    unfold Addr.add
    split
    · rename_i hz; rw [hz]; rfl
    · rfl
theorem ac_at {w : World} {v : Value} {xs : List (Bool × Int)} (h : SlR 2 acR w v xs) (i : Nat) (h1 : i < xs.length) :
    ∃ (b o : Nat) (W : Bool) (S : Int), (∀ w', (Instr.indexAt 32 v (.int .i64 (i : Int))).run Try.prog w' = .ok (.pointer (some ⟨b, o, none⟩)) w') ∧ w.cell? ⟨b, o, none⟩ = some (.bool W) ∧ w.cell? ⟨b, o + 1, none⟩ = some (.int .i64 S) ∧ xs[i] = (W, S) := by
  obtain ⟨b, o, c0, c1, r, e0, e1, hR⟩ := slr_idx2 h uAc zAc i h1
  simp only [acR, acC, List.cons.injEq] at hR
  obtain ⟨rfl, rfl, _⟩ := hR
  exact ⟨b, o, _, _, r, e0, e1, rfl⟩
theorem ac_str : Try.prog.underlying 36 = some (.struct (Try.prog.fieldsOf 36)) := by kernel_rfl
theorem ac_held : Try.prog.stoodInHeld 36 = false := by kernel_rfl
theorem ac_guard : Try.prog.eqGuardType Try.prog.depth 36 = false := by kernel_rfl
theorem ac_neq (w : World) (a1 a2 : Bool) (v1 v2 : Int) : (binOp .neq 36 (.agg #[.bool a1, .int .i64 v1]) (.agg #[.bool a2, .int .i64 v2])).run Try.prog w = .ok (.bool (!(a1 == a2 && v1 == v2))) w := by
  rw [run_neq_struct, run_equalIn_agg w _ _ _ _ ac_str ac_held]
  cases h1 : (a1 == a2) <;> cases h2 : (v1 == v2)
  all_goals simp [go_sem, h1, h2]
def OwA (base : Nat) (w : World) (v : Value) (out : List (Bool × Int)) : Prop := w.ownsRow base 36 2 v out.length (out.flatMap acC)
theorem OwA.read {base : Nat} {w : World} {v : Value} {out : List (Bool × Int)} (h : OwA base w v out) : SlR 2 acR w v out :=
  slr_rows acC (fun _ _ => rfl) (by decide) h (fun _ _ => rfl)
theorem own_belowA {w w' : World} {base : Nat} {v : Value} {out : List (Bool × Int)} (h : OwA base w v out) (g : Below w.heap.size w w') : OwA base w' v out := by
  obtain ⟨hl, h⟩ := h
  refine ⟨hl, ?_⟩
  rcases h with h | ⟨b, cap, cur, rfl, hb, hg, hc, hm, hs, ht⟩
  · exact Or.inl h
  · refine Or.inr ⟨b, cap, cur, rfl, hb, ?_, hc, hm, hs, ht⟩
    rw [g.block b (Array.getElem?_eq_some_iff.1 hg).1]
    exact hg
theorem owa_nil (base : Nat) (w : World) : OwA base w (.slice none 0 0) [] := World.ownsRow_nil _ _ _ _
theorem ac_one (p : Bool × Int) : ∀ u ∈ acC p, u.oneCell' = true := by
  intro u hu
  simp [acC] at hu
  rcases hu with rfl | rfl <;> rfl

theorem dkK_thr (a n k : Int) : (dkK a n k = [] ∧ min (a + n) (512 * k + 512) ≤ max a (512 * k)) ∨ (dkK a n k = [(false, k), (true, k)] ∧ max a (512 * k) < min (a + n) (512 * k + 512) ∧ min (a + n) (512 * k + 512) - max a (512 * k) < 512) ∨
    (dkK a n k = [(true, k)] ∧ max a (512 * k) < min (a + n) (512 * k + 512) ∧ ¬ min (a + n) (512 * k + 512) - max a (512 * k) < 512) := by
  unfold dkK
  by_cases h1 : min (a + n) (512 * k + 512) ≤ max a (512 * k)
  · rw [if_pos h1]
    exact Or.inl ⟨rfl, h1⟩
  · rw [if_neg h1]
    by_cases h2 : min (a + n) (512 * k + 512) - max a (512 * k) < 512
    · rw [if_pos h2]
      exact Or.inr (Or.inl ⟨rfl, by omega, h2⟩)
    · rw [if_neg h2]
      exact Or.inr (Or.inr ⟨rfl, by omega, h2⟩)

set_option maxHeartbeats 4000000 in
set_option maxRecDepth 100000 in
theorem w_rplan20 (a n : Int) (w : World) (a0 : -9223372036854775808 ≤ a) (a1 : a < 9223372036854775808) (n0 : -9223372036854775808 ≤ n) (n1 : n < 9223372036854775808) :
    Calls Try.prog 18 #[.int .i64 a, .int .i64 n] w fun e w' => ∃ v', e = .returned (.tuple #[v', .int .i64 (dkP a n).2]) ∧ OwA w.heap.size w' v' (dkP a n).1 ∧ Below w.heap.size w w' := by
  unfold dkP
  by_cases h1 : a < 0
  · rw [if_pos (Or.inl h1)]
    go_enter Try.func18, Try.ntmps18
    go_wp2_with fail
    go_ret2
    exact ⟨_, rfl, owa_nil _ _, Below.refl _ _⟩
  by_cases h2 : n < 0
  · rw [if_pos (Or.inr (Or.inl h2))]
    go_enter Try.func18, Try.ntmps18
    go_wp2_with fail
    go_ret2
    exact ⟨_, rfl, owa_nil _ _, Below.refl _ _⟩
  by_cases h3 : 32768 < a
  · rw [if_pos (Or.inr (Or.inr (Or.inl h3)))]
    go_enter Try.func18, Try.ntmps18
    go_wp2_with fail
    go_ret2
    exact ⟨_, rfl, owa_nil _ _, Below.refl _ _⟩
  by_cases h4 : 32768 - a < n
  · rw [if_pos (Or.inr (Or.inr (Or.inr h4)))]
    go_enter Try.func18, Try.ntmps18
    go_wp2_with fail
    go_ret2
    exact ⟨_, rfl, owa_nil _ _, Below.refl _ _⟩
  rw [if_neg (by omega)]
  obtain ⟨i4, hi4, hz4, hs4, hb4⟩ := info_ac
  have bp := fun (W : World) (A : Bool) (V : Int) => box_below W (.cells #[.bool A, .int .i64 V] 36)
  go_enter Try.func18, Try.ntmps18
  go_wp2_with fail
  go_loopw [6, 7] (fun O I wx => ∃ k : Nat, k ≤ 64 ∧ I = .int .i64 k ∧ OwA w.heap.size wx O (dkL a n k) ∧ Below w.heap.size w wx) (fun _ I _ => (64 - intOf I).toNat)
  case atStart => exact ⟨0, by omega, rfl, owa_nil _ _, Below.refl _ _⟩
  case round =>
    obtain ⟨k, hk, rfl, ho, hg⟩ := hrel
    by_cases hlt : (k : Int) < 64
    · have hbd := dkL_bd a n k
      have hnx : Hid (dkL a n (k + 1) = dkL a n k ++ dkK a n k) := rfl
      obtain ⟨R, hR⟩ : ∃ R, dkL a n k = R := ⟨_, rfl⟩
      rw [hR] at ho hbd hnx
      have hr1 : R.length ≤ 128 := by omega
      clear hR hbd
      rcases dkK_thr a n k with ⟨e, hm⟩ | ⟨e, hm, hm2⟩ | ⟨e, hm, hm2⟩
      · rw [e] at hnx
        clear e
        go_wp2_with fail
        go_roundw
        case rel => exact ⟨k + 1, by omega, by go_num, by rw [hnx.out, List.append_nil]; exact ho, hg⟩
        case measure => simp [intOf]; omega
      · rw [e] at hnx
        clear e
        have bk := bp wr false k
        have oo := own_belowA ho bk
        go_wp2_with (first
          | (at_builtin; refine wpList_append_row rfl _ _ 32 rfl w.heap.size 36 i4 _ 2 16 Try.underlying32 hi4 hz4 hs4 hb4 rfl (by decide) _ (R ++ [(false, (k : Int))]).length _ rfl oo8 w7.heap.size (acC (true, (k : Int))) rfl rfl (alloc_row w7 (acC (true, (k : Int))) 36) (ac_one _) (by unfold maxLen; first | omega | (rw [List.length_append]; simp; omega)) (by first | omega | (rw [List.length_append]; simp; omega)) (by rw [size_al]; have := h7.size; omega) ?_; intro v9 w9 o9 g9; have h9 := below_grown (below_trans h7 bk8) g9 (fun k hk => (oo8.lt k hk).1))
          | (at_builtin; refine wpList_append_row rfl _ _ 32 rfl w.heap.size 36 i4 _ 2 16 Try.underlying32 hi4 hz4 hs4 hb4 rfl (by decide) _ (R).length _ rfl oo wr.heap.size (acC (false, (k : Int))) rfl rfl (alloc_row wr (acC (false, (k : Int))) 36) (ac_one _) (by unfold maxLen; first | omega | (rw [List.length_append]; simp; omega)) (by first | omega | (rw [List.length_append]; simp; omega)) (by rw [size_al]; have := hg.size; omega) ?_; intro v7 w7 o7 g7; have h7 := below_grown (below_trans hg bk) g7 (fun k hk => (oo.lt k hk).1); have bk8 := bp w7 true k; have o8 : OwA w.heap.size w7 v7 (R ++ [(false, (k : Int))]) := (by simpa [OwA] using o7); have oo8 := own_belowA o8 bk8))
        go_roundw
        case rel => exact ⟨k + 1, by omega, by go_num, by rw [hnx.out, show R ++ [(false, (k : Int)), (true, (k : Int))] = (R ++ [(false, (k : Int))]) ++ [(true, (k : Int))] by simp]; simpa [OwA] using o9, h9⟩
        case measure => simp [intOf]; omega
      · rw [e] at hnx
        clear e
        have bk := bp wr true k
        have oo := own_belowA ho bk
        go_wp2_with (at_builtin; refine wpList_append_row rfl _ _ 32 rfl w.heap.size 36 i4 _ 2 16 Try.underlying32 hi4 hz4 hs4 hb4 rfl (by decide) _ (R).length _ rfl oo wr.heap.size (acC (true, (k : Int))) rfl rfl (alloc_row wr (acC (true, (k : Int))) 36) (ac_one _) (by unfold maxLen; first | omega | (rw [List.length_append]; simp; omega)) (by first | omega | (rw [List.length_append]; simp; omega)) (by rw [size_al]; have := hg.size; omega) ?_; intro v7 w7 o7 g7; have h7 := below_grown (below_trans hg bk) g7 (fun k hk => (oo.lt k hk).1))
        go_roundw
        case rel => exact ⟨k + 1, by omega, by go_num, by rw [hnx.out]; simpa [OwA] using o7, h7⟩
        case measure => simp [intOf]; omega
    · have hk64 : k = 64 := by omega
      subst hk64
      go_wp2_with fail
      go_ret2
      exact ⟨_, rfl, ho, hg⟩

/-
  What the landed package block plans and puts, as plain functions of lists: from place to place; one sector laid. No Go text in sight.
-/
theorem pl_start (a n : Int) : ∀ k : Nat, 512 * (k : Int) ≤ a → dkL a n k = []
  | 0, _ => rfl
  | k + 1, h => by
    rw [dkL, pl_start a n k (by omega)]
    rcases dkK_cases a n k with ⟨e, _⟩ | ⟨e, _⟩ | ⟨e, _⟩
    · rw [e]; rfl
    · omega
    · omega
theorem pl_stop (a n : Int) : ∀ (f k : Nat), k + f = 64 → (a + n ≤ 512 * (k : Int) ∨ n ≤ 0) → dkL a n 64 = dkL a n k
  | 0, k, hf, _ => by rw [show k = 64 by omega]
  | f + 1, k, hf, h => by
    rw [pl_stop a n f (k + 1) (by omega) (by omega), dkL]
    rcases dkK_cases a n k with ⟨e, _⟩ | ⟨e, _⟩ | ⟨e, _⟩
    · rw [e, List.append_nil]
    · omega
    · omega
/-- one sector from its place on -/
theorem pl_step (a n : Int) (k : Nat) (h1 : max a (512 * (k : Int)) < a + n) (h2 : a < 512 * (k : Int) + 512) :
    (min (512 * (k : Int) + 512) (a + n) - max a (512 * (k : Int)) < 512 ∧ dkL a n (k + 1) = dkL a n k ++ [(false, (k : Int)), (true, (k : Int))]) ∨
    (¬ min (512 * (k : Int) + 512) (a + n) - max a (512 * (k : Int)) < 512 ∧ dkL a n (k + 1) = dkL a n k ++ [(true, (k : Int))]) := by
  have e : dkK a n k = (if min (512 * (k : Int) + 512) (a + n) - max a (512 * (k : Int)) < 512 then [(false, (k : Int))] else []) ++ [(true, (k : Int))] := by
    unfold dkK
    rw [if_neg (by omega), Int.min_comm (a + n)]
  by_cases h : min (512 * (k : Int) + 512) (a + n) - max a (512 * (k : Int)) < 512
  · left
    rw [if_pos h] at e
    exact ⟨h, by rw [dkL, e]; rfl⟩
  · right
    rw [if_neg h] at e
    exact ⟨h, by rw [dkL, e]; rfl⟩
/-- the sector's bytes once what falls into it has been laid: the bytes begin in it -/
theorem lay_on (S b : List Int) (a k : Nat) (hS : S.length = 512) (h1 : 512 * k ≤ a) (h2 : a < 512 * k + 512) :
    S.take (a - 512 * k) ++ b.take (512 - (a - 512 * k)) ++ S.drop (a - 512 * k + (b.take (512 - (a - 512 * k))).length) = ovs S a b k 512 := by
  have hl : (b.take (512 - (a - 512 * k))).length = min (512 - (a - 512 * k)) b.length := List.length_take
  have hp := fun i => put_at S (b.take (512 - (a - 512 * k))) (a - 512 * k) i (by rw [hl, hS]; omega)
  apply ext_getDD
  · rw [ovs_len]; simp only [List.length_append, List.length_take, List.length_drop, hS]; omega
  · intro i hi
    have hi2 : i < 512 := by simp only [List.length_append, List.length_take, List.length_drop, hS] at hi; omega
    rw [hp, ovs_at _ _ _ _ _ _ hi2, hl, getD_takeD]
    by_cases hc : a ≤ 512 * k + i ∧ 512 * k + i < a + b.length
    · rw [if_pos (by omega), if_pos (by omega), if_pos (by omega)]
      congr 1
      omega
    · rw [if_neg (by omega), if_neg (by omega)]
/-- .. or ahead of it -/
theorem lay_off (S b : List Int) (a k : Nat) (hS : S.length = 512) (h1 : a < 512 * k) :
    S.take 0 ++ (b.drop (512 * k - a)).take 512 ++ S.drop (0 + ((b.drop (512 * k - a)).take 512).length) = ovs S a b k 512 := by
  have hl : ((b.drop (512 * k - a)).take 512).length = min 512 (b.length - (512 * k - a)) := by rw [List.length_take, List.length_drop]
  have hp := fun i => put_at S ((b.drop (512 * k - a)).take 512) 0 i (by rw [hl, hS]; omega)
  apply ext_getDD
  · rw [ovs_len]; simp only [List.length_append, List.length_take, List.length_drop, hS]; omega
  · intro i hi
    have hi2 : i < 512 := by simp only [List.length_append, List.length_take, List.length_drop, hS] at hi; omega
    rw [hp, ovs_at _ _ _ _ _ _ hi2, hl, getD_takeD, getD_dropD]
    by_cases hc : a ≤ 512 * k + i ∧ 512 * k + i < a + b.length
    · rw [if_pos (by omega), if_pos (by omega), if_pos (by omega)]
      congr 1
      omega
    · rw [if_neg (by omega), if_neg (by omega)]
/-- a sector loaded -/
theorem load_all (S x : List Int) (hS : S.length = 512) (hx : 512 ≤ x.length) : S.take 0 ++ x.take 512 ++ S.drop (0 + (x.take 512).length) = x.take 512 := by
  have hl : (x.take 512).length = 512 := by rw [List.length_take]; omega
  rw [hl, List.take_zero, List.drop_eq_nil_of_le (by omega)]
  simp
theorem load_at (D : List Int) (k : Nat) : ∀ i < 512, ((D.drop (512 * k)).take 512).getD i 0 = D.getD (512 * k + i) 0 := fun i hi => by
  rw [getD_takeD, if_pos hi, getD_dropD]
/-- a sector's bytes are got and put as the disk's bytes -/
theorem rd_get (d : List Int) (n : Int) (hB : dkB d = true) (hn : dkN d n = true) : dkRd d n = dkGt d (n * 512) 512 := by
  obtain ⟨l1, l2⟩ := dk_len hB
  have hn2 := hn
  unfold dkN at hn2
  rw [decide_eq_true_eq] at hn2
  unfold dkRd dkGt dkI
  rw [if_pos hB, if_pos hB, if_pos hn, if_pos (by rw [decide_eq_true_eq]; omega)]
  rw [show n * 512 = 512 * n by omega]
  rfl
theorem wr_put (d b : List Int) (n : Int) (hB : dkB d = true) (hb : b.length = 512) (hn : dkN d n = true) : dkWr d n b = dkPt d (n * 512) b := by
  obtain ⟨l1, l2⟩ := dk_len hB
  have hn2 := hn
  unfold dkN at hn2
  rw [decide_eq_true_eq] at hn2
  unfold dkWr dkPt dkI
  rw [hB, decide_eq_true hb, if_pos hn, if_pos (show (true && true) = true from rfl), if_pos (show true = true from rfl), if_pos (by rw [decide_eq_true_eq]; omega)]
  rw [show n * 512 = 512 * n by omega, show (512 * n + 512).toNat = (512 * n).toNat + b.length by omega]
theorem pt_ovl (d b : List Int) (a : Nat) (hB : dkB d = true) (hI : dkI d.length a b.length = true) : dkPt d a b = (ovl d a b 64, 0) := by
  obtain ⟨l1, l2⟩ := dk_len hB
  have hI2 := hI
  unfold dkI at hI2
  rw [decide_eq_true_eq] at hI2
  unfold dkPt
  rw [if_pos hB, if_pos hI, ovl_all _ _ _ _ (by omega) (by omega)]
  rfl
theorem pl_ovl (d b : List Int) (a : Nat) (hB : dkB d = true) (hI : dkI d.length a b.length = true) : dkP a b.length = (dkL (a : Int) b.length 64, 0) := by
  obtain ⟨l1, l2⟩ := dk_len hB
  unfold dkI at hI
  rw [decide_eq_true_eq] at hI
  unfold dkP
  rw [if_neg (by omega)]

/-
  Blocks of a call's own as lists of integers: cut with three indexes, written cell by cell, copied into. No Go text in sight.
-/
/-- block g holds the integers xs and no other cell -/
def Blk (k : IntKind) (e : TypeId) (w : World) (g : Nat) (xs : List Int) : Prop := w.heap[g]? = some (.cells (xs.map (Value.int k)).toArray e (0, 0))
theorem Blk.rd {k : IntKind} {e : TypeId} {w : World} {g : Nat} {xs : List Int} (h : Blk k e w g xs) (hm : xs.length ≤ maxLen) : Rd k w (.slice (some ⟨g, 0, none⟩) xs.length xs.length) xs := by
  rcases Nat.eq_zero_or_pos xs.length with h0 | h0
  · obtain rfl := List.eq_nil_of_length_eq_zero h0
    exact Or.inl ⟨_, _, rfl, (fun h => by cases h), rfl⟩
  · refine Or.inr ⟨g, 0, xs.length, rfl, h0, Nat.le_refl _, hm, fun i hi => ?_⟩
    unfold Blk at h
    simp [World.cell?, h, List.getD_eq_getElem?_getD, List.getElem?_eq_getElem hi]
theorem Blk.below {k : IntKind} {e : TypeId} {w w' : World} {g : Nat} {xs : List Int} (h : Blk k e w g xs) (hb : Below w.heap.size w w') : Blk k e w' g xs := by
  unfold Blk at h ⊢
  rw [hb.block g (Array.getElem?_eq_some_iff.1 h).1, h]
/-- the stretch of n cells of block g from place a on -/
def Plc (v : Value) (g a n : Nat) : Prop := ∃ dp, v = .slice dp n n ∧ (0 < n → dp = some ⟨g, a, none⟩)
theorem plc_all (g n : Nat) : Plc (.slice (some ⟨g, 0, none⟩) n n) g 0 n := ⟨_, rfl, fun _ => rfl⟩
theorem plc_len {P : Program} {v : Value} {g a n : Nat} (h : Plc v g a n) {t e : TypeId} (ht : P.underlying t = some (.slice e)) (ty : TypeId) (w' : World) :
    (Builtin.len_ #[t] ty #[v]).run P w' = .ok (.int .i64 n) w' := by
  obtain ⟨dp, rfl, _⟩ := h
  simp [Builtin.len_, run_underlying ht, goInt]
/-- a cell of such a stretch: its address, and what the block holds once it is written -/
theorem plc_set {P : Program} {k : IntKind} {w : World} {e : TypeId} {v : Value} {g a n : Nat} {xs : List Int} (h : Plc v g a n) (hg : Blk k e w g xs) {t : TypeId} (ht : P.underlying t = some (.slice (P.elem t))) (hs : ∀ w, (sizeOf (P.elem t)).run P w = .ok 1 w)
    (hl : a + n ≤ xs.length) (i : Int) (h0 : 0 ≤ i) (h1 : i < n) :
    ∃ ad : Addr, (∀ w', (Instr.indexAt t v (.int .i64 i)).run P w' = .ok (.pointer (some ad)) w') ∧ w.cell? ad = some (.int k (xs.getD (a + i.toNat) 0)) ∧ w.frozen? ad = false ∧ g ≤ ad.block ∧
      ∀ y, Blk k e (w.setCell ad (.int k y)) g (xs.set (a + i.toNat) y) := by
  obtain ⟨dp, rfl, hd⟩ := h
  obtain rfl := hd (by omega)
  unfold Blk at hg
  have hi : a + i.toNat < xs.length := by omega
  refine ⟨⟨g, a + i.toNat, none⟩, fun w' => ?_, ?_, ?_, Nat.le_refl _, fun y => ?_⟩
  · rw [run_indexAt_slice (h := ht), if_pos ⟨h0, h1⟩, hs]
    simp only [Result.andThen, Nat.mul_one]
    congr 3
    unfold Addr.add
    split
    · rename_i hz; rw [hz]; rfl
    · rfl
  · simp [World.cell?, hg, List.getD_eq_getElem?_getD, List.getElem?_eq_getElem hi]
  · simp [World.frozen?, hg]
  · unfold Blk
    rw [Lib.heap_setCell_same (i := a + i.toNat) hg]
    simp [List.map_set]

/-- what v[a : a+n : a+n] is -/
def cut3 (v : Value) (a n : Nat) : Value := match v with
  | .slice ao _ _ => .slice (if a + n = a then ao else ao.map (·.add (a * 1))) n n
  | x => x
theorem plc_cut3 (g L a n : Nat) : Plc (cut3 (.slice (some ⟨g, 0, none⟩) L L) a n) g a n := by
  refine ⟨_, rfl, fun h => ?_⟩
  rw [if_neg (by omega)]
  simp [Addr.add]
  intro h; rw [h]
theorem rd_cut3 {P : Program} {k : IntKind} {w : World} {v : Value} {xs : List Int} (h : Rd k w v xs) {t : TypeId} (ht : P.underlying t = some (.slice (P.elem t))) (hs : ∀ w, (sizeOf (P.elem t)).run P w = .ok 1 w) (a n : Int) (a0 : 0 ≤ a) (n0 : 0 ≤ n) (hl : a + n ≤ xs.length) :
    Rd k w (cut3 v a.toNat n.toNat) ((xs.drop a.toNat).take n.toNat) ∧ ∀ (kl kh km : IntKind) w', (Instr.slice t v (some (.int kl a)) (some (.int kh (a + n))) (some (.int km (a + n)))).run P w' = .ok (cut3 v a.toNat n.toNat) w' := by
  obtain ⟨ao, cap, rfl, hc, hn, hx⟩ := rd_form h
  have hle : ((xs.drop a.toNat).take n.toNat).length = n.toNat := by simp; omega
  refine ⟨?_, fun kl kh km w' => ?_⟩
  · rcases Nat.eq_zero_or_pos n.toNat with hz | hz
    · refine Or.inl ⟨ao, 0, by simp [cut3, hz], fun _ => rfl, by rw [hz]; simp⟩
    · obtain ⟨hm, b, off, rfl, hcell⟩ := hx (by omega)
      refine Or.inr ⟨b, off + a.toNat, n.toNat, ?_, by omega, by omega, by omega, fun i hi2 => ?_⟩
      · rw [hle]
        simp only [cut3]
        rw [if_neg (by omega)]
        simp [Addr.add]
      · rw [hle] at hi2
        have := hcell (a.toNat + i) (by omega)
        rw [show off + a.toNat + i = off + (a.toNat + i) by omega, this]
        simp only [List.getD_eq_getElem?_getD, List.getElem?_take, List.getElem?_drop]
        rw [if_pos hi2]
  · rw [run_slice_lhm w' t ao xs.length cap ht kl kh km a (a + n) (a + n) a0 (by omega) (by omega) (by omega), hs]
    simp only [Result.andThen, sliced, cut3]
    rw [show (a + n).toNat = a.toNat + n.toNat by omega, show a.toNat + n.toNat - a.toNat = n.toNat by omega]

/-- a block made: noughts -/
theorem blk_made {k : IntKind} (w : World) (e : TypeId) (n : Nat) : Blk k e (w.alloc (.cells (madeCells #[.int k 0] n) e)) w.heap.size (List.replicate n 0) := by
  unfold Blk
  rw [heap_alloc_new]
  congr 2
  apply Array.ext
  · simp [madeCells]
  · intro i h1 h2
    simp [madeCells, Nat.mod_one]

/-- copy(dst, src): dst a stretch of a known block, src any slice of as many integers or fewer -/
theorem run_copy_rd {P : Program} {k : IntKind} {w : World} (dT sT : TypeId) (elem : TypeId) (hu : P.underlying dT = some (.slice elem)) (hsz : (P.info? elem).map (·.size) = some 1)
    {vd vs : Value} {g off n : Nat} (hp : Plc vd g off n) {xs cur : List Int} (hr : Rd k w vs xs) (hle : xs.length ≤ n) (hg : Blk k elem w g cur) (hfit : off + n ≤ cur.length)
    {B : Nat} {w0 : World} (hb : Below B w0 w) (hBg : B ≤ g) :
    ∃ w', (∀ ty, (Builtin.copy_ #[dT, sT] ty #[vd, vs]).run P w = .ok (.int .i64 xs.length) w') ∧ Blk k elem w' g (cur.take off ++ xs ++ cur.drop (off + xs.length)) ∧ Below B w0 w' := by
  obtain ⟨dp, rfl, hdp⟩ := hp
  obtain ⟨ao, cap, rfl, hc, hn, hx⟩ := rd_form hr
  have hlen : (xs.map (Value.int k)).length = xs.length := by simp
  rcases Nat.eq_zero_or_pos xs.length with h0 | h0
  · have hx0 : xs = [] := List.eq_nil_of_length_eq_zero h0
    subst hx0
    refine ⟨w, fun ty => ?_, by simpa using hg, hb⟩
    have := run_copy_none (P := P) w dT sT ty elem dp ao n n 0 cap hu hsz (Nat.zero_min n)
    simpa [goInt] using this
  · obtain ⟨hm, b, o2, rfl, hcell⟩ := hx h0
    obtain rfl := hdp (by omega)
    unfold Blk at hg
    have hrun := fun ty => run_copy_row (P := P) w dT sT ty elem g off n n ⟨b, o2, none⟩ xs.length cap (cur.map (Value.int k)).toArray elem (xs.map (Value.int k)) hu hsz hg (by rw [hlen]; exact (Nat.min_eq_left hle).symm) ?_ (by simp; omega) ?_
    · rw [hlen] at hrun
      refine ⟨_, hrun, ?_, below_setRow hb hBg _⟩
      · unfold Blk
        rw [setRow_heap w g _ _ elem _ hg]
        congr 2
        simp
    · intro j v hj
      rw [List.getElem?_map] at hj
      cases hq : xs[j]? with
      | none => rw [hq] at hj; cases hj
      | some y =>
        rw [hq] at hj
        simp at hj
        subst hj
        have hj2 : j < xs.length := by
          rcases Nat.lt_or_ge j xs.length with h | h
          · exact h
          · rw [List.getElem?_eq_none h] at hq; cases hq
        have := hcell j hj2
        rw [List.getD_eq_getElem?_getD, hq] at this
        simp at this
        by_cases hz : j = 0
        · subst hz; simpa [Addr.add] using this
        · simpa [Addr.add, hz] using this
    · intro v hv
      simp only [List.mem_map] at hv
      obtain ⟨y, _, rfl⟩ := hv
      rfl
/-- copy into no slice -/
theorem run_copy_nowhere {P : Program} (w : World) (dT sT ty elem : TypeId) (hu : P.underlying dT = some (.slice elem)) (hsz : (P.info? elem).map (·.size) = some 1) (S : ByteArray) :
    (Builtin.copy_ #[dT, sT] ty #[.slice none 0 0, .string S]).run P w = .ok (.int .i64 0) w := by
  cases hq : P.info? elem with
  | none => simp [hq] at hsz
  | some i => simp [Builtin.copy_, run_underlying hu, Builtin.lenOf, Builtin.firstCells, sizeOf, typeInfo, hq, storeCells, goInt]
theorem run_copy_nowhere_rd {P : Program} {k : IntKind} {v : Value} {xs : List Int} {w : World} (h : Rd k w v xs) (w' : World) (dT sT ty elem : TypeId) (hu : P.underlying dT = some (.slice elem)) (hsz : (P.info? elem).map (·.size) = some 1) :
    (Builtin.copy_ #[dT, sT] ty #[.slice none 0 0, v]).run P w' = .ok (.int .i64 0) w' := by
  obtain ⟨ao, cap, rfl, _⟩ := rd_form h
  exact run_copy_none (P := P) w' dT sT ty elem none ao 0 0 xs.length cap hu hsz (Nat.min_zero _)
/-- copy(dst, s): the same of a text -/
theorem run_copy_str {P : Program} {w : World} (dT sT : TypeId) (elem : TypeId) (hu : P.underlying dT = some (.slice elem)) (hsz : (P.info? elem).map (·.size) = some 1)
    {vd : Value} {g off n : Nat} (hp : Plc vd g off n) (S : ByteArray) {cur : List Int} (hle : S.size ≤ n) (hg : Blk .u8 elem w g cur) (hfit : off + n ≤ cur.length)
    {B : Nat} {w0 : World} (hb : Below B w0 w) (hBg : B ≤ g) :
    ∃ w', (∀ ty, (Builtin.copy_ #[dT, sT] ty #[vd, .string S]).run P w = .ok (.int .i64 S.size) w') ∧ Blk .u8 elem w' g (cur.take off ++ LB S ++ cur.drop (off + S.size)) ∧ Below B w0 w' := by
  obtain ⟨dp, rfl, hdp⟩ := hp
  rcases Nat.eq_zero_or_pos S.size with h0 | h0
  · have hl : LB S = [] := List.eq_nil_of_length_eq_zero (by rw [LB_len]; exact h0)
    refine ⟨w, fun ty => ?_, by rw [hl, h0]; simpa using hg, hb⟩
    have hrun := Lib.run_copy_empty_string (P := P) w dT sT ty elem dp n n S hu (by rw [hsz]; rfl) h0
    rw [hrun, h0]
    rfl
  · obtain rfl := hdp (by omega)
    unfold Blk at hg
    refine ⟨_, fun ty => Lib.run_copy_row_string (P := P) w dT sT ty elem g off n n S _ elem hu hsz hg hle (by simp; omega), ?_, below_setRow hb hBg _⟩
    unfold Blk
    rw [setRow_heap w g _ _ elem _ hg]
    congr 2
    simp [Lib.byteCells, LB]

/-
  The landed package block: lies, has, Formed, Clone, Get, Read.
-/
set_option maxHeartbeats 1000000 in
theorem w_plies20 (a n L : Int) (w : World) (a0 : -9223372036854775808 ≤ a) (a1 : a < 9223372036854775808) (n0 : -9223372036854775808 ≤ n) (n1 : n < 9223372036854775808) (l0 : 0 ≤ L) (l1 : L ≤ 140737488351232) :
    Calls Try.prog 25 #[.int .i64 a, .int .i64 n, .int .i64 L] w fun e w' => e = .returned (.bool (dkI L a n)) ∧ w' = w := by
  unfold dkI
  by_cases h1 : 0 ≤ a
  · by_cases h2 : 0 ≤ n
    · have e : decide (0 ≤ a ∧ a ≤ L ∧ 0 ≤ n ∧ n ≤ L - a) = decide (n ≤ L - a) := by congr 1; apply propext; omega
      rw [e]
      clear e
      go_enter Try.func25, Try.ntmps25
      go_wp2_with fail
      go_ret
      exact ⟨rfl, rfl⟩
    · rw [decide_eq_false (by omega)]
      go_enter Try.func25, Try.ntmps25
      go_wp2_with fail
      go_ret
      exact ⟨rfl, rfl⟩
  · rw [decide_eq_false (by omega)]
    go_enter Try.func25, Try.ntmps25
    go_wp2_with fail
    go_ret
    exact ⟨rfl, rfl⟩

set_option maxHeartbeats 1000000 in
theorem w_phas20 (v : Value) (d : List Int) (n : Int) (w : World) (h : Rd .u8 w v d) (hz : d.length ≤ 140737488351232) (n0 : -9223372036854775808 ≤ n) (n1 : n < 9223372036854775808) :
    Calls Try.prog 24 #[v, .int .i64 n] w fun e w' => e = .returned (.bool (dkN d n)) ∧ w' = w := by
  have hlen := rd_len h uB (P := Try.prog)
  have t1 : (d.length : Int).tdiv 512 = (d.length : Int) / 512 := Int.tdiv_eq_ediv_of_nonneg (by omega)
  have cL := w_plies20 n 1 ((d.length : Int) / 512) w n0 n1 (by decide) (by decide) (by omega) (by omega)
  rw [show dkI ((d.length : Int) / 512) n 1 = dkN d n by unfold dkI dkN; congr 1; apply propext; omega] at cL
  go_enter Try.func24, Try.ntmps24
  go_wp2_with (go_at_call 25; refine cL.mono ?_; rintro e q ⟨rfl, hw⟩; obtain rfl := hw.symm)
  go_ret
  exact ⟨rfl, rfl⟩

set_option maxHeartbeats 1000000 in
theorem w_pform20 (v : Value) (d : List Int) (w : World) (h : Rd .u8 w v d) (hz : d.length ≤ 140737488351232) :
    Calls Try.prog 15 #[v] w fun e w' => e = .returned (.bool (dkB d)) ∧ w' = w := by
  have hlen := rd_len h uB (P := Try.prog)
  have t1 : (d.length : Int).tmod 512 = (d.length : Int) % 512 := Int.tmod_eq_emod_of_nonneg (by omega)
  by_cases h1 : (d.length : Int) ≤ 32768
  · have e : dkB d = ((d.length : Int) % 512 == 0) := by
      unfold dkB
      rw [decide_eq_true (show d.length ≤ 32768 by omega), Bool.and_true]
      by_cases h2 : d.length % 512 = 0
      · rw [decide_eq_true h2]; symm; rw [beq_iff_eq]; omega
      · rw [decide_eq_false h2]; symm; rw [beq_eq_false_iff_ne]; omega
    rw [e]
    clear e
    go_enter Try.func15, Try.ntmps15
    go_wp2_with fail
    go_ret
    exact ⟨rfl, rfl⟩
  · have e : dkB d = false := by unfold dkB; rw [decide_eq_false (show ¬ d.length ≤ 32768 by omega), Bool.and_false]
    rw [e]
    clear e
    go_enter Try.func15, Try.ntmps15
    go_wp2_with fail
    go_ret
    exact ⟨rfl, rfl⟩

set_option maxHeartbeats 1000000 in
set_option maxRecDepth 100000 in
theorem w_pclo20 (v : Value) (xs : List Int) (w : World) (h : Rd .u8 w v xs) (hz : xs.length ≤ 140737488355328) :
    Calls Try.prog 26 #[v] w fun e w' => ∃ v', e = .returned v' ∧ Own8 w.heap.size w' v' xs ∧ Below w.heap.size w w' := by
  obtain ⟨i0, hi, hz0, hz1, hz2⟩ := info_parts infoU8
  obtain ⟨ao, cap, rfl, hc, hn, hx⟩ := rd_form h
  cases ao with
  | none =>
    have hc0 := hn rfl
    have hl : xs = [] := List.eq_nil_of_length_eq_zero (by omega)
    subst hl
    subst hc0
    show Calls _ _ #[.slice none 0 0] _ _
    have q := Lib.run_eql_slice_nil (P := Try.prog) w 22 5 none 0 0 0 0 Try.underlying22
    go_enter Try.func26, Try.ntmps26
    go_wp2_with fail
    go_ret
    exact ⟨_, rfl, ⟨by simp, Or.inl ⟨rfl, rfl⟩⟩, Below.refl _ _⟩
  | some a =>
    have q := Lib.run_eql_slice_nil (P := Try.prog) w 22 5 (some a) xs.length cap 0 0 Try.underlying22
    have ha := h.below (box_below w (.cells #[] 5))
    go_enter Try.func26, Try.ntmps26
    go_wp2_with (at_builtin; refine wpList_append_rd (k := .u8) rfl _ _ 22 rfl w.heap.size 5 i0 1 Try.underlying22 hi hz0 hz1 hz2 _ [] rfl (World.ownsRow_made w #[] 0 (Nat.le_refl _) (Nat.zero_le _) rfl) _ xs rfl ha (by unfold maxLen; simp; omega) (by simp; omega) (by simp) ?_; intro v5 w5 ho5 hg5)
    go_ret
    refine ⟨v5, rfl, by simpa [Own8] using ho5, below_grown (box_below w _) hg5 (fun k hk => by simp [Value.ownBlock, Act.eval] at hk; omega)⟩

set_option maxHeartbeats 1000000 in
theorem w_pget20 (v : Value) (d : List Int) (a n : Int) (w : World) (h : Rd .u8 w v d) (hz : d.length ≤ 140737488351232) (a0 : -9223372036854775808 ≤ a) (a1 : a < 9223372036854775808) (n0 : -9223372036854775808 ≤ n) (n1 : n < 9223372036854775808) :
    Calls Try.prog 19 #[v, .int .i64 a, .int .i64 n] w fun e w' => ∃ v', e = .returned (.tuple #[v', .int .i64 (dkGt d a n).2]) ∧ Own8 w.heap.size w' v' (dkGt d a n).1 ∧ Below w.heap.size w w' := by
  have cF := w_pform20 v d w h hz
  have cI := w_plies20 a n d.length w a0 a1 n0 n1 (by omega) (by omega)
  have hlen := rd_len h uB (P := Try.prog)
  unfold dkGt
  cases hB : dkB d
  · rw [hB] at cF
    simp only [Bool.false_eq_true, if_false]
    clear cI hlen
    go_enter Try.func19, Try.ntmps19
    go_wp2_with (go_at_call 15; refine cF.mono ?_; rintro e q ⟨rfl, hw⟩; obtain rfl := hw.symm)
    go_ret2
    exact ⟨_, rfl, own8_nil _ _, Below.refl _ _⟩
  · rw [hB] at cF
    obtain ⟨l1, l2⟩ := dk_len hB
    simp only [if_true]
    cases hI : dkI d.length a n
    · rw [hI] at cI
      simp only [Bool.false_eq_true, if_false]
      clear hB l1 hI
      go_enter Try.func19, Try.ntmps19
      go_wp2_with (first
        | (go_at_call 15; refine cF.mono ?_; rintro e q ⟨rfl, hw⟩; obtain rfl := hw.symm)
        | (go_at_call 25; refine cI.mono ?_; rintro e q ⟨rfl, hw⟩; obtain rfl := hw.symm))
      go_ret2
      exact ⟨_, rfl, own8_nil _ _, Below.refl _ _⟩
    · rw [hI] at cI
      unfold dkI at hI
      rw [decide_eq_true_eq] at hI
      obtain ⟨i1, i2, i3, i4⟩ := hI
      simp only [if_true]
      obtain ⟨vb, rb, sb, -, -⟩ := rd_cutI h uB zB a (a + n) (by omega) (by omega) (by omega)
      rw [show (a + n - a).toNat = n.toNat by omega] at rb
      have cC := w_pclo20 vb _ w rb (by simp; omega)
      obtain ⟨B, hBe⟩ : ∃ B, (d.drop a.toNat).take n.toNat = B := ⟨_, rfl⟩
      rw [hBe] at cC rb ⊢
      clear hBe hB l1
      go_enter Try.func19, Try.ntmps19
      go_wp2_with (first
        | (go_at_call 15; refine cF.mono ?_; rintro e q ⟨rfl, hw⟩; obtain rfl := hw.symm)
        | (go_at_call 25; refine cI.mono ?_; rintro e q ⟨rfl, hw⟩; obtain rfl := hw.symm)
        | (go_at_call 26; refine cC.mono ?_; rintro e q2 ⟨v2, rfl, o2, b2⟩))
      go_ret2
      exact ⟨_, rfl, o2, b2⟩

set_option maxHeartbeats 1000000 in
theorem w_pread20 (v : Value) (d : List Int) (n : Int) (w : World) (h : Rd .u8 w v d) (hz : d.length ≤ 140737488351232) (n0 : -9223372036854775808 ≤ n) (n1 : n < 9223372036854775808) :
    Calls Try.prog 10 #[v, .int .i64 n] w fun e w' => ∃ v', e = .returned (.tuple #[v', .int .i64 (dkRd d n).2]) ∧ Own8 w.heap.size w' v' (dkRd d n).1 ∧ Below w.heap.size w w' := by
  have cF := w_pform20 v d w h hz
  have cH := w_phas20 v d n w h hz n0 n1
  cases hB : dkB d
  · rw [hB] at cF
    unfold dkRd
    rw [hB]
    simp only [Bool.false_eq_true, if_false]
    clear cH
    go_enter Try.func10, Try.ntmps10
    go_wp2_with (go_at_call 15; refine cF.mono ?_; rintro e q ⟨rfl, hw⟩; obtain rfl := hw.symm)
    go_ret2
    exact ⟨_, rfl, own8_nil _ _, Below.refl _ _⟩
  · rw [hB] at cF
    obtain ⟨l1, l2⟩ := dk_len hB
    cases hN : dkN d n
    · rw [hN] at cH
      unfold dkRd
      rw [hB, hN]
      simp only [if_true, Bool.false_eq_true, if_false]
      clear hB l1 hN
      go_enter Try.func10, Try.ntmps10
      go_wp2_with (first
        | (go_at_call 15; refine cF.mono ?_; rintro e q ⟨rfl, hw⟩; obtain rfl := hw.symm)
        | (go_at_call 24; refine cH.mono ?_; rintro e q ⟨rfl, hw⟩; obtain rfl := hw.symm))
      go_ret2
      exact ⟨_, rfl, own8_nil _ _, Below.refl _ _⟩
    · rw [hN] at cH
      have hn := hN
      unfold dkN at hn
      rw [decide_eq_true_eq] at hn
      obtain ⟨m0, m1⟩ := hn
      rw [rd_get d n hB hN]
      have cG := w_pget20 v d (n * 512) 512 w h hz (by omega) (by omega) (by decide) (by decide)
      obtain ⟨R, hR⟩ : ∃ R, dkGt d (n * 512) 512 = R := ⟨_, rfl⟩
      rw [hR] at cG ⊢
      clear hR hB l1 hN
      go_enter Try.func10, Try.ntmps10
      go_wp2_with (first
        | (go_at_call 15; refine cF.mono ?_; rintro e q ⟨rfl, hw⟩; obtain rfl := hw.symm)
        | (go_at_call 24; refine cH.mono ?_; rintro e q ⟨rfl, hw⟩; obtain rfl := hw.symm)
        | (go_at_call 19; refine cG.mono ?_; rintro e q2 ⟨v2, rfl, o2, b2⟩))
      go_ret2
      exact ⟨_, rfl, o2, b2⟩

/-
  The landed package block: Plan.
-/
set_option maxHeartbeats 4000000 in
set_option maxRecDepth 100000 in
theorem w_pplan20o (a n : Int) (w : World) (a0 : -9223372036854775808 ≤ a) (a1 : a < 9223372036854775808) (n0 : -9223372036854775808 ≤ n) (n1 : n < 9223372036854775808) :
    Calls Try.prog 17 #[.int .i64 a, .int .i64 n] w fun e w' => ∃ v', e = .returned (.tuple #[v', .int .i64 (dkP a n).2]) ∧ OwA w.heap.size w' v' (dkP a n).1 ∧ Below w.heap.size w w' := by
  have cI := w_plies20 a n 32768 w a0 a1 n0 n1 (by decide) (by decide)
  cases hI : dkI 32768 a n
  · rw [hI] at cI
    have h1 : a < 0 ∨ n < 0 ∨ 32768 < a ∨ 32768 - a < n := by
      unfold dkI at hI
      rw [decide_eq_false_iff_not] at hI
      omega
    rw [show dkP a n = ([], 1) by unfold dkP; rw [if_pos h1]]
    clear h1 hI
    go_enter Try.func17, Try.ntmps17
    go_wp2_with (go_at_call 25; refine cI.mono ?_; rintro e q ⟨rfl, hw⟩; obtain rfl := hw.symm)
    go_ret2
    exact ⟨_, rfl, owa_nil _ _, Below.refl _ _⟩
  · rw [hI] at cI
    unfold dkI at hI
    rw [decide_eq_true_eq] at hI
    obtain ⟨i1, i2, i3, i4⟩ := hI
    rw [show dkP a n = (dkL a n 64, 0) by unfold dkP; rw [if_neg (by omega)]]
    obtain ⟨i4', hi4, hz4, hs4, hb4⟩ := info_ac
    have bp := fun (W : World) (A : Bool) (V : Int) => box_below W (.cells #[.bool A, .int .i64 V] 36)
    have s0 := pl_start a n (a / 512).toNat (by omega)
    go_enter Try.func17, Try.ntmps17
    go_wp2_with (go_at_call 25; refine cI.mono ?_; rintro e q ⟨rfl, hw⟩; obtain rfl := hw.symm)
    go_loopw [0, 6] (fun AT O wx => ∃ k : Nat, k ≤ 64 ∧ AT = .int .i64 (min (max a (512 * (k : Int))) (a + n)) ∧ a < 512 * (k : Int) + 512 ∧ OwA w.heap.size wx O (dkL a n k) ∧ Below w.heap.size w wx) (fun AT _ _ => (32768 - intOf AT).toNat)
    case atStart => exact ⟨(a / 512).toNat, by omega, by congr 1; omega, by omega, by rw [s0]; exact owa_nil _ _, Below.refl _ _⟩
    case round =>
      obtain ⟨k, hk, rfl, hak, ho, hg⟩ := hrel
      by_cases hlt : max a (512 * (k : Int)) < a + n
      · have hst := pl_step a n k hlt hak
        have hbd := dkL_bd a n k
        obtain ⟨AT, hAT⟩ : ∃ AT, min (max a (512 * (k : Int))) (a + n) = AT := ⟨_, rfl⟩
        rw [hAT]
        obtain ⟨A1, A2, A3⟩ : AT < a + n ∧ 512 * (k : Int) ≤ AT ∧ AT < 512 * (k : Int) + 512 := by omega
        have A4 : max a (512 * (k : Int)) = AT := by omega
        rw [A4] at hst
        obtain ⟨NX, hNX⟩ : ∃ NX, min (512 * (k : Int) + 512) (a + n) = NX := ⟨_, rfl⟩
        rw [hNX] at hst
        have e8 : AT.tdiv 512 = (k : Int) := by rw [Int.tdiv_eq_ediv_of_nonneg (by omega)]; omega
        have e9 : min (((k : Int) + 1) * 512) (a + n) = NX := by rw [← hNX]; congr 1; omega
        have N1 : NX ≤ a + n := by omega
        have N2 : AT < NX := by omega
        have hn2 : Hid (NX = min (max a (512 * ((k + 1 : Nat) : Int))) (a + n) ∧ a < 512 * ((k + 1 : Nat) : Int) + 512 ∧ k + 1 ≤ 64) := hid ⟨by omega, by omega, by omega⟩
        clear hAT A4 hNX
        obtain ⟨R, hR⟩ : ∃ R, dkL a n k = R := ⟨_, rfl⟩
        rw [hR] at ho hbd hst
        clear hR
        rcases hst with ⟨hm, e⟩ | ⟨hm, e⟩
        · have hnx := hid e
          clear e
          have bk := bp wr false k
          have oo := own_belowA ho bk
          go_wp2_with (first
            | (at_builtin; refine wpList_append_row rfl _ _ 32 rfl w.heap.size 36 i4' _ 2 16 Try.underlying32 hi4 hz4 hs4 hb4 rfl (by decide) _ (R ++ [(false, (k : Int))]).length _ rfl oo8 w7.heap.size (acC (true, (k : Int))) rfl rfl (alloc_row w7 (acC (true, (k : Int))) 36) (ac_one _) (by unfold maxLen; first | omega | (rw [List.length_append]; simp; omega)) (by first | omega | (rw [List.length_append]; simp; omega)) (by rw [size_al]; have := h7.size; omega) ?_; intro v9 w9 o9 g9; have h9 := below_grown (below_trans h7 bk8) g9 (fun k hk => (oo8.lt k hk).1))
            | (at_builtin; refine wpList_append_row rfl _ _ 32 rfl w.heap.size 36 i4' _ 2 16 Try.underlying32 hi4 hz4 hs4 hb4 rfl (by decide) _ (R).length _ rfl oo wr.heap.size (acC (false, (k : Int))) rfl rfl (alloc_row wr (acC (false, (k : Int))) 36) (ac_one _) (by unfold maxLen; first | omega | (rw [List.length_append]; simp; omega)) (by first | omega | (rw [List.length_append]; simp; omega)) (by rw [size_al]; have := hg.size; omega) ?_; intro v7 w7 o7 g7; have h7 := below_grown (below_trans hg bk) g7 (fun k hk => (oo.lt k hk).1); have bk8 := bp w7 true k; have o8 : OwA w.heap.size w7 v7 (R ++ [(false, (k : Int))]) := (by simpa [OwA] using o7); have oo8 := own_belowA o8 bk8))
          go_roundw
          case rel => exact ⟨k + 1, hn2.out.2.2, by rw [← hn2.out.1, ← e9]; congr 1; split <;> omega, hn2.out.2.1, by rw [hnx.out, show R ++ [(false, (k : Int)), (true, (k : Int))] = (R ++ [(false, (k : Int))]) ++ [(true, (k : Int))] by simp]; simpa [OwA] using o9, h9⟩
          case measure => simp [intOf]; omega
        · have hnx := hid e
          clear e
          have bk := bp wr true k
          have oo := own_belowA ho bk
          go_wp2_with (at_builtin; refine wpList_append_row rfl _ _ 32 rfl w.heap.size 36 i4' _ 2 16 Try.underlying32 hi4 hz4 hs4 hb4 rfl (by decide) _ (R).length _ rfl oo wr.heap.size (acC (true, (k : Int))) rfl rfl (alloc_row wr (acC (true, (k : Int))) 36) (ac_one _) (by unfold maxLen; first | omega | (rw [List.length_append]; simp; omega)) (by first | omega | (rw [List.length_append]; simp; omega)) (by rw [size_al]; have := hg.size; omega) ?_; intro v7 w7 o7 g7; have h7 := below_grown (below_trans hg bk) g7 (fun k hk => (oo.lt k hk).1))
          go_roundw
          case rel => exact ⟨k + 1, hn2.out.2.2, by rw [← hn2.out.1, ← e9]; congr 1; split <;> omega, hn2.out.2.1, by rw [hnx.out]; simpa [OwA] using o7, h7⟩
          case measure => simp [intOf]; omega
      · have hst := pl_stop a n (64 - k) k (by omega) (by omega)
        have hge : min (max a (512 * (k : Int))) (a + n) = a + n := by omega
        rw [hge]
        clear hge hlt
        go_wp2_with fail
        go_ret2
        exact ⟨_, rfl, by rw [hst]; exact ho, hg⟩

/-
  Arrays of integers by value, of any length, in memory: boxed, read whole, written whole; the cells are a list. No Go text in sight.
-/
/-- the cells of an array -/
def ArA (k : IntKind) (B : List Int) : Array Value := (B.map (Value.int k)).toArray
theorem ara_at {k : IntKind} {B : List Int} (i : Nat) (h : i < B.length) : (ArA k B)[i]? = some (.int k (B.getD i 0)) := by
  simp [ArA, List.getD_eq_getElem?_getD, List.getElem?_eq_getElem h]
theorem ara_size (k : IntKind) (B : List Int) : (ArA k B).size = B.length := by simp [ArA]
theorem ara_one (k : IntKind) (B : List Int) : (ArA k B).all (·.oneCell') = true := by
  rw [Array.all_eq_true_iff_forall_mem]
  intro v hv
  simp only [ArA, List.mem_toArray, List.mem_map] at hv
  obtain ⟨x, _, rfl⟩ := hv
  rfl
theorem ara_set (k : IntKind) (L : List Int) (j : Nat) (v : Int) : (ArA k L).setIfInBounds j (.int k v) = ArA k (L.set j v) := by
  simp [ArA, List.map_set]
/-- from place o of block b on these integers lie -/
def ArAt (k : IntKind) (w : World) (b o : Nat) (B : List Int) : Prop := ∀ i, i < B.length → w.cell? ⟨b, o + i, none⟩ = some (.int k (B.getD i 0))
theorem ArAt.below {k : IntKind} {w w' : World} {b o : Nat} {B : List Int} (h : ArAt k w b o B) (g : Below w.heap.size w w') : ArAt k w' b o B := fun i hi => below_cell g (h i hi)
theorem arat_box (k : IntKind) (w : World) (B : List Int) (T : TypeId) : ArAt k (w.alloc (.cells (ArA k B) T)) w.heap.size 0 B := fun i hi => by
  rw [Nat.zero_add]
  exact box_cell w (ArA k B) T i _ (ara_at i hi)
theorem arat_stands {k : IntKind} {w : World} {b : Nat} {B : List Int} {T : TypeId} (h : Stands w b (ArA k B) T) : ArAt k w b 0 B := fun i hi => by
  rw [Nat.zero_add]
  exact h.cell i _ (ara_at i hi)
theorem ArAt.heap {k : IntKind} {w w' : World} {b o : Nat} {B : List Int} (h : ArAt k w b o B) (g : w'.heap[b]? = w.heap[b]?) : ArAt k w' b o B := fun i hi => by
  have := h i hi
  unfold World.cell? at this ⊢
  rw [g]
  exact this
theorem arat_range {k : IntKind} {w : World} {b o : Nat} {B : List Int} (h : ArAt k w b o B) : w.rangeAt b o (B.map (Value.int k)) := fun j v hv => by
  rw [List.getElem?_map] at hv
  rcases Nat.lt_or_ge j B.length with hj | hj
  · rw [h j hj]
    rw [List.getElem?_eq_getElem hj] at hv
    simp only [Option.map_some] at hv
    rw [← hv, List.getD_eq_getElem?_getD, List.getElem?_eq_getElem hj]
    rfl
  · rw [List.getElem?_eq_none hj] at hv
    cases hv
/-- an array is read whole -/
theorem wpList_load_ar {P : Program} {k : IntKind} {ops : Array Oper} {rest : List Oper} {op : Oper} {a : Act} {w : World} {Q : Exit → Act → World → Prop} (hgd : op.guard = none) (ty : TypeId) (x : Operand) (ho : op.op = .load ty x)
    (b o : Nat) (hx : a.eval x = .pointer (some ⟨b, o, none⟩)) (B : List Int) (hc : ArAt k w b o B) (d : TypeDesc) (hu : P.underlying ty = some d) (hd : d.isRow = true) (hi : (P.info? ty).map (·.size) = some B.length)
    (h : wpList P ops Q rest (a.put op.dst (.agg (ArA k B))) w) : wpList P ops Q (op :: rest) a w :=
  wpList_load_mid hgd ty x ho b o hx (B.map (Value.int k)) d (arat_range hc) hu hd (by rw [List.length_map]; exact hi) h
theorem wpList_load_arG {P : Program} {k : IntKind} {ops : Array Oper} {rest : List Oper} {op : Oper} {a : Act} {w : World} {Q : Exit → Act → World → Prop} (hgd : Region.wanted op (yielded ops a.tmps) = true) (ty : TypeId) (x : Operand) (ho : op.op = .load ty x)
    (b o : Nat) (hx : a.eval x = .pointer (some ⟨b, o, none⟩)) (B : List Int) (hc : ArAt k w b o B) (d : TypeDesc) (hu : P.underlying ty = some d) (hd : d.isRow = true) (hi : (P.info? ty).map (·.size) = some B.length)
    (h : wpList P ops Q rest (a.put op.dst (.agg (ArA k B))) w) : wpList P ops Q (op :: rest) a w :=
  wpList_step fun K hK => by
    rw [if_pos hgd]
    exact wp_load_mid ty x ho b o hx (B.map (Value.int k)) d (arat_range hc) hu hd (by rw [List.length_map]; exact hi) (hK _ _ h)
theorem yields_load_ar {P : Program} {k : IntKind} {ops : Array Oper} {S : World → Prop} {op : Oper} {a : Act} (hw : Region.wanted op (yielded ops a.tmps) = true) (ty : TypeId) (x : Operand) (ho : op.op = .load ty x)
    (b o : Nat) (hx : a.eval x = .pointer (some ⟨b, o, none⟩)) (B : List Int) (d : TypeDesc) (hS : ∀ w, S w → ArAt k w b o B) (hu : P.underlying ty = some d) (hd : d.isRow = true) (hi : (P.info? ty).map (·.size) = some B.length) : YieldsIf P ops S op (.agg (ArA k B)) a :=
  yieldsIf_load_mid hw ty x ho b o hx (B.map (Value.int k)) d (fun w h => arat_range (hS w h)) hu hd (by rw [List.length_map]; exact hi)

end Go.Proofs.Ytcffaojpmdhdoaa
