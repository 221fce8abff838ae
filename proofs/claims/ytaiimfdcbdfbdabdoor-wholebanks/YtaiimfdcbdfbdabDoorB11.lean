/-
  Texts of one proof, laid one behind the other: Ow2 Sgi Gen Va5.
-/
import Derived.Test.YtaiimfdcbdfbdabDoorB10
import Derived.Deep.RegionLaw
import Derived.Laws.ResultCell
namespace Go.Proofs.YtaiimfdcbdfbdabDoor
open Go.ChangeShapes Go.WideShapes Go.ChangeAt Go.RowKit
set_option linter.unusedVariables false
set_option linter.unusedSimpArgs false

/-
  Slices of rows appended to rows of the call's own. No Go text in sight.
-/
theorem flat_get {α : Type} : ∀ (rows : List (List α)) (sz i j : Nat), (∀ r ∈ rows, r.length = sz) → i < rows.length → j < sz → rows.flatten[i * sz + j]? = (rows.getD i [])[j]?
  | [], sz, i, j, _, hi, _ => by simp at hi
  | r :: rows, sz, 0, j, h, hi, hj => by
    have hr := h r (by simp)
    simp only [List.flatten_cons, Nat.zero_mul, Nat.zero_add, List.getD_cons_zero]
    rw [List.getElem?_append_left (by omega)]
  | r :: rows, sz, i + 1, j, h, hi, hj => by
    have hr := h r (by simp)
    have ih := flat_get rows sz i j (fun x hx => h x (by simp [hx])) (by simpa using hi) hj
    simp only [List.flatten_cons, List.getD_cons_succ]
    rw [List.getElem?_append_right (by rw [hr, Nat.add_mul]; omega), hr, show (i + 1) * sz + j - sz = i * sz + j by rw [Nat.add_mul]; omega, ih]
theorem flat_len {α : Type} (rows : List (List α)) (sz : Nat) (h : ∀ r ∈ rows, r.length = sz) : rows.flatten.length = rows.length * sz := by
  induction rows with
  | nil => simp
  | cons r rows ih =>
    rw [List.flatten_cons, List.length_append, ih (fun x hx => h x (by simp [hx])), h r (by simp), List.length_cons, Nat.add_mul]
    omega
/-- append of a slice of rows onto a row of the call's own -/
theorem wp_append_rows {P : Program} {w : World} {o : Oper} {a : Act} {K : Act → World → Prop} {Q : Exit → Act → World → Prop} (s x : Operand) (t : TypeId)
    (ho : o.op = .call { callee := .builtin .append, args := #[s, x], argTypes := #[t, t] })
    (base : Nat) (e : TypeId) (i : TypeInfo) (z : Value) (sz bytes : Nat) (ht : P.underlying t = some (.slice e)) (hi : P.info? e = some i) (hz : i.zero = some z) (hsize : i.size = sz) (hby : i.bytes = bytes) (hzs : z.cells.size = sz) (hsz : 0 < sz)
    (v : Value) (n : Nat) (cs : List Value) (hs : a.eval s = v) (hown : w.ownsRow base e sz v n cs)
    (vx : Value) (rows : List (List Value)) (hx : a.eval x = vx) (hr : SlC sz w vx rows) (h1 : ∀ r ∈ rows, ∀ u ∈ r, u.oneCell' = true)
    (h63 : n + rows.length ≤ maxLen) (hbytes : (n + rows.length) * bytes ≤ 140737488355328) (hbase : base ≤ w.heap.size)
    (h : ∀ v' w', w'.ownsRow base e sz v' (n + rows.length) (cs ++ rows.flatten) → w.grownBy w' v.ownBlock → K (a.put o.dst v') w') : o.wp P a w K Q := by
  rcases hr with ⟨ao, cap, rfl, hn, rfl⟩ | ⟨b, off, cap, rfl, h0, hc1, hc2, hc⟩
  · cases ao with
    | none =>
      obtain rfl := hn rfl
      have hrun := run_append_owned_none (P := P) (w := w) base t o.type e i sz ht hi v n cs hown
      unfold Oper.wp
      simp [execOp, ho, resolve, invoke, builtin, hs, hx, hrun, Result.andThen]
      exact h v w (by simpa using hown) ⟨rfl, rfl, rfl, Nat.le_refl _, fun _ _ _ => rfl⟩
    | some ad =>
      refine wp_append_own w s x t ho base e i z sz bytes ht hi hz hsize hby hzs hsz v n _ hs hown ad 0 cap [] hx (by simp) (by simp) (by simp) (by simpa using h63) (by simpa using hbytes) hbase ?_
      intro v' w' h2 h3 _
      exact h v' w' (by simpa using h2) h3
  · have hlen : ∀ r ∈ rows, r.length = sz := by
      intro r hr
      obtain ⟨k, hk, rfl⟩ := List.getElem_of_mem hr
      have := (hc k hk).1
      rwa [List.getD_eq_getElem?_getD, List.getElem?_eq_getElem hk] at this
    refine wp_append_own w s x t ho base e i z sz bytes ht hi hz hsize hby hzs hsz v n _ hs hown ⟨b, off, none⟩ rows.length cap rows.flatten hx (flat_len rows sz hlen) ?_ (fun u hu => ?_) h63 hbytes hbase ?_
    · intro j u hj
      have hjl : j < rows.length * sz := by
        rw [← flat_len rows sz hlen]
        rcases Nat.lt_or_ge j rows.flatten.length with g | g
        · exact g
        · rw [List.getElem?_eq_none g] at hj; cases hj
      have hdm := Nat.div_add_mod j sz
      have hq : j / sz < rows.length := (Nat.div_lt_iff_lt_mul hsz).2 hjl
      have hm := Nat.mod_lt j hsz
      have e1 := flat_get rows sz (j / sz) (j % sz) hlen hq hm
      have e2 : j / sz * sz + j % sz = j := by rw [Nat.mul_comm]; exact hdm
      rw [e2, hj] at e1
      have e3 := (hc (j / sz) hq).2 (j % sz) hm
      rw [← e1, Nat.add_assoc, e2] at e3
      by_cases hz : j = 0
      · subst hz; simpa [Addr.add] using e3
      · simpa [Addr.add, hz] using e3
    · rw [List.mem_flatten] at hu
      obtain ⟨r, hr, hu⟩ := hu
      exact h1 r hr u hu
    · intro v' w' h2 h3 _
      exact h v' w' h2 h3
theorem wpList_append_rows {P : Program} {w : World} {ops : Array Oper} {rest : List Oper} {o : Oper} {a : Act} {Q : Exit → Act → World → Prop} (hgd : o.guard = none) (s x : Operand) (t : TypeId)
    (ho : o.op = .call { callee := .builtin .append, args := #[s, x], argTypes := #[t, t] })
    (base : Nat) (e : TypeId) (i : TypeInfo) (z : Value) (sz bytes : Nat) (ht : P.underlying t = some (.slice e)) (hi : P.info? e = some i) (hz : i.zero = some z) (hsize : i.size = sz) (hby : i.bytes = bytes) (hzs : z.cells.size = sz) (hsz : 0 < sz)
    (v : Value) (n : Nat) (cs : List Value) (hs : a.eval s = v) (hown : w.ownsRow base e sz v n cs)
    (vx : Value) (rows : List (List Value)) (hx : a.eval x = vx) (hr : SlC sz w vx rows) (h1 : ∀ r ∈ rows, ∀ u ∈ r, u.oneCell' = true)
    (h63 : n + rows.length ≤ maxLen) (hbytes : (n + rows.length) * bytes ≤ 140737488355328) (hbase : base ≤ w.heap.size)
    (h : ∀ v' w', w'.ownsRow base e sz v' (n + rows.length) (cs ++ rows.flatten) → w.grownBy w' v.ownBlock → wpList P ops Q rest (a.put o.dst v') w') : wpList P ops Q (o :: rest) a w :=
  wpList_plain hgd fun _ hK => wp_append_rows s x t ho base e i z sz bytes ht hi hz hsize hby hzs hsz v n cs hs hown vx rows hx hr h1 h63 hbytes hbase fun v' w' h2 h3 => hK _ _ (h v' w' h2 h3)
/-- the same as one step of a region that draws its order -/
theorem step_append_rows {P : Program} {ops : Array Oper} {w : World} {o : Oper} {a : Act} {K : Act → World → Prop} {Q : Exit → Act → World → Prop} {E : Prop} (hgd : o.guard = none) (s x : Operand) (t : TypeId)
    (ho : o.op = .call { callee := .builtin .append, args := #[s, x], argTypes := #[t, t] })
    (base : Nat) (e : TypeId) (i : TypeInfo) (z : Value) (sz bytes : Nat) (ht : P.underlying t = some (.slice e)) (hi : P.info? e = some i) (hz : i.zero = some z) (hsize : i.size = sz) (hby : i.bytes = bytes) (hzs : z.cells.size = sz) (hsz : 0 < sz)
    (v : Value) (n : Nat) (cs : List Value) (hs : a.eval s = v) (hown : w.ownsRow base e sz v n cs)
    (vx : Value) (rows : List (List Value)) (hx : a.eval x = vx) (hr : SlC sz w vx rows) (h1 : ∀ r ∈ rows, ∀ u ∈ r, u.oneCell' = true)
    (h63 : n + rows.length ≤ maxLen) (hbytes : (n + rows.length) * bytes ≤ 140737488355328) (hbase : base ≤ w.heap.size)
    (h : ∀ v' w', w'.ownsRow base e sz v' (n + rows.length) (cs ++ rows.flatten) → w.grownBy w' v.ownBlock → K (a.put o.dst v') w') :
    if Region.wanted o (yielded ops a.tmps) = true then Oper.wp P o a w K Q else E := by
  rw [if_pos (by simp [Region.wanted, hgd])]
  exact wp_append_rows s x t ho base e i z sz bytes ht hi hz hsize hby hzs hsz v n cs hs hown vx rows hx hr h1 h63 hbytes hbase h
/-- one row that was laid, as a slice of rows -/
theorem slc_one (w : World) (row : List Value) (T : TypeId) (sz : Nat) (h : row.length = sz) : SlC sz (w.alloc (.cells row.toArray T)) (.slice (some ⟨w.heap.size, 0, none⟩) 1 1) [row] := by
  refine Or.inr ⟨w.heap.size, 0, 1, rfl, by simp, by simp, by decide, fun i hi => ?_⟩
  have : i = 0 := by simp at hi; omega
  subst this
  refine ⟨by simpa using h, fun j hj => ?_⟩
  rw [World.cell?_alloc_new]
  simp

/-
  A row's cells by their places. No Go text in sight.
-/
/-- a row's cells by their places -/
theorem slr_idxN {α : Type} {P : Program} {R : World → List Value → α → Prop} {w : World} {v : Value} {xs : List α} {sz : Nat} (h : SlR sz R w v xs) {t : TypeId} (ht : P.underlying t = some (.slice (P.elem t))) (hs : ∀ w, (sizeOf (P.elem t)).run P w = .ok sz w) (i : Nat) (h1 : i < xs.length) :
    ∃ (b o : Nat) (cs : List Value), (∀ w', (Instr.indexAt t v (.int .i64 (i : Int))).run P w' = .ok (.pointer (some ⟨b, o, none⟩)) w') ∧ cs.length = sz ∧ (∀ j, j < sz → w.cell? ⟨b, o + j, none⟩ = cs[j]?) ∧ R w cs xs[i] := by
  obtain ⟨rows, g1, g2, g3⟩ := h
  obtain ⟨ao, cap, rfl, hc, hn, hx⟩ := g1.form
  obtain ⟨hm, b, off, rfl, hcell⟩ := hx (by omega)
  obtain ⟨l1, l2⟩ := hcell i (by omega)
  refine ⟨b, off + i * sz, rows.getD i [], fun w' => ?_, l1, fun j hj => l2 j hj, g3 i h1⟩
  rw [run_indexAt_slice (h := ht), if_pos ⟨by omega, by omega⟩, hs]
  simp only [Result.andThen, Int.toNat_natCast]
  congr 3
  unfold Addr.add
  split
  · rename_i hz; rw [hz]; rfl
  · rfl

/-
  Small things about rows and blocks that several layers lean on. No Go text in sight.
-/
theorem rd_slice {k : IntKind} {w : World} {v : Value} {xs : List Int} (h : Rd k w v xs) : ∃ ao cap, v = .slice ao xs.length cap := by
  obtain ⟨ao, cap, rfl, _⟩ := rd_form h
  exact ⟨ao, cap, rfl⟩
theorem slr_slice {α : Type} {R : World → List Value → α → Prop} {sz : Nat} {w : World} {v : Value} {xs : List α} (h : SlR sz R w v xs) : ∃ ao cap, v = .slice ao xs.length cap := by
  obtain ⟨rows, h1, h2, _⟩ := h
  obtain ⟨ao, cap, rfl, _⟩ := h1.form
  exact ⟨ao, cap, by rw [h2]⟩
theorem set_kept {w : World} {b : Nat} {cs : Array Value} {T : TypeId} (h : Stands w b cs T) (j : Nat) (u : Value) : Kept T w (w.setCell ⟨b, j, none⟩ u) := by
  refine Kept.stands h ⟨rfl, rfl, rfl, by simp, fun k hk hne => ?_⟩
  exact Below.heap_setCell _ _ _ k (fun e => hne (by rw [e]))
theorem set5 {w : World} {b : Nat} {z0 z1 z2 z3 z4 : Value} {T : TypeId} (h : Stands w b #[z0, z1, z2, z3, z4] T) (a0 a1 a2 a3 a4 : Value) :
    Stands (((((w.setCell ⟨b, 0, none⟩ a0).setCell ⟨b, 1, none⟩ a1).setCell ⟨b, 2, none⟩ a2).setCell ⟨b, 3, none⟩ a3).setCell ⟨b, 4, none⟩ a4) b #[a0, a1, a2, a3, a4] T ∧
    (∀ {base : Nat} {e : TypeId} {sz : Nat} {v : Value} {n : Nat} {xs : List Value}, ¬ e = T → w.ownsRow base e sz v n xs → (((((w.setCell ⟨b, 0, none⟩ a0).setCell ⟨b, 1, none⟩ a1).setCell ⟨b, 2, none⟩ a2).setCell ⟨b, 3, none⟩ a3).setCell ⟨b, 4, none⟩ a4).ownsRow base e sz v n xs) := by
  have h0 := h.set 0 a0
  have h1 := h0.set 1 a1
  have h2 := h1.set 2 a2
  have h3 := h2.set 3 a3
  have h4 := h3.set 4 a4
  exact ⟨h4, fun hne o => own_kept (set_kept h3 4 a4) hne (own_kept (set_kept h2 3 a3) hne (own_kept (set_kept h1 2 a2) hne (own_kept (set_kept h0 1 a1) hne (own_kept (set_kept h 0 a0) hne o))))⟩
theorem own_some {w : World} {base : Nat} {e : TypeId} {sz : Nat} {v : Value} {n : Nat} {cs : List Value} (o : w.ownsRow base e sz v n cs) (h : 0 < n) : ∃ g cap, v = .slice (some ⟨g, 0, none⟩) n cap := by
  rcases o.2 with ⟨_, h0⟩ | ⟨g, cap, cur, hv, _⟩
  · omega
  · exact ⟨g, cap, hv⟩
theorem own_cell {w : World} {base : Nat} {e : TypeId} {sz g n cap : Nat} {cs : List Value} (o : w.ownsRow base e sz (.slice (some ⟨g, 0, none⟩) n cap) n cs) (j : Nat) (u : Value) (h : cs[j]? = some u) : w.cell? ⟨g, j, none⟩ = some u := by
  have h1 := o.cells (g := g) rfl j u h
  have e1 : (⟨g, 0, none⟩ : Addr).add j = ⟨g, j, none⟩ := by
    unfold Addr.add
    split
    · rename_i hz; rw [hz]
    · simp
  rwa [e1] at h1
theorem two_boxes (w : World) (a b : Array Value) (T : TypeId) : Stands ((w.alloc (.cells a T)).alloc (.cells b T)) w.heap.size a T ∧ Stands ((w.alloc (.cells a T)).alloc (.cells b T)) (w.heap.size + 1) b T ∧ Below w.heap.size w ((w.alloc (.cells a T)).alloc (.cells b T)) := by
  refine ⟨(stands_new w a T).below (box_below _ _), ?_, below_trans (box_below w _) (box_below _ _)⟩
  have := stands_new (w.alloc (.cells a T)) b T
  rwa [size_al] at this
theorem grown_below {w w' : World} {r : Option Nat} (g : w.grownBy w' r) {e : TypeId} {sz base : Nat} {v : Value} {n : Nat} {cs : List Value} (o : w.ownsRow base e sz v n cs) (hne : ∀ k, v.ownBlock = some k → r ≠ some k) : w'.ownsRow base e sz v n cs := by
  obtain ⟨hl, o⟩ := o
  refine ⟨hl, ?_⟩
  rcases o with h | ⟨b, cap, cur, rfl, h1, h2, h3⟩
  · exact Or.inl h
  · refine Or.inr ⟨b, cap, cur, rfl, h1, ?_, h3⟩
    rw [g.block b (Array.getElem?_eq_some_iff.1 h2).1 (fun e => hne b rfl e.symm)]
    exact h2
theorem gb_refl (w : World) (r : Option Nat) : w.grownBy w r := ⟨rfl, rfl, rfl, Nat.le_refl _, fun _ _ _ => rfl⟩
theorem gb_below {a b c : World} {r : Option Nat} (h : a.grownBy b r) (g : Below b.heap.size b c) : a.grownBy c r :=
  ⟨g.os.trans h.os, g.tape.trans h.tape, g.output.trans h.output, Nat.le_trans h.size g.size, fun k hk hne => (g.block k (Nat.lt_of_lt_of_le hk h.size)).trans (h.block k hk hne)⟩
theorem gb_set {a b : World} {g : Nat} (h : a.grownBy b (some g)) (j : Nat) (u : Value) : a.grownBy (b.setCell ⟨g, j, none⟩ u) (some g) :=
  ⟨h.os, h.tape, h.output, by simpa [World.setCell] using h.size, fun k hk hne => (Below.heap_setCell _ _ _ k (fun e => hne (by rw [e]))).trans (h.block k hk hne)⟩
theorem gb_new {a b : World} {r : Option Nat} {g : Nat} (h : a.grownBy b r) (hg : a.heap.size ≤ g) (j : Nat) (u : Value) : a.grownBy (b.setCell ⟨g, j, none⟩ u) r :=
  ⟨h.os, h.tape, h.output, by simpa [World.setCell] using h.size, fun k hk hne => (Below.heap_setCell _ _ _ k (fun e => by have e2 : k = g := e; omega)).trans (h.block k hk hne)⟩
theorem slr_tail {α : Type} {P : Program} {R : World → List Value → α → Prop} {w : World} {v : Value} {xs : List α} {sz : Nat} (h : SlR sz R w v xs) {t : TypeId} (ht : P.underlying t = some (.slice (P.elem t))) (hs : ∀ w, (sizeOf (P.elem t)).run P w = .ok sz w) (n : Nat) (hn : n ≤ xs.length) :
    ∃ v', (∀ w', (Instr.slice t v (some (.int .i64 (n : Int))) none none).run P w' = .ok v' w') ∧ SlR sz R w v' (xs.drop n) := by
  obtain ⟨rows, h1, h2, h3⟩ := h
  obtain ⟨ao, cap, rfl, hc, hno, hx⟩ := h1.form
  refine ⟨sliced ao n rows.length cap sz, fun w' => ?_, rows.drop n, ?_, by simp [h2], fun i hi => ?_⟩
  · rw [run_slice_l w' t ao rows.length cap ht .i64 (n : Int) (by omega) (by omega), hs]
    simp [Result.andThen]
  · rcases Nat.eq_zero_or_pos (rows.length - n) with h0 | h0
    · refine Or.inl ⟨if cap = n then ao else ao.map (·.add (n * sz)), cap - n, by rw [sliced, h0], ?_, ?_⟩
      · intro he
        by_cases hcl : cap = n
        · omega
        · rw [if_neg hcl] at he
          cases ao with
          | none => have := hno rfl; omega
          | some a => cases he
      · apply List.eq_nil_of_length_eq_zero
        rw [List.length_drop]
        exact h0
    · obtain ⟨hm, b, off, rfl, hcell⟩ := hx (by omega)
      have hl : (rows.drop n).length = rows.length - n := by simp
      refine Or.inr ⟨b, off + n * sz, cap - n, ?_, by omega, by omega, by omega, fun i hi => ?_⟩
      · rw [sliced, hl, if_neg (by omega)]
        simp [Addr.add]
      · rw [hl] at hi
        have e : (rows.drop n).getD i [] = rows.getD (n + i) [] := by
          rw [List.getD_eq_getElem?_getD, List.getD_eq_getElem?_getD, List.getElem?_drop]
        rw [e]
        have := hcell (n + i) (by omega)
        rw [show off + n * sz + i * sz = off + (n + i) * sz by rw [Nat.add_mul]; omega]
        exact this
  · have hi2 : n + i < xs.length := by simp at hi; omega
    have e : (rows.drop n).getD i [] = rows.getD (n + i) [] := by
      rw [List.getD_eq_getElem?_getD, List.getD_eq_getElem?_getD, List.getElem?_drop]
    rw [e, List.getElem_drop]
    exact h3 (n + i) hi2
theorem own_belowN {w w' : World} {base : Nat} {e : TypeId} {sz : Nat} {v : Value} {n : Nat} {cs : List Value} (o : w.ownsRow base e sz v n cs) (g : Below w.heap.size w w') : w'.ownsRow base e sz v n cs := by
  obtain ⟨hl, h3⟩ := o
  refine ⟨hl, ?_⟩
  rcases h3 with h | ⟨b, cap, cur, rfl, hb, hg, hc⟩
  · exact Or.inl h
  · refine Or.inr ⟨b, cap, cur, rfl, hb, ?_, hc⟩
    rw [g.block b (Array.getElem?_eq_some_iff.1 hg).1]
    exact hg
theorem slr_first {α : Type} {P : Program} {R : World → List Value → α → Prop} {w : World} {v : Value} {xs : List α} {sz : Nat} (h : SlR sz R w v xs) {t : TypeId} (ht : P.underlying t = some (.slice (P.elem t))) (hs : ∀ w, (sizeOf (P.elem t)).run P w = .ok sz w) (n : Nat) (hn : n ≤ xs.length) :
    ∃ v', (∀ w', (Instr.slice t v none (some (.int .i64 (n : Int))) none).run P w' = .ok v' w') ∧ SlR sz R w v' (xs.take n) := by
  obtain ⟨rows, h1, h2, h3⟩ := h
  obtain ⟨ao, cap, rfl, hc, hno, hx⟩ := h1.form
  refine ⟨sliced ao 0 n cap sz, fun w' => ?_, rows.take n, ?_, by simp [h2], fun i hi => ?_⟩
  · rw [run_slice_h w' t ao rows.length cap ht .i64 (n : Int) (by omega) (by omega), hs]
    simp [Result.andThen]
  · rcases Nat.eq_zero_or_pos n with h0 | h0
    · subst h0
      refine Or.inl ⟨if cap = 0 then ao else ao.map (·.add (0 * sz)), cap, by simp [sliced], ?_, by simp⟩
      intro he
      by_cases hc0 : cap = 0
      · exact hc0
      · rw [if_neg hc0] at he
        cases ao with
        | none => exact hno rfl
        | some a => cases he
    · obtain ⟨hm, b, off, rfl, hcell⟩ := hx (by omega)
      have hl : (rows.take n).length = n := by simp; omega
      refine Or.inr ⟨b, off, cap, ?_, by omega, by omega, hm, fun i hi => ?_⟩
      · rw [sliced, hl, if_neg (by omega)]
        simp [Addr.add]
      · rw [hl] at hi
        have e : (rows.take n).getD i [] = rows.getD i [] := by
          rw [List.getD_eq_getElem?_getD, List.getD_eq_getElem?_getD, List.getElem?_take, if_pos hi]
        rw [e]
        exact hcell i (by omega)
  · have hi2 : i < n := by simp at hi; omega
    have e : (rows.take n).getD i [] = rows.getD i [] := by
      rw [List.getD_eq_getElem?_getD, List.getD_eq_getElem?_getD, List.getElem?_take, if_pos hi2]
    rw [e, List.getElem_take]
    exact h3 i (by simp at hi; omega)
theorem res_row2 {P : Program} {fn : Func} {p a : Tmp} {ty : TypeId} (h : fn.results = #[.cell p ty, .tmp a]) (tmps : Array Value) (w : World) (g : Nat) (t : TypeId) (cs : Array Value) (fr : Nat × Nat) (d : TypeDesc)
    (hp : tmps.getD p undef = .pointer (some ⟨g, 0, none⟩)) (hg : w.heap[g]? = some (.cells cs t fr))
    (hu : P.underlying ty = some d) (hd : (match d with | .struct _ | .array _ _ => true | _ => false) = true) (hi : (P.info? ty).map (·.size) = some cs.size) :
    (results fn tmps).run P w = .ok (.tuple #[.agg cs, tmps.getD a undef]) w := by
  have hp' : tmps[p]?.getD undef = .pointer (some ⟨g, 0, none⟩) := by simpa using hp
  simp [results, h, hp', asAddr, run_loadVar_row w g t ty cs fr d hg hu hd hi]
theorem res_row3 {P : Program} {fn : Func} {p a b : Tmp} {ty : TypeId} (h : fn.results = #[.cell p ty, .tmp a, .tmp b]) (tmps : Array Value) (w : World) (g : Nat) (t : TypeId) (cs : Array Value) (fr : Nat × Nat) (d : TypeDesc)
    (hp : tmps.getD p undef = .pointer (some ⟨g, 0, none⟩)) (hg : w.heap[g]? = some (.cells cs t fr))
    (hu : P.underlying ty = some d) (hd : (match d with | .struct _ | .array _ _ => true | _ => false) = true) (hi : (P.info? ty).map (·.size) = some cs.size) :
    (results fn tmps).run P w = .ok (.tuple #[.agg cs, tmps.getD a undef, tmps.getD b undef]) w := by
  have hp' : tmps[p]?.getD undef = .pointer (some ⟨g, 0, none⟩) := by simpa using hp
  simp [results, h, hp', asAddr, run_loadVar_row w g t ty cs fr d hg hu hd hi]
theorem set5q {w : World} {b : Nat} {z0 z1 z2 z3 z4 : Value} {T : TypeId} (h : Stands w b #[z0, z1, z2, z3, z4] T) (a0 a1 a2 a3 a4 : Value) :
    Stands (((((w.setCell ⟨b, 0, none⟩ a0).setCell ⟨b, 1, none⟩ a1).setCell ⟨b, 2, none⟩ a2).setCell ⟨b, 3, none⟩ a3).setCell ⟨b, 4, none⟩ a4) b #[a0, a1, a2, a3, a4] T ∧ ∀ Q : World → Prop, (∀ u u', Kept T u u' → Q u → Q u') → Q w → Q (((((w.setCell ⟨b, 0, none⟩ a0).setCell ⟨b, 1, none⟩ a1).setCell ⟨b, 2, none⟩ a2).setCell ⟨b, 3, none⟩ a3).setCell ⟨b, 4, none⟩ a4) := by
  have h0 := h.set 0 a0
  have h1 := h0.set 1 a1
  have h2 := h1.set 2 a2
  have h3 := h2.set 3 a3
  have h4 := h3.set 4 a4
  exact ⟨by simpa only [List.setIfInBounds_toArray, List.set_cons_zero, List.set_cons_succ] using h4, fun Q hQ q => hQ _ _ (set_kept h3 4 a4) (hQ _ _ (set_kept h2 3 a3) (hQ _ _ (set_kept h1 2 a2) (hQ _ _ (set_kept h0 1 a1) (hQ _ _ (set_kept h 0 a0) q))))⟩

/-
  Index and Cut of bytes at one byte; the first setting of bytes.
-/
set_option maxRecDepth 100000

theorem va_noend : ∀ (a cur : List Int) (eq : Option Nat) (out : List Stt), (∀ x ∈ a, ¬ x = 0) → ¬ (a = [] ∧ cur = []) → vaX a cur eq out = none
  | [], cur, eq, out, _, h => by
    have h2 : ¬ cur = [] := fun z => h ⟨rfl, z⟩
    simp [vaX, h2]
  | c :: a, cur, eq, out, h, _ => by
    have hc := h c (by simp)
    simp only [vaX, if_neg hc]
    exact va_noend a _ _ out (fun x hx => h x (by simp [hx])) (fun z => by simp at z)
theorem va_nopart (a r : List Int) (out : List Stt) (h : ∀ x ∈ a, ¬ x = 0) (h2 : ∀ x ∈ a, ¬ x = 61) : vaX (a ++ 0 :: r) [] none out = none := by
  rw [va_name a _ _ _ (fun c hc => ⟨h c hc, h2 c hc⟩)]
  simp [vaX]
theorem va_both (n v r : List Int) (out : List Stt) (hn : bytesL n) (hv : bytesL v) (h : ∀ x ∈ n ++ 61 :: v, ¬ x = 0) (h2 : ∀ x ∈ n, ¬ x = 61) : vaX ((n ++ 61 :: v) ++ 0 :: r) [] none out = vaX r [] none (out ++ [(strOfNums n, strOfNums v)]) := by
  have e1 : L (strOfNums n) = n := LB_nums _ hn
  have e2 : L (strOfNums v) = v := LB_nums _ hv
  have := va_rec (strOfNums n) (strOfNums v) r out (fun c hc => by rw [e1] at hc; exact ⟨h c (by simp [hc]), h2 c hc⟩) (fun c hc => by rw [e2] at hc; exact h c (by simp [hc]))
  rw [e1, e2] at this
  simpa using this

set_option maxHeartbeats 1000000 in
set_option maxRecDepth 100000 in
theorem w_pbindex (v vs : Value) (xs : List Int) (c : Int) (w : World) (h : Rd .u8 w v xs) (hB : bytesL xs) (hs : Rd .u8 w vs [c]) (h0 : 0 ≤ c) (h1 : c < 256) :
    Calls Tryd.prog 73 #[v, vs] w fun e w' => ∃ i, e = .returned (.int .i64 i) ∧ AtB xs c i ∧ w' = w := by
  have hl := rd_len hs uB (P := Tryd.prog)
  obtain ⟨a, i1, i2⟩ := rd_idx hs uB zB 0 (by decide) (by simp)
  replace i2 : w.cell? a = some (.int .u8 c) := i2
  have hl1 : ∀ ty w', (Builtin.len_ #[22] ty #[vs]).run Tryd.prog w' = .ok (.int .i64 1) w' := fun ty w' => hl ty w'
  clear hl
  have cB := w_bib v xs c w h hB h0 h1
  go_enter Tryd.func73, Tryd.ntmps73
  go_wp2_with (go_at_call 79; refine cB.mono ?_; rintro e w1 ⟨i, rfl, hi, hw⟩; obtain rfl := hw.symm)
  go_ret
  exact ⟨i, rfl, hi, rfl⟩

/-- what Cut at one byte answers -/
def CutB (w : World) (xs : List Int) (c : Int) (v1 v2 : Value) (f : Bool) : Prop :=
  (f = false ∧ (∀ x ∈ xs, ¬ x = c) ∧ Rd .u8 w v1 xs ∧ v2 = .slice none 0 0) ∨ (f = true ∧ ∃ a b, xs = a ++ c :: b ∧ (∀ x ∈ a, ¬ x = c) ∧ Rd .u8 w v1 a ∧ Rd .u8 w v2 b)

set_option maxHeartbeats 1000000 in
set_option maxRecDepth 100000 in
theorem w_pbcut (v vs : Value) (xs : List Int) (c : Int) (wo w : World) (h : Rd .u8 wo v xs) (hwo : Below wo.heap.size wo w) (hB : bytesL xs) (hs : Rd .u8 w vs [c]) (h0 : 0 ≤ c) (h1 : c < 256) (hz : xs.length ≤ 1048576) :
    Calls Tryd.prog 62 #[v, vs] w fun e w' => ∃ v1 v2 f, e = .returned (.tuple #[v1, v2, .bool f]) ∧ CutB wo xs c v1 v2 f ∧ Below w.heap.size w w' := by
  have hl1 : ∀ ty w', (Builtin.len_ #[22] ty #[vs]).run Tryd.prog w' = .ok (.int .i64 1) w' := fun ty w' => rd_len hs uB (P := Tryd.prog) ty w'
  have cI := w_pbindex v vs xs c w (h.below hwo) hB hs h0 h1
  go_enter Tryd.func62, Tryd.ntmps62
  go_wp2_with (go_at_call 73; refine cI.mono ?_; rintro e w1 ⟨i, rfl, hi, hw⟩; obtain rfl := hw.symm; refine Hid.out ?_)
  rcases hi with ⟨rfl, h2⟩ | ⟨k, rfl, h2, h3, h4⟩
  · refine hid ?_
    have H2 := hid h2
    clear h2 cI
    go_wp2_with fail
    go_ret3
    exact ⟨_, _, _, rfl, Or.inl ⟨rfl, H2.out, h, rfl⟩, Below.refl _ _⟩
  · refine hid ?_
    have H3 := hid h3
    have H4 := hid h4
    clear h3 h4 cI
    obtain ⟨va, ra, ja, ja1, _⟩ := rd_cutI h uB zB 0 (k : Int) (by omega) (by omega) (by omega)
    obtain ⟨vb, rb, jb, _, jb1⟩ := rd_cutI h uB zB ((k : Int) + 1) xs.length (by omega) (by omega) (by omega)
    have ja2 := ja1 rfl
    have jb2 := jb1 rfl
    clear ja ja1 jb jb1
    have ea : (xs.drop (0 : Int).toNat).take ((k : Int) - 0).toNat = xs.take k := by simp
    have eb : (xs.drop ((k : Int) + 1).toNat).take ((xs.length : Int) - ((k : Int) + 1)).toNat = xs.drop (k + 1) := by
      rw [show ((k : Int) + 1).toNat = k + 1 by omega]
      exact List.take_of_length_le (by rw [List.length_drop]; omega)
    rw [ea] at ra
    rw [eb] at rb
    clear ea eb
    have hk : k ≤ 1048576 := by omega
    go_wp2_with fail
    go_quiet (fail)
    go_wp2_with fail
    go_ret3
    exact ⟨_, _, _, rfl, Or.inr ⟨rfl, xs.take k, xs.drop (k + 1), H3.out, H4.out, ra, rb⟩, below_drewN (Below.refl _ _) _⟩

end Go.Proofs.YtaiimfdcbdfbdabDoor
