/-
  Texts of one proof, laid one behind the other: Ow Ow2 Sgi Gen Lr3 Lr4.
-/
import Derived.Test.YtnaoefjcfmdenaaB2
import Derived.Laws.OwnMore
import Derived.Deep.RegionLaw
import Derived.Laws.ResultCell
import Derived.Deep.RegionHeld
import Derived.Laws.CopyOwn
namespace Go.Proofs.Ytnaoefjcfmdenaa
open Go.ChangeShapes Go.WideShapes Go.ChangeAt Go.RowKit
set_option linter.unusedVariables false
set_option linter.unusedSimpArgs false

/-
  Rows that the call has built, whose cells may be slices of the call's own themselves: what stands when another row grows or is written, by the kinds of the blocks. No Go text in sight.
-/
/-- all old blocks stand but perhaps one of kind T -/
def Kept (T : TypeId) (w w' : World) : Prop := ∃ row, w.grownBy w' row ∧ ∀ g, row = some g → ∃ cur fr, w.heap[g]? = some (.cells cur T fr)
theorem grown_none {w w' : World} (h : Below w.heap.size w w') : w.grownBy w' none := ⟨h.os, h.tape, h.output, h.size, fun k hk _ => h.block k hk⟩
theorem Kept.below {T : TypeId} {w w' : World} (h : Below w.heap.size w w') : Kept T w w' := ⟨none, grown_none h, fun g hg => by cases hg⟩
theorem Kept.own {base : Nat} {e : TypeId} {sz : Nat} {w w' : World} {v : Value} {n : Nat} {cs : List Value} (o : w.ownsRow base e sz v n cs) (g : w.grownBy w' v.ownBlock) : Kept e w w' := by
  refine ⟨_, g, fun k hk => ?_⟩
  obtain ⟨_, o⟩ := o
  rcases o with ⟨rfl, _⟩ | ⟨k', cap, cur, rfl, _, h1, _⟩
  · simp [Value.ownBlock] at hk
  · simp [Value.ownBlock] at hk
    subst hk
    exact ⟨cur, _, h1⟩
theorem Kept.stands {b : Nat} {cs : Array Value} {T : TypeId} {w w' : World} (h : Stands w b cs T) (g : w.grownBy w' (some b)) : Kept T w w' :=
  ⟨_, g, fun k hk => by cases hk; exact ⟨cs, _, h⟩⟩
/-- what does not lie in blocks of kind T -/
def Apt {α : Type} (T : TypeId) (O : World → List Value → α → Prop) : Prop := ∀ w w' cs x, Kept T w w' → O w cs x → O w' cs x
theorem own_kept {T : TypeId} {w w' : World} (k : Kept T w w') {base : Nat} {e : TypeId} {sz : Nat} {v : Value} {n : Nat} {cs : List Value} (hne : ¬ e = T) (o : w.ownsRow base e sz v n cs) : w'.ownsRow base e sz v n cs := by
  obtain ⟨row, g, hr⟩ := k
  obtain ⟨hl, o⟩ := o
  refine ⟨hl, ?_⟩
  rcases o with o | ⟨b, cap, cur, rfl, hb, h1, o⟩
  · exact Or.inl o
  · refine Or.inr ⟨b, cap, cur, rfl, hb, ?_, o⟩
    rw [g.block b (Array.getElem?_eq_some_iff.1 h1).1 (fun e0 => ?_)]
    · exact h1
    · obtain ⟨cur', fr, h2⟩ := hr b e0.symm
      rw [h1] at h2
      simp at h2
      exact hne h2.2.1
theorem stands_kept {T : TypeId} {w w' : World} (k : Kept T w w') {b : Nat} {cs : Array Value} {e : TypeId} (hne : ¬ e = T) (h : Stands w b cs e) : Stands w' b cs e := by
  obtain ⟨row, g, hr⟩ := k
  unfold Stands at h ⊢
  rw [g.block b (Array.getElem?_eq_some_iff.1 h).1 (fun e0 => ?_)]
  · exact h
  · obtain ⟨cur', fr, h2⟩ := hr b e0.symm
    rw [h] at h2
    simp at h2
    exact hne h2.2.1
/-- rows of sz cells of kind e, each as O says -/
def OwnR {α : Type} (e : TypeId) (sz : Nat) (O : World → List Value → α → Prop) (base : Nat) (w : World) (v : Value) (xs : List α) : Prop :=
  ∃ rows : List (List Value), rows.length = xs.length ∧ (∀ r ∈ rows, r.length = sz) ∧ w.ownsRow base e sz v xs.length rows.flatten ∧ ∀ i (h : i < xs.length), O w (rows.getD i []) xs[i]
theorem OwnR.nil {α : Type} (e : TypeId) (sz : Nat) (O : World → List Value → α → Prop) (base : Nat) (w : World) : OwnR e sz O base w (.slice none 0 0) ([] : List α) := ⟨[], rfl, by simp, World.ownsRow_nil _ _ _ _, fun i hi => by simp at hi⟩
theorem OwnR.row {α : Type} {e : TypeId} {sz : Nat} {O : World → List Value → α → Prop} {base : Nat} {w : World} {v : Value} {xs : List α} (h : OwnR e sz O base w v xs) : ∃ cs, w.ownsRow base e sz v xs.length cs := by
  obtain ⟨rows, _, _, h3, _⟩ := h
  exact ⟨_, h3⟩
theorem OwnR.read {α : Type} {e : TypeId} {sz : Nat} {O R : World → List Value → α → Prop} {base : Nat} {w : World} {v : Value} {xs : List α} (hsz : 0 < sz) (h : OwnR e sz O base w v xs) (hR : ∀ cs x, O w cs x → R w cs x) : SlR sz R w v xs := by
  obtain ⟨rows, h1, h2, h3, h4⟩ := h
  have h5 : SlR sz (fun _ cs (r : List Value) => cs = r) w v rows := slr_rows (n := xs.length) (e := e) (base := base) id h2 hsz (by simpa [List.flatMap_id] using h3) (fun _ _ => rfl)
  obtain ⟨rows', k1, k2, k3⟩ := h5
  have e0 : rows' = rows := by
    apply List.ext_getElem k2
    intro i hi hj
    have := k3 i hj
    rw [List.getD_eq_getElem?_getD, List.getElem?_eq_getElem hi] at this
    simpa using this
  subst e0
  exact ⟨rows', k1, h1, fun i hi => hR _ _ (h4 i hi)⟩
theorem OwnR.kept {α : Type} {T e : TypeId} {sz : Nat} {O : World → List Value → α → Prop} {base : Nat} {w w' : World} {v : Value} {xs : List α} (h : OwnR e sz O base w v xs) (k : Kept T w w') (hne : ¬ e = T) (ha : Apt T O) : OwnR e sz O base w' v xs := by
  obtain ⟨rows, h1, h2, h3, h4⟩ := h
  exact ⟨rows, h1, h2, own_kept k hne h3, fun i hi => ha _ _ _ _ k (h4 i hi)⟩
theorem OwnR.apt {α : Type} {T e : TypeId} {sz : Nat} {O : World → List Value → α → Prop} {base : Nat} (hne : ¬ e = T) (ha : Apt T O) : ∀ w w' v xs, Kept T w w' → OwnR e sz O base w v xs → OwnR e sz O base w' v xs := fun w w' v xs k h => h.kept k hne ha
/-- behind a call that leaves all that is old -/
theorem OwnR.below {α : Type} {e : TypeId} {sz : Nat} {O : World → List Value → α → Prop} {base : Nat} {w w' : World} {v : Value} {xs : List α} (h : OwnR e sz O base w v xs) (g : Below w.heap.size w w') (hO : ∀ cs x, O w cs x → O w' cs x) : OwnR e sz O base w' v xs := by
  obtain ⟨rows, h1, h2, ⟨hl, h3⟩, h4⟩ := h
  refine ⟨rows, h1, h2, ⟨hl, ?_⟩, fun i hi => hO _ _ (h4 i hi)⟩
  rcases h3 with h | ⟨b, cap, cur, rfl, hb, hg, hc⟩
  · exact Or.inl h
  · refine Or.inr ⟨b, cap, cur, rfl, hb, ?_, hc⟩
    rw [g.block b (Array.getElem?_eq_some_iff.1 hg).1]
    exact hg
theorem OwnR.le {α : Type} {e : TypeId} {sz : Nat} {O O' : World → List Value → α → Prop} {base base' : Nat} {w : World} {v : Value} {xs : List α} (hb : base' ≤ base) (h : OwnR e sz O base w v xs) (hO : ∀ cs x, O w cs x → O' w cs x) : OwnR e sz O' base' w v xs := by
  obtain ⟨rows, h1, h2, h3, h4⟩ := h
  exact ⟨rows, h1, h2, own_le hb h3, fun i hi => hO _ _ (h4 i hi)⟩
/-- a row more -/
theorem OwnR.snoc {α : Type} {e : TypeId} {sz : Nat} {O : World → List Value → α → Prop} {base : Nat} {w w' : World} {U v' : Value} {xs : List α} {x : α} {row : List Value} {rows : List (List Value)} (ha : Apt e O) (h1 : rows.length = xs.length) (h2 : ∀ r ∈ rows, r.length = sz) (h3 : w.ownsRow base e sz U xs.length rows.flatten) (h4 : ∀ i (h : i < xs.length), O w (rows.getD i []) xs[i])
    (hr : row.length = sz) (hx : O w row x) (o : w'.ownsRow base e sz v' (xs.length + 1) (rows.flatten ++ row)) (g : w.grownBy w' U.ownBlock) : OwnR e sz O base w' v' (xs ++ [x]) := by
  have k := Kept.own h3 g
  refine ⟨rows ++ [row], by simp [h1], fun r hm => ?_, by simpa using o, fun i hi => ?_⟩
  · rcases List.mem_append.1 hm with hm | hm
    · exact h2 r hm
    · simp at hm; subst hm; exact hr
  · by_cases hlt : i < xs.length
    · rw [List.getD_eq_getElem?_getD, List.getElem?_append_left (by omega), List.getElem_append_left hlt, ← List.getD_eq_getElem?_getD]
      exact ha _ _ _ _ k (h4 i hlt)
    · have hi2 : i = xs.length := by simp at hi; omega
      subst hi2
      rw [List.getD_eq_getElem?_getD, List.getElem?_append_right (by omega), h1]
      simp
      exact ha _ _ _ _ k hx
theorem flat_set {α : Type} : ∀ (rows : List (List α)) (sz i j : Nat) (u : α), (∀ r ∈ rows, r.length = sz) → i < rows.length → j < sz → rows.flatten.set (i * sz + j) u = (rows.set i ((rows.getD i []).set j u)).flatten
  | [], sz, i, j, u, _, hi, _ => by simp at hi
  | r :: rows, sz, 0, j, u, h, hi, hj => by
    have hr := h r (by simp)
    simp only [List.flatten_cons, Nat.zero_mul, Nat.zero_add, List.set_cons_zero, List.getD_cons_zero]
    rw [List.set_append_left _ _ (by omega)]
  | r :: rows, sz, i + 1, j, u, h, hi, hj => by
    have hr := h r (by simp)
    have ih := flat_set rows sz i j u (fun x hx => h x (by simp [hx])) (by simpa using hi) hj
    simp only [List.flatten_cons, List.set_cons_succ, List.getD_cons_succ]
    rw [List.set_append_right _ _ (by rw [hr, Nat.add_mul]; omega), hr, show (i + 1) * sz + j - sz = i * sz + j by rw [Nat.add_mul]; omega, ih]
/-- a cell of a row written -/
theorem OwnR.set {α : Type} {e : TypeId} {sz : Nat} {O : World → List Value → α → Prop} {base : Nat} {w : World} {g n cap : Nat} {xs : List α} {rows : List (List Value)} (ha : Apt e O) (h1 : rows.length = xs.length) (h2 : ∀ r ∈ rows, r.length = sz) (h3 : w.ownsRow base e sz (.slice (some ⟨g, 0, none⟩) n cap) xs.length rows.flatten) (h4 : ∀ i (h : i < xs.length), O w (rows.getD i []) xs[i])
    (i j : Nat) (hi : i < xs.length) (hj : j < sz) (u : Value) (x : α) (hx : O (w.setCell ⟨g, i * sz + j, none⟩ u) ((rows.getD i []).set j u) x) : OwnR e sz O base (w.setCell ⟨g, i * sz + j, none⟩ u) (.slice (some ⟨g, 0, none⟩) n cap) (xs.set i x) ∧ Kept e w (w.setCell ⟨g, i * sz + j, none⟩ u) := by
  have hn : n = xs.length := by
    obtain ⟨_, h3⟩ := h3
    rcases h3 with ⟨h, _⟩ | ⟨g', cap', cur, h, _⟩
    · simp at h
    · simp at h; exact h.2.1
  subst hn
  obtain ⟨s1, s2⟩ := h3.stored (i * sz + j) u
  have k : Kept e w (w.setCell ⟨g, i * sz + j, none⟩ u) := Kept.own (v := .slice (some ⟨g, 0, none⟩) xs.length cap) h3 (by simpa [Value.ownBlock] using s2)
  rw [flat_set rows sz i j u h2 (by omega) hj] at s1
  refine ⟨⟨rows.set i ((rows.getD i []).set j u), by simp [h1], fun r hm => ?_, by simpa using s1, fun m hm => ?_⟩, k⟩
  · rcases List.mem_or_eq_of_mem_set hm with hm | rfl
    · exact h2 r hm
    · rw [List.length_set, List.getD_eq_getElem?_getD, List.getElem?_eq_getElem (by omega)]
      exact h2 _ (List.getElem_mem _)
  · rw [List.length_set] at hm
    rw [List.getElem_set]
    by_cases him : i = m
    · subst him
      rw [if_pos rfl, List.getD_eq_getElem?_getD, List.getElem?_set_self (by omega)]
      exact hx
    · rw [if_neg him, List.getD_eq_getElem?_getD, List.getElem?_set_ne him, ← List.getD_eq_getElem?_getD]
      exact ha _ _ _ _ k (h4 m hm)

/-
  Slices of rows appended to rows of the call's own. No Go text in sight.
-/
theorem flat_get {α : Type} : ∀ (rows : List (List α)) (sz i j : Nat), (∀ r ∈ rows, r.length = sz) → i < rows.length → j < sz → rows.flatten[i * sz + j]? = (rows.getD i [])[j]?
  | [], sz, i, j, _, hi, _ => by simp at hi
  | r :: rows, sz, 0, j, h, hi, hj => by
    have hr := h r (by simp)
    simp only [List.flatten_cons, Nat.zero_mul, Nat.zero_add, List.getD_cons_zero]
    rw [List.getElem?_append_left (by omega)]
  | r :: rows, sz, i + 1, j, h, hi, hj => by
    have hr := h r (by simp)
    have ih := flat_get rows sz i j (fun x hx => h x (by simp [hx])) (by simpa using hi) hj
    simp only [List.flatten_cons, List.getD_cons_succ]
    rw [List.getElem?_append_right (by rw [hr, Nat.add_mul]; omega), hr, show (i + 1) * sz + j - sz = i * sz + j by rw [Nat.add_mul]; omega, ih]
theorem flat_len {α : Type} (rows : List (List α)) (sz : Nat) (h : ∀ r ∈ rows, r.length = sz) : rows.flatten.length = rows.length * sz := by
  induction rows with
  | nil => simp
  | cons r rows ih =>
    rw [List.flatten_cons, List.length_append, ih (fun x hx => h x (by simp [hx])), h r (by simp), List.length_cons, Nat.add_mul]
    omega
/-- append of a slice of rows onto a row of the call's own -/
theorem wp_append_rows {P : Program} {w : World} {o : Oper} {a : Act} {K : Act → World → Prop} {Q : Exit → Act → World → Prop} (s x : Operand) (t : TypeId)
    (ho : o.op = .call { callee := .builtin .append, args := #[s, x], argTypes := #[t, t] })
    (base : Nat) (e : TypeId) (i : TypeInfo) (z : Value) (sz bytes : Nat) (ht : P.underlying t = some (.slice e)) (hi : P.info? e = some i) (hz : i.zero = some z) (hsize : i.size = sz) (hby : i.bytes = bytes) (hzs : z.cells.size = sz) (hsz : 0 < sz)
    (v : Value) (n : Nat) (cs : List Value) (hs : a.eval s = v) (hown : w.ownsRow base e sz v n cs)
    (vx : Value) (rows : List (List Value)) (hx : a.eval x = vx) (hr : SlC sz w vx rows) (h1 : ∀ r ∈ rows, ∀ u ∈ r, u.oneCell' = true)
    (h63 : n + rows.length ≤ maxLen) (hbytes : (n + rows.length) * bytes ≤ 140737488355328) (hbase : base ≤ w.heap.size)
    (h : ∀ v' w', w'.ownsRow base e sz v' (n + rows.length) (cs ++ rows.flatten) → w.grownBy w' v.ownBlock → K (a.put o.dst v') w') : o.wp P a w K Q := by
  rcases hr with ⟨ao, cap, rfl, hn, rfl⟩ | ⟨b, off, cap, rfl, h0, hc1, hc2, hc⟩
  · cases ao with
    | none =>
      obtain rfl := hn rfl
      have hrun := run_append_owned_none (P := P) (w := w) base t o.type e i sz ht hi v n cs hown
      unfold Oper.wp
      simp [execOp, ho, resolve, invoke, builtin, hs, hx, hrun, Result.andThen]
      exact h v w (by simpa using hown) ⟨rfl, rfl, rfl, Nat.le_refl _, fun _ _ _ => rfl⟩
    | some ad =>
      refine wp_append_own w s x t ho base e i z sz bytes ht hi hz hsize hby hzs hsz v n _ hs hown ad 0 cap [] hx (by simp) (by simp) (by simp) (by simpa using h63) (by simpa using hbytes) hbase ?_
      intro v' w' h2 h3 _
      exact h v' w' (by simpa using h2) h3
  · have hlen : ∀ r ∈ rows, r.length = sz := by
      intro r hr
      obtain ⟨k, hk, rfl⟩ := List.getElem_of_mem hr
      have := (hc k hk).1
      rwa [List.getD_eq_getElem?_getD, List.getElem?_eq_getElem hk] at this
    refine wp_append_own w s x t ho base e i z sz bytes ht hi hz hsize hby hzs hsz v n _ hs hown ⟨b, off, none⟩ rows.length cap rows.flatten hx (flat_len rows sz hlen) ?_ (fun u hu => ?_) h63 hbytes hbase ?_
    · intro j u hj
      have hjl : j < rows.length * sz := by
        rw [← flat_len rows sz hlen]
        rcases Nat.lt_or_ge j rows.flatten.length with g | g
        · exact g
        · rw [List.getElem?_eq_none g] at hj; cases hj
      have hdm := Nat.div_add_mod j sz
      have hq : j / sz < rows.length := (Nat.div_lt_iff_lt_mul hsz).2 hjl
      have hm := Nat.mod_lt j hsz
      have e1 := flat_get rows sz (j / sz) (j % sz) hlen hq hm
      have e2 : j / sz * sz + j % sz = j := by rw [Nat.mul_comm]; exact hdm
      rw [e2, hj] at e1
      have e3 := (hc (j / sz) hq).2 (j % sz) hm
      rw [← e1, Nat.add_assoc, e2] at e3
      by_cases hz : j = 0
      · subst hz; simpa [Addr.add] using e3
      · simpa [Addr.add, hz] using e3
    · rw [List.mem_flatten] at hu
      obtain ⟨r, hr, hu⟩ := hu
      exact h1 r hr u hu
    · intro v' w' h2 h3 _
      exact h v' w' h2 h3
theorem wpList_append_rows {P : Program} {w : World} {ops : Array Oper} {rest : List Oper} {o : Oper} {a : Act} {Q : Exit → Act → World → Prop} (hgd : o.guard = none) (s x : Operand) (t : TypeId)
    (ho : o.op = .call { callee := .builtin .append, args := #[s, x], argTypes := #[t, t] })
    (base : Nat) (e : TypeId) (i : TypeInfo) (z : Value) (sz bytes : Nat) (ht : P.underlying t = some (.slice e)) (hi : P.info? e = some i) (hz : i.zero = some z) (hsize : i.size = sz) (hby : i.bytes = bytes) (hzs : z.cells.size = sz) (hsz : 0 < sz)
    (v : Value) (n : Nat) (cs : List Value) (hs : a.eval s = v) (hown : w.ownsRow base e sz v n cs)
    (vx : Value) (rows : List (List Value)) (hx : a.eval x = vx) (hr : SlC sz w vx rows) (h1 : ∀ r ∈ rows, ∀ u ∈ r, u.oneCell' = true)
    (h63 : n + rows.length ≤ maxLen) (hbytes : (n + rows.length) * bytes ≤ 140737488355328) (hbase : base ≤ w.heap.size)
    (h : ∀ v' w', w'.ownsRow base e sz v' (n + rows.length) (cs ++ rows.flatten) → w.grownBy w' v.ownBlock → wpList P ops Q rest (a.put o.dst v') w') : wpList P ops Q (o :: rest) a w :=
  wpList_plain hgd fun _ hK => wp_append_rows s x t ho base e i z sz bytes ht hi hz hsize hby hzs hsz v n cs hs hown vx rows hx hr h1 h63 hbytes hbase fun v' w' h2 h3 => hK _ _ (h v' w' h2 h3)
/-- the same as one step of a region that draws its order -/
theorem step_append_rows {P : Program} {ops : Array Oper} {w : World} {o : Oper} {a : Act} {K : Act → World → Prop} {Q : Exit → Act → World → Prop} {E : Prop} (hgd : o.guard = none) (s x : Operand) (t : TypeId)
    (ho : o.op = .call { callee := .builtin .append, args := #[s, x], argTypes := #[t, t] })
    (base : Nat) (e : TypeId) (i : TypeInfo) (z : Value) (sz bytes : Nat) (ht : P.underlying t = some (.slice e)) (hi : P.info? e = some i) (hz : i.zero = some z) (hsize : i.size = sz) (hby : i.bytes = bytes) (hzs : z.cells.size = sz) (hsz : 0 < sz)
    (v : Value) (n : Nat) (cs : List Value) (hs : a.eval s = v) (hown : w.ownsRow base e sz v n cs)
    (vx : Value) (rows : List (List Value)) (hx : a.eval x = vx) (hr : SlC sz w vx rows) (h1 : ∀ r ∈ rows, ∀ u ∈ r, u.oneCell' = true)
    (h63 : n + rows.length ≤ maxLen) (hbytes : (n + rows.length) * bytes ≤ 140737488355328) (hbase : base ≤ w.heap.size)
    (h : ∀ v' w', w'.ownsRow base e sz v' (n + rows.length) (cs ++ rows.flatten) → w.grownBy w' v.ownBlock → K (a.put o.dst v') w') :
    if Region.wanted o (yielded ops a.tmps) = true then Oper.wp P o a w K Q else E := by
  rw [if_pos (by simp [Region.wanted, hgd])]
  exact wp_append_rows s x t ho base e i z sz bytes ht hi hz hsize hby hzs hsz v n cs hs hown vx rows hx hr h1 h63 hbytes hbase h
/-- one row that was laid, as a slice of rows -/
theorem slc_one (w : World) (row : List Value) (T : TypeId) (sz : Nat) (h : row.length = sz) : SlC sz (w.alloc (.cells row.toArray T)) (.slice (some ⟨w.heap.size, 0, none⟩) 1 1) [row] := by
  refine Or.inr ⟨w.heap.size, 0, 1, rfl, by simp, by simp, by decide, fun i hi => ?_⟩
  have : i = 0 := by simp at hi; omega
  subst this
  refine ⟨by simpa using h, fun j hj => ?_⟩
  rw [World.cell?_alloc_new]
  simp

/-
  A row's cells by their places. No Go text in sight.
-/
/-- a row's cells by their places -/
theorem slr_idxN {α : Type} {P : Program} {R : World → List Value → α → Prop} {w : World} {v : Value} {xs : List α} {sz : Nat} (h : SlR sz R w v xs) {t : TypeId} (ht : P.underlying t = some (.slice (P.elem t))) (hs : ∀ w, (sizeOf (P.elem t)).run P w = .ok sz w) (i : Nat) (h1 : i < xs.length) :
    ∃ (b o : Nat) (cs : List Value), (∀ w', (Instr.indexAt t v (.int .i64 (i : Int))).run P w' = .ok (.pointer (some ⟨b, o, none⟩)) w') ∧ cs.length = sz ∧ (∀ j, j < sz → w.cell? ⟨b, o + j, none⟩ = cs[j]?) ∧ R w cs xs[i] := by
  obtain ⟨rows, g1, g2, g3⟩ := h
  obtain ⟨ao, cap, rfl, hc, hn, hx⟩ := g1.form
  obtain ⟨hm, b, off, rfl, hcell⟩ := hx (by omega)
  obtain ⟨l1, l2⟩ := hcell i (by omega)
  refine ⟨b, off + i * sz, rows.getD i [], fun w' => ?_, l1, fun j hj => l2 j hj, g3 i h1⟩
  rw [run_indexAt_slice (h := ht), if_pos ⟨by omega, by omega⟩, hs]
  simp only [Result.andThen, Int.toNat_natCast]
  congr 3
  unfold Addr.add
  split
  · rename_i hz; rw [hz]; rfl
  · rfl

/-
  Small things about rows and blocks that several layers lean on. No Go text in sight.
-/
theorem rd_slice {k : IntKind} {w : World} {v : Value} {xs : List Int} (h : Rd k w v xs) : ∃ ao cap, v = .slice ao xs.length cap := by
  obtain ⟨ao, cap, rfl, _⟩ := rd_form h
  exact ⟨ao, cap, rfl⟩
theorem slr_slice {α : Type} {R : World → List Value → α → Prop} {sz : Nat} {w : World} {v : Value} {xs : List α} (h : SlR sz R w v xs) : ∃ ao cap, v = .slice ao xs.length cap := by
  obtain ⟨rows, h1, h2, _⟩ := h
  obtain ⟨ao, cap, rfl, _⟩ := h1.form
  exact ⟨ao, cap, by rw [h2]⟩
theorem set_kept {w : World} {b : Nat} {cs : Array Value} {T : TypeId} (h : Stands w b cs T) (j : Nat) (u : Value) : Kept T w (w.setCell ⟨b, j, none⟩ u) := by
  refine Kept.stands h ⟨rfl, rfl, rfl, by simp, fun k hk hne => ?_⟩
  exact Below.heap_setCell _ _ _ k (fun e => hne (by rw [e]))
theorem set5 {w : World} {b : Nat} {z0 z1 z2 z3 z4 : Value} {T : TypeId} (h : Stands w b #[z0, z1, z2, z3, z4] T) (a0 a1 a2 a3 a4 : Value) :
    Stands (((((w.setCell ⟨b, 0, none⟩ a0).setCell ⟨b, 1, none⟩ a1).setCell ⟨b, 2, none⟩ a2).setCell ⟨b, 3, none⟩ a3).setCell ⟨b, 4, none⟩ a4) b #[a0, a1, a2, a3, a4] T ∧
    (∀ {base : Nat} {e : TypeId} {sz : Nat} {v : Value} {n : Nat} {xs : List Value}, ¬ e = T → w.ownsRow base e sz v n xs → (((((w.setCell ⟨b, 0, none⟩ a0).setCell ⟨b, 1, none⟩ a1).setCell ⟨b, 2, none⟩ a2).setCell ⟨b, 3, none⟩ a3).setCell ⟨b, 4, none⟩ a4).ownsRow base e sz v n xs) := by
  have h0 := h.set 0 a0
  have h1 := h0.set 1 a1
  have h2 := h1.set 2 a2
  have h3 := h2.set 3 a3
  have h4 := h3.set 4 a4
  exact ⟨h4, fun hne o => own_kept (set_kept h3 4 a4) hne (own_kept (set_kept h2 3 a3) hne (own_kept (set_kept h1 2 a2) hne (own_kept (set_kept h0 1 a1) hne (own_kept (set_kept h 0 a0) hne o))))⟩
theorem own_some {w : World} {base : Nat} {e : TypeId} {sz : Nat} {v : Value} {n : Nat} {cs : List Value} (o : w.ownsRow base e sz v n cs) (h : 0 < n) : ∃ g cap, v = .slice (some ⟨g, 0, none⟩) n cap := by
  rcases o.2 with ⟨_, h0⟩ | ⟨g, cap, cur, hv, _⟩
  · omega
  · exact ⟨g, cap, hv⟩
theorem own_cell {w : World} {base : Nat} {e : TypeId} {sz g n cap : Nat} {cs : List Value} (o : w.ownsRow base e sz (.slice (some ⟨g, 0, none⟩) n cap) n cs) (j : Nat) (u : Value) (h : cs[j]? = some u) : w.cell? ⟨g, j, none⟩ = some u := by
  have h1 := o.cells (g := g) rfl j u h
  have e1 : (⟨g, 0, none⟩ : Addr).add j = ⟨g, j, none⟩ := by
    unfold Addr.add
    split
    · rename_i hz; rw [hz]
    · simp
  rwa [e1] at h1
theorem two_boxes (w : World) (a b : Array Value) (T : TypeId) : Stands ((w.alloc (.cells a T)).alloc (.cells b T)) w.heap.size a T ∧ Stands ((w.alloc (.cells a T)).alloc (.cells b T)) (w.heap.size + 1) b T ∧ Below w.heap.size w ((w.alloc (.cells a T)).alloc (.cells b T)) := by
  refine ⟨(stands_new w a T).below (box_below _ _), ?_, below_trans (box_below w _) (box_below _ _)⟩
  have := stands_new (w.alloc (.cells a T)) b T
  rwa [size_al] at this
theorem grown_below {w w' : World} {r : Option Nat} (g : w.grownBy w' r) {e : TypeId} {sz base : Nat} {v : Value} {n : Nat} {cs : List Value} (o : w.ownsRow base e sz v n cs) (hne : ∀ k, v.ownBlock = some k → r ≠ some k) : w'.ownsRow base e sz v n cs := by
  obtain ⟨hl, o⟩ := o
  refine ⟨hl, ?_⟩
  rcases o with h | ⟨b, cap, cur, rfl, h1, h2, h3⟩
  · exact Or.inl h
  · refine Or.inr ⟨b, cap, cur, rfl, h1, ?_, h3⟩
    rw [g.block b (Array.getElem?_eq_some_iff.1 h2).1 (fun e => hne b rfl e.symm)]
    exact h2
theorem gb_refl (w : World) (r : Option Nat) : w.grownBy w r := ⟨rfl, rfl, rfl, Nat.le_refl _, fun _ _ _ => rfl⟩
theorem gb_below {a b c : World} {r : Option Nat} (h : a.grownBy b r) (g : Below b.heap.size b c) : a.grownBy c r :=
  ⟨g.os.trans h.os, g.tape.trans h.tape, g.output.trans h.output, Nat.le_trans h.size g.size, fun k hk hne => (g.block k (Nat.lt_of_lt_of_le hk h.size)).trans (h.block k hk hne)⟩
theorem gb_set {a b : World} {g : Nat} (h : a.grownBy b (some g)) (j : Nat) (u : Value) : a.grownBy (b.setCell ⟨g, j, none⟩ u) (some g) :=
  ⟨h.os, h.tape, h.output, by simpa [World.setCell] using h.size, fun k hk hne => (Below.heap_setCell _ _ _ k (fun e => hne (by rw [e]))).trans (h.block k hk hne)⟩
theorem gb_new {a b : World} {r : Option Nat} {g : Nat} (h : a.grownBy b r) (hg : a.heap.size ≤ g) (j : Nat) (u : Value) : a.grownBy (b.setCell ⟨g, j, none⟩ u) r :=
  ⟨h.os, h.tape, h.output, by simpa [World.setCell] using h.size, fun k hk hne => (Below.heap_setCell _ _ _ k (fun e => by have e2 : k = g := e; omega)).trans (h.block k hk hne)⟩
theorem slr_tail {α : Type} {P : Program} {R : World → List Value → α → Prop} {w : World} {v : Value} {xs : List α} {sz : Nat} (h : SlR sz R w v xs) {t : TypeId} (ht : P.underlying t = some (.slice (P.elem t))) (hs : ∀ w, (sizeOf (P.elem t)).run P w = .ok sz w) (n : Nat) (hn : n ≤ xs.length) :
    ∃ v', (∀ w', (Instr.slice t v (some (.int .i64 (n : Int))) none none).run P w' = .ok v' w') ∧ SlR sz R w v' (xs.drop n) := by
  obtain ⟨rows, h1, h2, h3⟩ := h
  obtain ⟨ao, cap, rfl, hc, hno, hx⟩ := h1.form
  refine ⟨sliced ao n rows.length cap sz, fun w' => ?_, rows.drop n, ?_, by simp [h2], fun i hi => ?_⟩
  · rw [run_slice_l w' t ao rows.length cap ht .i64 (n : Int) (by omega) (by omega), hs]
    simp [Result.andThen]
  · rcases Nat.eq_zero_or_pos (rows.length - n) with h0 | h0
    · refine Or.inl ⟨if cap = n then ao else ao.map (·.add (n * sz)), cap - n, by rw [sliced, h0], ?_, ?_⟩
      · intro he
        by_cases hcl : cap = n
        · omega
        · rw [if_neg hcl] at he
          cases ao with
          | none => have := hno rfl; omega
          | some a => cases he
      · apply List.eq_nil_of_length_eq_zero
        rw [List.length_drop]
        exact h0
    · obtain ⟨hm, b, off, rfl, hcell⟩ := hx (by omega)
      have hl : (rows.drop n).length = rows.length - n := by simp
      refine Or.inr ⟨b, off + n * sz, cap - n, ?_, by omega, by omega, by omega, fun i hi => ?_⟩
      · rw [sliced, hl, if_neg (by omega)]
        simp [Addr.add]
      · rw [hl] at hi
        have e : (rows.drop n).getD i [] = rows.getD (n + i) [] := by
          rw [List.getD_eq_getElem?_getD, List.getD_eq_getElem?_getD, List.getElem?_drop]
        rw [e]
        have := hcell (n + i) (by omega)
        rw [show off + n * sz + i * sz = off + (n + i) * sz by rw [Nat.add_mul]; omega]
        exact this
  · have hi2 : n + i < xs.length := by simp at hi; omega
    have e : (rows.drop n).getD i [] = rows.getD (n + i) [] := by
      rw [List.getD_eq_getElem?_getD, List.getD_eq_getElem?_getD, List.getElem?_drop]
    rw [e, List.getElem_drop]
    exact h3 (n + i) hi2
theorem own_belowN {w w' : World} {base : Nat} {e : TypeId} {sz : Nat} {v : Value} {n : Nat} {cs : List Value} (o : w.ownsRow base e sz v n cs) (g : Below w.heap.size w w') : w'.ownsRow base e sz v n cs := by
  obtain ⟨hl, h3⟩ := o
  refine ⟨hl, ?_⟩
  rcases h3 with h | ⟨b, cap, cur, rfl, hb, hg, hc⟩
  · exact Or.inl h
  · refine Or.inr ⟨b, cap, cur, rfl, hb, ?_, hc⟩
    rw [g.block b (Array.getElem?_eq_some_iff.1 hg).1]
    exact hg
theorem slr_first {α : Type} {P : Program} {R : World → List Value → α → Prop} {w : World} {v : Value} {xs : List α} {sz : Nat} (h : SlR sz R w v xs) {t : TypeId} (ht : P.underlying t = some (.slice (P.elem t))) (hs : ∀ w, (sizeOf (P.elem t)).run P w = .ok sz w) (n : Nat) (hn : n ≤ xs.length) :
    ∃ v', (∀ w', (Instr.slice t v none (some (.int .i64 (n : Int))) none).run P w' = .ok v' w') ∧ SlR sz R w v' (xs.take n) := by
  obtain ⟨rows, h1, h2, h3⟩ := h
  obtain ⟨ao, cap, rfl, hc, hno, hx⟩ := h1.form
  refine ⟨sliced ao 0 n cap sz, fun w' => ?_, rows.take n, ?_, by simp [h2], fun i hi => ?_⟩
  · rw [run_slice_h w' t ao rows.length cap ht .i64 (n : Int) (by omega) (by omega), hs]
    simp [Result.andThen]
  · rcases Nat.eq_zero_or_pos n with h0 | h0
    · subst h0
      refine Or.inl ⟨if cap = 0 then ao else ao.map (·.add (0 * sz)), cap, by simp [sliced], ?_, by simp⟩
      intro he
      by_cases hc0 : cap = 0
      · exact hc0
      · rw [if_neg hc0] at he
        cases ao with
        | none => exact hno rfl
        | some a => cases he
    · obtain ⟨hm, b, off, rfl, hcell⟩ := hx (by omega)
      have hl : (rows.take n).length = n := by simp; omega
      refine Or.inr ⟨b, off, cap, ?_, by omega, by omega, hm, fun i hi => ?_⟩
      · rw [sliced, hl, if_neg (by omega)]
        simp [Addr.add]
      · rw [hl] at hi
        have e : (rows.take n).getD i [] = rows.getD i [] := by
          rw [List.getD_eq_getElem?_getD, List.getD_eq_getElem?_getD, List.getElem?_take, if_pos hi]
        rw [e]
        exact hcell i (by omega)
  · have hi2 : i < n := by simp at hi; omega
    have e : (rows.take n).getD i [] = rows.getD i [] := by
      rw [List.getD_eq_getElem?_getD, List.getD_eq_getElem?_getD, List.getElem?_take, if_pos hi2]
    rw [e, List.getElem_take]
    exact h3 i (by simp at hi; omega)
theorem res_row2 {P : Program} {fn : Func} {p a : Tmp} {ty : TypeId} (h : fn.results = #[.cell p ty, .tmp a]) (tmps : Array Value) (w : World) (g : Nat) (t : TypeId) (cs : Array Value) (fr : Nat × Nat) (d : TypeDesc)
    (hp : tmps.getD p undef = .pointer (some ⟨g, 0, none⟩)) (hg : w.heap[g]? = some (.cells cs t fr))
    (hu : P.underlying ty = some d) (hd : (match d with | .struct _ | .array _ _ => true | _ => false) = true) (hi : (P.info? ty).map (·.size) = some cs.size) :
    (results fn tmps).run P w = .ok (.tuple #[.agg cs, tmps.getD a undef]) w := by
  have hp' : tmps[p]?.getD undef = .pointer (some ⟨g, 0, none⟩) := by simpa using hp
  simp [results, h, hp', asAddr, run_loadVar_row w g t ty cs fr d hg hu hd hi]
theorem res_row3 {P : Program} {fn : Func} {p a b : Tmp} {ty : TypeId} (h : fn.results = #[.cell p ty, .tmp a, .tmp b]) (tmps : Array Value) (w : World) (g : Nat) (t : TypeId) (cs : Array Value) (fr : Nat × Nat) (d : TypeDesc)
    (hp : tmps.getD p undef = .pointer (some ⟨g, 0, none⟩)) (hg : w.heap[g]? = some (.cells cs t fr))
    (hu : P.underlying ty = some d) (hd : (match d with | .struct _ | .array _ _ => true | _ => false) = true) (hi : (P.info? ty).map (·.size) = some cs.size) :
    (results fn tmps).run P w = .ok (.tuple #[.agg cs, tmps.getD a undef, tmps.getD b undef]) w := by
  have hp' : tmps[p]?.getD undef = .pointer (some ⟨g, 0, none⟩) := by simpa using hp
  simp [results, h, hp', asAddr, run_loadVar_row w g t ty cs fr d hg hu hd hi]
theorem set5q {w : World} {b : Nat} {z0 z1 z2 z3 z4 : Value} {T : TypeId} (h : Stands w b #[z0, z1, z2, z3, z4] T) (a0 a1 a2 a3 a4 : Value) :
    Stands (((((w.setCell ⟨b, 0, none⟩ a0).setCell ⟨b, 1, none⟩ a1).setCell ⟨b, 2, none⟩ a2).setCell ⟨b, 3, none⟩ a3).setCell ⟨b, 4, none⟩ a4) b #[a0, a1, a2, a3, a4] T ∧ ∀ Q : World → Prop, (∀ u u', Kept T u u' → Q u → Q u') → Q w → Q (((((w.setCell ⟨b, 0, none⟩ a0).setCell ⟨b, 1, none⟩ a1).setCell ⟨b, 2, none⟩ a2).setCell ⟨b, 3, none⟩ a3).setCell ⟨b, 4, none⟩ a4) := by
  have h0 := h.set 0 a0
  have h1 := h0.set 1 a1
  have h2 := h1.set 2 a2
  have h3 := h2.set 3 a3
  have h4 := h3.set 4 a4
  exact ⟨by simpa only [List.setIfInBounds_toArray, List.set_cons_zero, List.set_cons_succ] using h4, fun Q hQ q => hQ _ _ (set_kept h3 4 a4) (hQ _ _ (set_kept h2 3 a3) (hQ _ _ (set_kept h1 2 a2) (hQ _ _ (set_kept h0 1 a1) (hQ _ _ (set_kept h 0 a0) q))))⟩

/-
  Parse of the document's answer for layer 21.
-/
theorem un_snoc : ∀ (n : Nat) (b : List Int), unF b (n + 1) = unF b n ++ [beV ((b.drop (4 * n)).take 4)]
  | 0, b => by simp [unF]
  | n + 1, b => by
    show beV (b.take 4) :: unF (b.drop 4) (n + 1) = beV (b.take 4) :: unF (b.drop 4) n ++ _
    rw [un_snoc n, List.drop_drop, show 4 + 4 * n = 4 * (n + 1) by omega]
    rfl
theorem set_next (A : List Int) (n m : Nat) (x : Int) (h : A.length = n) : (A ++ List.replicate (m + 1) 0).set n x = (A ++ [x]) ++ List.replicate m 0 := by
  subst h
  rw [List.set_append_right _ _ (Nat.le_refl _), Nat.sub_self, List.replicate_succ, List.set_cons_zero, List.append_assoc, List.singleton_append]
theorem zeroL : (∀ w, (zeroValue 25).run Try.prog w = .ok (.agg (ArA .u32 (List.replicate 16 0))) w) ∧ (Try.prog.info? 25).map (·.size) = some 16 := zero_of_info (by kernel_rfl)

set_option maxHeartbeats 4000000 in
set_option maxRecDepth 100000 in
theorem w_rparse21 (v : Value) (b : List Int) (w : World) (h : Rd .u8 w v b) (hb : bytesL b) (hz : b.length ≤ 140737488351232) :
    Calls Try.prog 14 #[v] w fun e w' => e = .returned (.tuple #[.agg (ArA .u32 (psF b).1), .int .i64 (psF b).2]) ∧ Below w.heap.size w w' := by
  have hlen := rd_len h uB (P := Try.prog)
  have z := zeroL.1
  obtain ⟨Z, hZ⟩ : ∃ Z, ArA .u32 (List.replicate 16 0) = Z := ⟨_, rfl⟩
  rw [hZ] at z
  have zs : Z.size = 16 := by rw [← hZ, ara_size, List.length_replicate]
  have zo : Z.all (·.oneCell') = true := by rw [← hZ]; exact ara_one _ _
  have HZ := hid hZ
  have HS := hid (show (Try.prog.info? 25).map (·.size) = some Z.size by rw [zs]; exact szL)
  clear hZ
  by_cases hl : b.length = 512
  · have hq : ((b.length : Int) != 512) = false := by rw [show (b.length : Int) = 512 by omega]; rfl
    go_enter Try.func14, Try.ntmps14
    go_upto_region 2 with fail
    have s0 := (stands_new w Z 25).below (box_below _ (.cells Z 25))
    have s1 := stands_new (w.alloc (.cells Z 25)) Z 25
    rw [size_al] at s1
    have b1 := below_trans (box_below w (.cells Z 25)) (box_below _ (.cells Z 25))
    generalize (w.alloc (.cells Z 25)).alloc (.cells Z 25) = W1 at s0 s1 b1 ⊢
    go_wp2_with fail
    go_loopw [5] (fun I wx => ∃ i : Nat, i ≤ 8 ∧ I = .int .i64 i ∧ Stands wx w.heap.size Z 25 ∧ Stands wx (w.heap.size + 1) (ArA .u32 (unF b (2 * i) ++ List.replicate (16 - 2 * i) 0)) 25 ∧ Below w.heap.size w wx) (fun I _ => (8 - intOf I).toNat)
    case atStart => exact ⟨0, by omega, rfl, s0, by rw [← HZ.out] at s1; exact s1, b1⟩
    case round =>
      obtain ⟨i, hi8, rfl, hs0, hs1, hg⟩ := hrel
      clear s0 s1 b1
      by_cases hlt : (i : Int) < 8
      · have ix : ∀ w', (Instr.indexAt 25 (.pointer (some ⟨w.heap.size + 1, 0, none⟩)) (.int .i64 (i : Int))).run Try.prog w' = .ok (.pointer (some ⟨w.heap.size + 1, 2 * i, none⟩)) w' := fun w' => pt_ix (w.heap.size + 1) i .i64 (i : Int) rfl (by omega) w'
        have hLl : (unF b (2 * i) ++ List.replicate (16 - 2 * i) (0 : Int)).length = 16 := by rw [List.length_append, un_len, List.length_replicate]; omega
        obtain ⟨va, ra, -, -, sa⟩ := rd_cutI h uB zB (8 * (i : Int)) b.length (by omega) (by omega) (by omega)
        have sa := sa rfl
        obtain ⟨vc, rc, -, -, sc⟩ := rd_cutI h uB zB (8 * (i : Int) + 4) b.length (by omega) (by omega) (by omega)
        have sc := sc rfl
        have hwa : IntKind.i64.wrap (8 * (i : Int)) = 8 * (i : Int) := by rw [IntKind.wrap_i64]; omega
        have hwc : IntKind.i64.wrap (8 * (i : Int) + 4) = 8 * (i : Int) + 4 := by rw [IntKind.wrap_i64]; omega
        have ca := fun W hb' => w_rdecint va _ w W ra hb' (bytes_take (bytes_drop hb _) _) (by simp; omega)
        have cc := fun W hb' => w_rdecint vc _ w W rc hb' (bytes_take (bytes_drop hb _) _) (by simp; omega)
        have ea : deIF ((b.drop (8 * (i : Int)).toNat).take ((b.length : Int) - 8 * (i : Int)).toNat) = (beV ((b.drop (4 * (2 * i))).take 4), ((b.drop (8 * (i : Int)).toNat).take ((b.length : Int) - 8 * (i : Int)).toNat).drop 4, 0) := by
          unfold deIF
          rw [if_neg (by simp; omega)]
          congr 1
          rw [List.take_take, show min 4 ((b.length : Int) - 8 * (i : Int)).toNat = 4 by omega, show (8 * (i : Int)).toNat = 4 * (2 * i) by omega]
        have ec : deIF ((b.drop (8 * (i : Int) + 4).toNat).take ((b.length : Int) - (8 * (i : Int) + 4)).toNat) = (beV ((b.drop (4 * (2 * i + 1))).take 4), ((b.drop (8 * (i : Int) + 4).toNat).take ((b.length : Int) - (8 * (i : Int) + 4)).toNat).drop 4, 0) := by
          unfold deIF
          rw [if_neg (by simp; omega)]
          congr 1
          rw [List.take_take, show min 4 ((b.length : Int) - (8 * (i : Int) + 4)).toNat = 4 by omega, show (8 * (i : Int) + 4).toNat = 4 * (2 * i + 1) by omega]
        rw [ea] at ca
        rw [ec] at cc
        simp only at ca cc
        have hn1 := un_snoc (2 * i) b
        have hn2 := un_snoc (2 * i + 1) b
        have hl1 := un_len (2 * i) b
        have hl2 := un_len (2 * i + 1) b
        obtain ⟨P, hP⟩ : ∃ P, beV ((b.drop (4 * (2 * i))).take 4) = P := ⟨_, rfl⟩
        obtain ⟨Q, hQ⟩ : ∃ Q, beV ((b.drop (4 * (2 * i + 1))).take 4) = Q := ⟨_, rfl⟩
        rw [hP] at ca hn1
        rw [hQ] at cc hn2
        have hset : Hid (((unF b (2 * i) ++ List.replicate (16 - 2 * i) (0 : Int)).set (2 * i) P).set (2 * i + 1) Q = unF b (2 * (i + 1)) ++ List.replicate (16 - 2 * (i + 1)) 0) := by
          show _ = _
          rw [show 16 - 2 * i = (16 - 2 * i - 1) + 1 by omega, set_next _ _ _ _ hl1, ← hn1, show 16 - 2 * i - 1 = (16 - 2 * (i + 1)) + 1 by omega, set_next _ _ _ _ hl2, ← hn2, show 2 * (i + 1) = 2 * i + 1 + 1 by omega]
        obtain ⟨L, hL⟩ : ∃ L, unF b (2 * i) ++ List.replicate (16 - 2 * i) (0 : Int) = L := ⟨_, rfl⟩
        rw [hL] at hs1 hLl hset
        have HL := hid hLl
        have f0 : ∀ W, Stands W (w.heap.size + 1) (ArA .u32 L) 25 → ∃ u, W.cell? ⟨w.heap.size + 1, 2 * i, none⟩ = some u := fun W hh => ⟨_, hh.cell (2 * i) _ (ara_at _ (by omega))⟩
        have f1 : ∀ W, Stands W (w.heap.size + 1) (ArA .u32 (L.set (2 * i) P)) 25 → ∃ u, W.cell? ⟨w.heap.size + 1, 2 * i + 1, none⟩ = some u := fun W hh => ⟨_, hh.cell (2 * i + 1) _ (ara_at _ (by rw [List.length_set]; omega))⟩
        have CA := hid ca
        have CC := hid cc
        clear ea ec hn1 hn2 hl1 hl2 hP hQ hL hLl ca cc
        go_upto_region 8 with (go_at_call 29; refine (CA.out _ hg).mono ?_; rintro e w1 ⟨v1, rfl, -, b1⟩; have g1 := below_trans hg b1; have t0 := hs0.below b1; have t1 := hs1.below b1; obtain ⟨x0, y0⟩ := f0 w1 t1; have z0 := t1.free (2 * i))
        have q0 := t0.other (b' := w.heap.size + 1) (2 * i) (.int .u32 P) (by omega)
        have q1 := t1.set (2 * i) (.int .u32 P)
        rw [ara_set] at q1
        have qb := below_set g1 (w.heap.size + 1) (2 * i) (.int .u32 P) (by omega)
        generalize w1.setCell ⟨w.heap.size + 1, 2 * i, none⟩ (.int .u32 P) = w2 at q0 q1 qb ⊢
        clear t0 t1 y0 z0 x0 hs0 hs1
        go_wp2_with (go_at_call 29; refine (CC.out _ qb).mono ?_; rintro e w3 ⟨v3, rfl, -, b3⟩; have g3 := below_trans qb b3; have t0 := q0.below b3; have t1 := q1.below b3; obtain ⟨x0, y0⟩ := f1 w3 t1; have z0 := t1.free (2 * i + 1))
        have r0 := t0.other (b' := w.heap.size + 1) (2 * i + 1) (.int .u32 Q) (by omega)
        have r1 := t1.set (2 * i + 1) (.int .u32 Q)
        rw [ara_set, hset.out] at r1
        have rb := below_set g3 (w.heap.size + 1) (2 * i + 1) (.int .u32 Q) (by omega)
        go_roundw
        case rel => exact ⟨i + 1, by omega, by go_num, r0, r1, rb⟩
        case measure => simp [intOf]; omega
      · have hi8 : i = 8 := by omega
        subst hi8
        have hU : unF b (2 * 8) ++ List.replicate (16 - 2 * 8) (0 : Int) = unF b 16 := by
          rw [show 16 - 2 * 8 = 0 by omega, List.replicate_zero, List.append_nil]
        rw [hU] at hs1
        have hUl := un_len 16 b
        have hUu := un_u32 16 b hb (by omega)
        have hps : Hid (psF b = if lbF (unF b 16) = b then (unF b 16, 0) else (List.replicate 16 0, 24)) := by
          show _ = _
          unfold psF
          by_cases hx : lbF (unF b 16) = b
          · rw [if_pos ⟨hl, hx⟩, if_pos hx]
          · rw [if_neg (fun y => hx y.2), if_neg hx]
        obtain ⟨U, hUe⟩ : ∃ U, unF b 16 = U := ⟨_, rfl⟩
        rw [hUe] at hs1 hUl hUu hps
        have cb := fun W => w_rbytes21 U W hUl hUu
        have hFb := lbF_bytes hUl hUu
        obtain ⟨F, hF⟩ : ∃ F, lbF U = F := ⟨_, rfl⟩
        simp only [hF] at cb hFb
        rw [hF] at hps
        have hne := nums_eq F b hFb hb
        have hsb := str_beq (strOfNums F) (strOfNums b)
        have HU := hid hUl
        have hFl : F.length = 512 := by rw [← hF]; exact lbF_len hUl
        have CV := hid (fun (W : World) (g : Below w.heap.size w W) => rd_str (P := Try.prog) (h.below g) (src := 27) (dst := 9) Try.underlying27 Try.underlying5 Try.underlying9)
        have CF := hid (fun (W : World) (vv : Value) (g : Rd .u8 W vv F) => rd_str (P := Try.prog) g (src := 27) (dst := 9) Try.underlying27 Try.underlying5 Try.underlying9)
        have CB := hid cb
        obtain ⟨SF, hSF⟩ : ∃ SF, strOfNums F = SF := ⟨_, rfl⟩
        obtain ⟨SB, hSB⟩ : ∃ SB, strOfNums b = SB := ⟨_, rfl⟩
        rw [hSF, hSB] at hsb hne
        rw [hSF] at CF
        rw [hSB] at CV
        have gd := below_drewN hg 1
        have a1 : ArAt .u32 wr.drew (w.heap.size + 1) 0 U := arat_stands hs1
        have a2 : Stands wr.drew w.heap.size Z 25 := hs0
        have a3 : Stands wr.drew (w.heap.size + 1) (ArA .u32 U) 25 := hs1
        clear hU hUe hF hSF hSB hFb cb hs0 hs1 hlt
        by_cases hx : F = b
        · rw [if_pos hx] at hps
          have hq2 : (SF.toList == SB.toList) = true := by rw [hsb, decide_eq_true_iff, hne]; exact hx
          have hq3 : (SF.toList != SB.toList) = false := by rw [bne, hq2]; rfl
          clear hsb hne hx
          go_upto_region 9 with fail
          refine wp_region_held_drew (S := fun W => ArAt .u32 W (w.heap.size + 1) 0 U ∧ (convert 27 9 v).run Try.prog W = .ok (.string SB) W ∧ Below w.heap.size w W ∧ Stands W w.heap.size Z 25 ∧ Stands W (w.heap.size + 1) (ArA .u32 U) 25) (by kernel_rfl) (⟨a1, CV.out _ gd, gd, a2, a3⟩) (fun hHeld => ?_)
          refine wpAnyH_take (i := 0) (v := .agg (ArA .u32 U)) rfl (by kernel_rfl) (by kernel_rfl) (by kernel_rfl) (fun _ _ _ h => h) (yields_load_ar (by kernel_rfl) 25 (.tmp 4) rfl (w.heap.size + 1) 0 rfl U _ (fun W hW => hW.1) arrL rfl (by rw [HU.out]; exact szL)) hHeld ?_
          simp only [Act.put, List.setIfInBounds_toArray, List.set_cons_zero, List.set_cons_succ]
          refine wpAnyH_take (i := 3) (v := ?v5) rfl (by kernel_rfl) (by kernel_rfl) (by kernel_rfl) (fun _ _ _ h => h) (Or.inl ⟨by kernel_rfl, ?h5⟩) hHeld ?r5
          case h5 => intro W hSw; (try dsimp only at hSw); obtain ⟨hA, hC, hD, hE, hF⟩ := hSw; go_simp; try with_reducible rfl
          simp only [Act.put, List.setIfInBounds_toArray, List.set_cons_zero, List.set_cons_succ]
          refine wpAnyH_take (i := 4) (v := ?v6) rfl (by kernel_rfl) (by kernel_rfl) (by kernel_rfl) (fun _ _ _ h => h) (Or.inl ⟨by kernel_rfl, ?h6⟩) hHeld ?r6
          case h6 => intro W hSw; (try dsimp only at hSw); obtain ⟨hA, hC, hD, hE, hF⟩ := hSw; go_simp; try with_reducible rfl
          simp only [Act.put, List.setIfInBounds_toArray, List.set_cons_zero, List.set_cons_succ]
          refine wpAnyH_ready (rs := [1]) (by kernel_rfl) (by simp) ?_
          refine AllReadyH.cons rfl (fun K hK => ?_) AllReadyH.nil
          go_simp
          go_wp2_with (first | (go_at_call 26; refine (CB.out _).mono ?_; rintro e w3 ⟨v3, rfl, o3, b3⟩; have cf := CF.out w3 v3 (Rd_own o3).1))
          refine hK.out _ _ (⟨hHeld.1.below b3, CV.out _ (below_trans hHeld.2.2.1 b3), below_trans hHeld.2.2.1 b3, hHeld.2.2.2.1.below b3, hHeld.2.2.2.2.below b3⟩) (fun hHeld => ?_)
          clear hK K
          (try simp only [Act.put, List.setIfInBounds_toArray, List.set_cons_zero, List.set_cons_succ])
          refine wpAnyH_ready (rs := [2]) (by kernel_rfl) (by simp) ?_
          refine AllReadyH.cons rfl (fun K hK => ?_) AllReadyH.nil
          go_simp
          refine hK.out _ _ (hHeld) (fun hHeld => ?_)
          clear hK K
          (try simp only [Act.put, List.setIfInBounds_toArray, List.set_cons_zero, List.set_cons_succ])
          refine wpAnyH_take (i := 5) (v := ?v7) rfl (by kernel_rfl) (by kernel_rfl) (by kernel_rfl) (fun _ _ _ h => h) (Or.inl ⟨by kernel_rfl, ?h7⟩) hHeld ?r7
          case h7 => intro W hSw; (try dsimp only at hSw); obtain ⟨hA, hC, hD, hE, hF⟩ := hSw; go_simp; try with_reducible rfl
          simp only [Act.put, List.setIfInBounds_toArray, List.set_cons_zero, List.set_cons_succ]
          refine wpAnyH_done (by kernel_rfl) ?_ _
          obtain ⟨-, -, hB, t0, t1⟩ := hHeld
          go_upto_region 11 with fail
          refine wp_region_lit ?_
          refine wpList_load_row rfl 25 (.tmp 4) rfl (w.heap.size + 1) rfl 25 _ (0, 0) _ t1 arrL rfl (by rw [ara_size, HU.out]; exact szL) ?_
          refine wpList_store_row rfl 25 (.tmp 2) (.tmp 46) rfl w.heap.size (ArA .u32 U) rfl rfl 25 _ t0 (by rw [ara_size, HU.out]; exact szL) (by rw [ara_size, HU.out, zs]) (ara_one _ _) ?_
          have u0 := setRow_heap w3 w.heap.size _ (ArA .u32 U) 25 (0, 0) t0
          have bb := below_setRow hB (Nat.le_refl _) (ArA .u32 U)
          generalize w3.setRow w.heap.size (ArA .u32 U) = W9 at u0 bb ⊢
          iterate 7 go_step
          refine bodyPost_ret (v := .tuple #[.agg (ArA .u32 U), .int .i64 0]) ?_ rfl ⟨by rw [hps.out], bb⟩
          exact (res_row2 (fn := Try.f14) (p := 2) (a := 3) (ty := 25) rfl _ W9 w.heap.size 25 (ArA .u32 U) (0, 0) _ rfl u0 arrL rfl (by rw [ara_size, HU.out]; exact szL)).trans rfl
        · rw [if_neg hx] at hps
          have hq2 : (SF.toList == SB.toList) = false := by rw [hsb, decide_eq_false_iff_not, hne]; exact hx
          have hq3 : (SF.toList != SB.toList) = true := by rw [bne, hq2]; rfl
          clear hsb hne hx
          go_upto_region 9 with fail
          refine wp_region_held_drew (S := fun W => ArAt .u32 W (w.heap.size + 1) 0 U ∧ (convert 27 9 v).run Try.prog W = .ok (.string SB) W ∧ Below w.heap.size w W ∧ Stands W w.heap.size Z 25 ∧ Stands W (w.heap.size + 1) (ArA .u32 U) 25) (by kernel_rfl) (⟨a1, CV.out _ gd, gd, a2, a3⟩) (fun hHeld => ?_)
          refine wpAnyH_take (i := 0) (v := .agg (ArA .u32 U)) rfl (by kernel_rfl) (by kernel_rfl) (by kernel_rfl) (fun _ _ _ h => h) (yields_load_ar (by kernel_rfl) 25 (.tmp 4) rfl (w.heap.size + 1) 0 rfl U _ (fun W hW => hW.1) arrL rfl (by rw [HU.out]; exact szL)) hHeld ?_
          simp only [Act.put, List.setIfInBounds_toArray, List.set_cons_zero, List.set_cons_succ]
          refine wpAnyH_take (i := 3) (v := ?v8) rfl (by kernel_rfl) (by kernel_rfl) (by kernel_rfl) (fun _ _ _ h => h) (Or.inl ⟨by kernel_rfl, ?h8⟩) hHeld ?r8
          case h8 => intro W hSw; (try dsimp only at hSw); obtain ⟨hA, hC, hD, hE, hF⟩ := hSw; go_simp; try with_reducible rfl
          simp only [Act.put, List.setIfInBounds_toArray, List.set_cons_zero, List.set_cons_succ]
          refine wpAnyH_take (i := 4) (v := ?v9) rfl (by kernel_rfl) (by kernel_rfl) (by kernel_rfl) (fun _ _ _ h => h) (Or.inl ⟨by kernel_rfl, ?h9⟩) hHeld ?r9
          case h9 => intro W hSw; (try dsimp only at hSw); obtain ⟨hA, hC, hD, hE, hF⟩ := hSw; go_simp; try with_reducible rfl
          simp only [Act.put, List.setIfInBounds_toArray, List.set_cons_zero, List.set_cons_succ]
          refine wpAnyH_ready (rs := [1]) (by kernel_rfl) (by simp) ?_
          refine AllReadyH.cons rfl (fun K hK => ?_) AllReadyH.nil
          go_simp
          go_wp2_with (first | (go_at_call 26; refine (CB.out _).mono ?_; rintro e w3 ⟨v3, rfl, o3, b3⟩; have cf := CF.out w3 v3 (Rd_own o3).1))
          refine hK.out _ _ (⟨hHeld.1.below b3, CV.out _ (below_trans hHeld.2.2.1 b3), below_trans hHeld.2.2.1 b3, hHeld.2.2.2.1.below b3, hHeld.2.2.2.2.below b3⟩) (fun hHeld => ?_)
          clear hK K
          (try simp only [Act.put, List.setIfInBounds_toArray, List.set_cons_zero, List.set_cons_succ])
          refine wpAnyH_ready (rs := [2]) (by kernel_rfl) (by simp) ?_
          refine AllReadyH.cons rfl (fun K hK => ?_) AllReadyH.nil
          go_simp
          refine hK.out _ _ (hHeld) (fun hHeld => ?_)
          clear hK K
          (try simp only [Act.put, List.setIfInBounds_toArray, List.set_cons_zero, List.set_cons_succ])
          refine wpAnyH_take (i := 5) (v := ?v10) rfl (by kernel_rfl) (by kernel_rfl) (by kernel_rfl) (fun _ _ _ h => h) (Or.inl ⟨by kernel_rfl, ?h10⟩) hHeld ?r10
          case h10 => intro W hSw; (try dsimp only at hSw); obtain ⟨hA, hC, hD, hE, hF⟩ := hSw; go_simp; try with_reducible rfl
          simp only [Act.put, List.setIfInBounds_toArray, List.set_cons_zero, List.set_cons_succ]
          refine wpAnyH_done (by kernel_rfl) ?_ _
          obtain ⟨-, -, hB, t0, t1⟩ := hHeld
          go_upto_region 10 with fail
          refine wp_region_lit ?_
          have hbz : ∀ f : Nat × Operand → Nat × Value, (Try.prog.built 25 ((#[] : Array (Nat × Operand)).map f).toList).getD #[] = Z := fun f => by
            rw [show ((#[] : Array (Nat × Operand)).map f).toList = [] by simp, ← HZ.out]
            kernel_rfl
          refine wpList_build rfl 25 #[] rfl (by kernel_rfl) ?_
          refine wpList_store_row rfl 25 (.tmp 2) (.tmp 45) rfl w.heap.size Z rfl (congrArg Value.agg (hbz _)) 25 _ t0 HS.out rfl zo ?_
          have u0 := setRow_heap w3 w.heap.size _ Z 25 (0, 0) t0
          have bb := below_setRow hB (Nat.le_refl _) Z
          generalize w3.setRow w.heap.size Z = W9 at u0 bb ⊢
          iterate 7 go_step
          (try simp only [Exit.inBlock, Exit.then])
          refine bodyPost_ret (v := .tuple #[.agg (Z), .int .i64 24]) ?_ rfl ⟨by rw [hps.out, ← HZ.out], bb⟩
          exact (res_row2 (fn := Try.f14) (p := 2) (a := 3) (ty := 25) rfl _ W9 w.heap.size 25 (Z) (0, 0) _ rfl u0 arrL rfl (HS.out)).trans rfl
  · have e : psF b = (List.replicate 16 0, 24) := by unfold psF; rw [if_neg (fun x => hl x.1)]
    rw [e]
    have hq : ((b.length : Int) != 512) = true := by simp; omega
    clear e hl
    go_enter Try.func14, Try.ntmps14
    go_upto_region 2 with fail
    have s0 := (stands_new w Z 25).below (box_below _ (.cells Z 25))
    have s1 := stands_new (w.alloc (.cells Z 25)) Z 25
    rw [size_al] at s1
    have b1 := below_trans (box_below w (.cells Z 25)) (box_below _ (.cells Z 25))
    generalize (w.alloc (.cells Z 25)).alloc (.cells Z 25) = W1 at s0 s1 b1 ⊢
    go_upto_region 3 with fail
    refine wp_region_lit ?_
    refine wpList_load_row rfl 25 (.tmp 4) rfl (w.heap.size + 1) rfl 25 _ (0, 0) _ s1 arrL rfl HS.out ?_
    refine wpList_store_row rfl 25 (.tmp 2) (.tmp 9) rfl w.heap.size Z rfl rfl 25 _ s0 HS.out rfl zo ?_
    have u0 := setRow_heap W1 w.heap.size _ (Z) 25 (0, 0) s0
    have bb := below_setRow b1 (Nat.le_refl _) (Z)
    generalize W1.setRow w.heap.size (Z) = W9 at u0 bb ⊢
    iterate 7 go_step
    (try simp only [Exit.inBlock, Exit.then])
    refine bodyPost_ret (v := .tuple #[.agg (Z), .int .i64 24]) ?_ rfl ⟨by rw [← HZ.out], bb⟩
    exact (res_row2 (fn := Try.f14) (p := 2) (a := 3) (ty := 25) rfl _ W9 w.heap.size 25 (Z) (0, 0) _ rfl u0 arrL rfl (HS.out)).trans rfl

/-
  Window of the document's answer for layer 21.
-/
set_option maxHeartbeats 4000000 in
set_option maxRecDepth 100000 in
theorem w_rwindow21 (v : Value) (d : List Int) (s : ByteArray) (w : World) (h : Rd .u8 w v d) (hb : bytesL d) (hz : d.length ≤ 140737488351232) (hs : s.size ≤ maxLen) :
    Calls Try.prog 19 #[v, .string s] w fun e w' => e = .returned (.tuple #[.int .i64 (wnF d (LB s)).1, .int .i64 (wnF d (LB s)).2.1, .int .i64 (wnF d (LB s)).2.2]) ∧ Below w.heap.size w w' := by
  have hlen := rd_len h uB (P := Try.prog)
  have cf := w_rformed20 v d w h hz
  have cs := fun W => w_rselect21 s W hs
  have hsr := sl_rg (LB s)
  have hwn : Hid (wnF d (LB s) = if dkB d = true then
    if (slF (LB s)).2.2 = 0 then
      if (slF (LB s)).1 < 0 then (0, (d.length : Int), 0)
      else if d.length = 0 then (0, 0, 24)
      else if (psF (d.take 512)).2 = 0 then
        if (psF (d.take 512)).1.getD (2 * (slF (LB s)).1 + 1).toNat 0 = 0 ∨ (d.length : Int) / 512 < (psF (d.take 512)).1.getD (2 * (slF (LB s)).1).toNat 0 + (psF (d.take 512)).1.getD (2 * (slF (LB s)).1 + 1).toNat 0 then (0, 0, 24)
        else (512 * (psF (d.take 512)).1.getD (2 * (slF (LB s)).1).toNat 0, 512 * (psF (d.take 512)).1.getD (2 * (slF (LB s)).1 + 1).toNat 0, 0)
      else (0, 0, (psF (d.take 512)).2)
    else (0, 0, (slF (LB s)).2.2)
  else (0, 0, 1)) := rfl
  obtain ⟨W, hW⟩ : ∃ W, wnF d (LB s) = W := ⟨_, rfl⟩
  rw [hW] at hwn ⊢
  clear hW
  by_cases h1 : dkB d = true
  · obtain ⟨m1, m2⟩ := dk_len h1
    rw [if_pos h1] at hwn
    rw [h1] at cf
    obtain ⟨T, E, K, hT⟩ : ∃ T E K, slF (LB s) = (K, T, E) := ⟨_, _, _, rfl⟩
    rw [hT] at hwn hsr
    simp only [hT] at cs
    simp only at hwn hsr cs
    clear hT
    by_cases h2 : E = 0
    · subst h2
      rw [if_pos rfl] at hwn
      by_cases h3 : K < 0
      · rw [if_pos h3] at hwn
        clear h1
        go_enter Try.func19, Try.ntmps19
        go_wp2_with (first
          | (go_at_call 34; refine cf.mono ?_; rintro e w1 ⟨rfl, rfl⟩)
          | (go_at_call 16; refine (cs _).mono ?_; rintro e w2 ⟨t2, rfl, -, b2⟩))
        go_ret3
        rw [hwn.out]
        exact ⟨rfl, b2⟩
      · rw [if_neg h3] at hwn
        obtain ⟨k, rfl⟩ : ∃ k : Nat, K = (k : Int) := ⟨K.toNat, by omega⟩
        by_cases h4 : d.length = 0
        · rw [if_pos h4] at hwn
          have h4' : (d.length : Int) = 0 := by omega
          have hq : ((d.length : Int) == 0) = true := by rw [beq_iff_eq]; omega
          clear h1 h4 h4' m1 m2
          go_enter Try.func19, Try.ntmps19
          go_wp2_with (first
            | (go_at_call 34; refine cf.mono ?_; rintro e w1 ⟨rfl, rfl⟩)
            | (go_at_call 16; refine (cs _).mono ?_; rintro e w2 ⟨t2, rfl, -, b2⟩))
          go_ret3
          rw [hwn.out]
          exact ⟨rfl, b2⟩
        · rw [if_neg h4] at hwn
          have hq : ((d.length : Int) == 0) = false := by rw [beq_eq_false_iff_ne]; omega
          have h512 : 512 ≤ d.length := by omega
          obtain ⟨vs, rs, -, sl, -⟩ := rd_cutI h uB zB 0 512 (by omega) (by omega) (by omega)
          have sl := sl rfl
          rw [show (d.drop (0 : Int).toNat).take ((512 : Int) - 0).toNat = d.take 512 from rfl] at rs
          have hbt := bytes_take hb 512
          have cp := fun W hb' => w_rparse21 vs (d.take 512) W (rs.below hb') hbt (by simp; omega)
          obtain ⟨hp0, hpl⟩ := ps_rg (d.take 512)
          have hpu := ps_u32 hbt
          obtain ⟨ps, pe, hP⟩ : ∃ ps pe, psF (d.take 512) = (ps, pe) := ⟨_, _, rfl⟩
          rw [hP] at hwn hp0 hpl hpu
          simp only [hP] at cp
          simp only at hwn hp0 hpl hpu cp
          have z := zeroL.1
          obtain ⟨Z, hZ⟩ : ∃ Z, ArA .u32 (List.replicate 16 0) = Z := ⟨_, rfl⟩
          rw [hZ] at z
          have zs : Z.size = 16 := by rw [← hZ, ara_size, List.length_replicate]
          have hsz : (ArA .u32 ps).size = 16 := by rw [ara_size, hpl]
          have hrun := fun W : World => run_storeCells_new (P := Try.prog) W 25 Z (ArA .u32 ps) (by rw [hsz]; exact szL) (by rw [hsz, zs]) (ara_one _ _)
          clear hZ hP
          by_cases h5 : pe = 0
          · subst h5
            rw [if_pos rfl] at hwn
            have u0 := u32_get hpu (2 * k)
            have u1 := u32_get hpu (2 * k + 1)
            have F0 := hid (fun (W : World) => (show (W.alloc (.cells (ArA .u32 ps) 25)).cell? ⟨W.heap.size, 2 * k, none⟩ = some (.int .u32 (ps.getD (2 * k) 0)) from box_cell W _ _ _ _ (ara_at _ (by omega))))
            have F1 := hid (fun (W : World) => (show (W.alloc (.cells (ArA .u32 ps) 25)).cell? ⟨W.heap.size, 2 * k + 1, none⟩ = some (.int .u32 (ps.getD (2 * k + 1) 0)) from box_cell W _ _ _ _ (ara_at _ (by omega))))
            have HX := hid (fun (W : World) (w' : World) => pt_ix W.heap.size k .i64 (k : Int) rfl (by omega) w')
            rw [show (2 * (k : Int)).toNat = 2 * k by omega, show (2 * (k : Int) + 1).toNat = 2 * k + 1 by omega] at hwn
            obtain ⟨S, hS⟩ : ∃ S, ps.getD (2 * k) 0 = S := ⟨_, rfl⟩
            obtain ⟨C, hC⟩ : ∃ C, ps.getD (2 * k + 1) 0 = C := ⟨_, rfl⟩
            rw [hS, hC] at hwn
            rw [hS] at F0 u0
            rw [hC] at F1 u1
            have t1 : (d.length : Int).tdiv 512 = (d.length : Int) / 512 := Int.tdiv_eq_ediv_of_nonneg (by omega)
            have hwS : IntKind.i64.wrap S = S := by rw [IntKind.wrap_i64]; omega
            have hwC : IntKind.i64.wrap C = C := by rw [IntKind.wrap_i64]; omega
            have hwT : IntKind.i64.wrap (S + C) = S + C := by rw [IntKind.wrap_i64]; omega
            have hw1 : IntKind.i64.wrap (512 * S) = 512 * S := by rw [IntKind.wrap_i64]; omega
            have hw2 : IntKind.i64.wrap (512 * C) = 512 * C := by rw [IntKind.wrap_i64]; omega
            have HT := hid t1
            have HD := hid (And.intro hpl (And.intro hpu (And.intro m1 (And.intro m2 h512))))
            clear hS hC hpl hpu h4 h1 m1 m2 h512
            by_cases h6 : C = 0
            · rw [if_pos (Or.inl h6)] at hwn
              subst h6
              go_enter Try.func19, Try.ntmps19
              go_upto_region 13 with (first
                | (go_at_call 34; refine cf.mono ?_; rintro e w1 ⟨rfl, rfl⟩)
                | (go_at_call 16; refine (cs _).mono ?_; rintro e w2 ⟨t2, rfl, -, b2⟩)
                | (go_at_call 14; refine (cp _ b2).mono ?_; rintro e w3 ⟨rfl, b3⟩; have hs3 := hrun w3))
              have f0 := F0.out w3
              have f1 := F1.out w3
              have ix := HX.out w3
              clear hs3 hrun
              go_quiet (fail)
              go_wp2_with fail
              go_ret3
              rw [hwn.out]
              exact ⟨rfl, below_drewN (below_trans b2 (below_trans b3 (box_below _ _))) _⟩
            · have hq6 : (C == 0) = false := by rw [beq_eq_false_iff_ne]; exact h6
              by_cases h7 : (d.length : Int) / 512 < S + C
              · rw [if_pos (Or.inr h7)] at hwn
                go_enter Try.func19, Try.ntmps19
                go_upto_region 13 with (first
                  | (go_at_call 34; refine cf.mono ?_; rintro e w1 ⟨rfl, rfl⟩)
                  | (go_at_call 16; refine (cs _).mono ?_; rintro e w2 ⟨t2, rfl, -, b2⟩)
                  | (go_at_call 14; refine (cp _ b2).mono ?_; rintro e w3 ⟨rfl, b3⟩; have hs3 := hrun w3))
                have f0 := F0.out w3
                have f1 := F1.out w3
                have ix := HX.out w3
                clear hs3 hrun
                go_quiet (fail)
                go_wp2_with fail
                go_ret3
                rw [hwn.out]
                exact ⟨rfl, below_drewN (below_trans b2 (below_trans b3 (box_below _ _))) _⟩
              · rw [if_neg (by omega)] at hwn
                go_enter Try.func19, Try.ntmps19
                go_upto_region 13 with (first
                  | (go_at_call 34; refine cf.mono ?_; rintro e w1 ⟨rfl, rfl⟩)
                  | (go_at_call 16; refine (cs _).mono ?_; rintro e w2 ⟨t2, rfl, -, b2⟩)
                  | (go_at_call 14; refine (cp _ b2).mono ?_; rintro e w3 ⟨rfl, b3⟩; have hs3 := hrun w3))
                have f0 := F0.out w3
                have f1 := F1.out w3
                have ix := HX.out w3
                clear hs3 hrun
                go_quiet (fail)
                go_wp2_with fail
                go_ret3
                rw [hwn.out]
                exact ⟨rfl, below_drewN (below_trans b2 (below_trans b3 (box_below _ _))) _⟩
          · have hpe : pe = 24 := by omega
            subst hpe
            rw [if_neg (by omega)] at hwn
            clear h1 h4
            go_enter Try.func19, Try.ntmps19
            go_wp2_with (first
              | (go_at_call 34; refine cf.mono ?_; rintro e w1 ⟨rfl, rfl⟩)
              | (go_at_call 16; refine (cs _).mono ?_; rintro e w2 ⟨t2, rfl, -, b2⟩)
              | (go_at_call 14; refine (cp _ b2).mono ?_; rintro e w3 ⟨rfl, b3⟩; have hs3 := hrun w3))
            go_ret3
            rw [hwn.out]
            exact ⟨rfl, below_trans b2 (below_trans b3 (box_below _ _))⟩
    · have hE : E = 15 := by omega
      subst hE
      rw [if_neg (by omega)] at hwn
      clear h1
      go_enter Try.func19, Try.ntmps19
      go_wp2_with (first
        | (go_at_call 34; refine cf.mono ?_; rintro e w1 ⟨rfl, rfl⟩)
        | (go_at_call 16; refine (cs _).mono ?_; rintro e w2 ⟨t2, rfl, -, b2⟩))
      go_ret3
      rw [hwn.out]
      exact ⟨rfl, b2⟩
  · rw [if_neg h1] at hwn
    have h1' : dkB d = false := by simpa using h1
    rw [h1'] at cf
    clear h1 cs hsr
    go_enter Try.func19, Try.ntmps19
    go_wp2_with (go_at_call 34; refine cf.mono ?_; rintro e w1 ⟨rfl, rfl⟩)
    go_ret3
    rw [hwn.out]
    exact ⟨rfl, Below.refl _ _⟩

end Go.Proofs.Ytnaoefjcfmdenaa
