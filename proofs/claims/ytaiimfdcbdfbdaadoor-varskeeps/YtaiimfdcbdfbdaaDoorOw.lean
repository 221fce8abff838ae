/-
  Rows that the call has built, whose cells may be slices of the call's own themselves: what stands when another row grows or is written, by the kinds of the blocks. No Go text in sight.
-/
import Derived.Test.YtaiimfdcbdfbdaaDoorSd
import Derived.Laws.OwnMore
namespace Go.Proofs.YtaiimfdcbdfbdaaDoor
open Go.ChangeShapes Go.WideShapes Go.ChangeAt Go.RowKit
set_option linter.unusedVariables false
set_option linter.unusedSimpArgs false

/-- all old blocks stand but perhaps one of kind T -/
def Kept (T : TypeId) (w w' : World) : Prop := ∃ row, w.grownBy w' row ∧ ∀ g, row = some g → ∃ cur fr, w.heap[g]? = some (.cells cur T fr)
theorem grown_none {w w' : World} (h : Below w.heap.size w w') : w.grownBy w' none := ⟨h.os, h.tape, h.output, h.size, fun k hk _ => h.block k hk⟩
theorem Kept.below {T : TypeId} {w w' : World} (h : Below w.heap.size w w') : Kept T w w' := ⟨none, grown_none h, fun g hg => by cases hg⟩
theorem Kept.own {base : Nat} {e : TypeId} {sz : Nat} {w w' : World} {v : Value} {n : Nat} {cs : List Value} (o : w.ownsRow base e sz v n cs) (g : w.grownBy w' v.ownBlock) : Kept e w w' := by
  refine ⟨_, g, fun k hk => ?_⟩
  obtain ⟨_, o⟩ := o
  rcases o with ⟨rfl, _⟩ | ⟨k', cap, cur, rfl, _, h1, _⟩
  · simp [Value.ownBlock] at hk
  · simp [Value.ownBlock] at hk
    subst hk
    exact ⟨cur, _, h1⟩
theorem Kept.stands {b : Nat} {cs : Array Value} {T : TypeId} {w w' : World} (h : Stands w b cs T) (g : w.grownBy w' (some b)) : Kept T w w' :=
  ⟨_, g, fun k hk => by cases hk; exact ⟨cs, _, h⟩⟩
/-- what does not lie in blocks of kind T -/
def Apt {α : Type} (T : TypeId) (O : World → List Value → α → Prop) : Prop := ∀ w w' cs x, Kept T w w' → O w cs x → O w' cs x
theorem own_kept {T : TypeId} {w w' : World} (k : Kept T w w') {base : Nat} {e : TypeId} {sz : Nat} {v : Value} {n : Nat} {cs : List Value} (hne : ¬ e = T) (o : w.ownsRow base e sz v n cs) : w'.ownsRow base e sz v n cs := by
  obtain ⟨row, g, hr⟩ := k
  obtain ⟨hl, o⟩ := o
  refine ⟨hl, ?_⟩
  rcases o with o | ⟨b, cap, cur, rfl, hb, h1, o⟩
  · exact Or.inl o
  · refine Or.inr ⟨b, cap, cur, rfl, hb, ?_, o⟩
    rw [g.block b (Array.getElem?_eq_some_iff.1 h1).1 (fun e0 => ?_)]
    · exact h1
    · obtain ⟨cur', fr, h2⟩ := hr b e0.symm
      rw [h1] at h2
      simp at h2
      exact hne h2.2.1
theorem stands_kept {T : TypeId} {w w' : World} (k : Kept T w w') {b : Nat} {cs : Array Value} {e : TypeId} (hne : ¬ e = T) (h : Stands w b cs e) : Stands w' b cs e := by
  obtain ⟨row, g, hr⟩ := k
  unfold Stands at h ⊢
  rw [g.block b (Array.getElem?_eq_some_iff.1 h).1 (fun e0 => ?_)]
  · exact h
  · obtain ⟨cur', fr, h2⟩ := hr b e0.symm
    rw [h] at h2
    simp at h2
    exact hne h2.2.1
/-- rows of sz cells of kind e, each as O says -/
def OwnR {α : Type} (e : TypeId) (sz : Nat) (O : World → List Value → α → Prop) (base : Nat) (w : World) (v : Value) (xs : List α) : Prop :=
  ∃ rows : List (List Value), rows.length = xs.length ∧ (∀ r ∈ rows, r.length = sz) ∧ w.ownsRow base e sz v xs.length rows.flatten ∧ ∀ i (h : i < xs.length), O w (rows.getD i []) xs[i]
theorem OwnR.nil {α : Type} (e : TypeId) (sz : Nat) (O : World → List Value → α → Prop) (base : Nat) (w : World) : OwnR e sz O base w (.slice none 0 0) ([] : List α) := ⟨[], rfl, by simp, World.ownsRow_nil _ _ _ _, fun i hi => by simp at hi⟩
theorem OwnR.row {α : Type} {e : TypeId} {sz : Nat} {O : World → List Value → α → Prop} {base : Nat} {w : World} {v : Value} {xs : List α} (h : OwnR e sz O base w v xs) : ∃ cs, w.ownsRow base e sz v xs.length cs := by
  obtain ⟨rows, _, _, h3, _⟩ := h
  exact ⟨_, h3⟩
theorem OwnR.read {α : Type} {e : TypeId} {sz : Nat} {O R : World → List Value → α → Prop} {base : Nat} {w : World} {v : Value} {xs : List α} (hsz : 0 < sz) (h : OwnR e sz O base w v xs) (hR : ∀ cs x, O w cs x → R w cs x) : SlR sz R w v xs := by
  obtain ⟨rows, h1, h2, h3, h4⟩ := h
  have h5 : SlR sz (fun _ cs (r : List Value) => cs = r) w v rows := slr_rows (n := xs.length) (e := e) (base := base) id h2 hsz (by simpa [List.flatMap_id] using h3) (fun _ _ => rfl)
  obtain ⟨rows', k1, k2, k3⟩ := h5
  have e0 : rows' = rows := by
    apply List.ext_getElem k2
    intro i hi hj
    have := k3 i hj
    rw [List.getD_eq_getElem?_getD, List.getElem?_eq_getElem hi] at this
    simpa using this
  subst e0
  exact ⟨rows', k1, h1, fun i hi => hR _ _ (h4 i hi)⟩
theorem OwnR.kept {α : Type} {T e : TypeId} {sz : Nat} {O : World → List Value → α → Prop} {base : Nat} {w w' : World} {v : Value} {xs : List α} (h : OwnR e sz O base w v xs) (k : Kept T w w') (hne : ¬ e = T) (ha : Apt T O) : OwnR e sz O base w' v xs := by
  obtain ⟨rows, h1, h2, h3, h4⟩ := h
  exact ⟨rows, h1, h2, own_kept k hne h3, fun i hi => ha _ _ _ _ k (h4 i hi)⟩
theorem OwnR.apt {α : Type} {T e : TypeId} {sz : Nat} {O : World → List Value → α → Prop} {base : Nat} (hne : ¬ e = T) (ha : Apt T O) : ∀ w w' v xs, Kept T w w' → OwnR e sz O base w v xs → OwnR e sz O base w' v xs := fun w w' v xs k h => h.kept k hne ha
/-- behind a call that leaves all that is old -/
theorem OwnR.below {α : Type} {e : TypeId} {sz : Nat} {O : World → List Value → α → Prop} {base : Nat} {w w' : World} {v : Value} {xs : List α} (h : OwnR e sz O base w v xs) (g : Below w.heap.size w w') (hO : ∀ cs x, O w cs x → O w' cs x) : OwnR e sz O base w' v xs := by
  obtain ⟨rows, h1, h2, ⟨hl, h3⟩, h4⟩ := h
  refine ⟨rows, h1, h2, ⟨hl, ?_⟩, fun i hi => hO _ _ (h4 i hi)⟩
  rcases h3 with h | ⟨b, cap, cur, rfl, hb, hg, hc⟩
  · exact Or.inl h
  · refine Or.inr ⟨b, cap, cur, rfl, hb, ?_, hc⟩
    rw [g.block b (Array.getElem?_eq_some_iff.1 hg).1]
    exact hg
theorem OwnR.le {α : Type} {e : TypeId} {sz : Nat} {O O' : World → List Value → α → Prop} {base base' : Nat} {w : World} {v : Value} {xs : List α} (hb : base' ≤ base) (h : OwnR e sz O base w v xs) (hO : ∀ cs x, O w cs x → O' w cs x) : OwnR e sz O' base' w v xs := by
  obtain ⟨rows, h1, h2, h3, h4⟩ := h
  exact ⟨rows, h1, h2, own_le hb h3, fun i hi => hO _ _ (h4 i hi)⟩
/-- a row more -/
theorem OwnR.snoc {α : Type} {e : TypeId} {sz : Nat} {O : World → List Value → α → Prop} {base : Nat} {w w' : World} {U v' : Value} {xs : List α} {x : α} {row : List Value} {rows : List (List Value)} (ha : Apt e O) (h1 : rows.length = xs.length) (h2 : ∀ r ∈ rows, r.length = sz) (h3 : w.ownsRow base e sz U xs.length rows.flatten) (h4 : ∀ i (h : i < xs.length), O w (rows.getD i []) xs[i])
    (hr : row.length = sz) (hx : O w row x) (o : w'.ownsRow base e sz v' (xs.length + 1) (rows.flatten ++ row)) (g : w.grownBy w' U.ownBlock) : OwnR e sz O base w' v' (xs ++ [x]) := by
  have k := Kept.own h3 g
  refine ⟨rows ++ [row], by simp [h1], fun r hm => ?_, by simpa using o, fun i hi => ?_⟩
  · rcases List.mem_append.1 hm with hm | hm
    · exact h2 r hm
    · simp at hm; subst hm; exact hr
  · by_cases hlt : i < xs.length
    · rw [List.getD_eq_getElem?_getD, List.getElem?_append_left (by omega), List.getElem_append_left hlt, ← List.getD_eq_getElem?_getD]
      exact ha _ _ _ _ k (h4 i hlt)
    · have hi2 : i = xs.length := by simp at hi; omega
      subst hi2
      rw [List.getD_eq_getElem?_getD, List.getElem?_append_right (by omega), h1]
      simp
      exact ha _ _ _ _ k hx
theorem flat_set {α : Type} : ∀ (rows : List (List α)) (sz i j : Nat) (u : α), (∀ r ∈ rows, r.length = sz) → i < rows.length → j < sz → rows.flatten.set (i * sz + j) u = (rows.set i ((rows.getD i []).set j u)).flatten
  | [], sz, i, j, u, _, hi, _ => by simp at hi
  | r :: rows, sz, 0, j, u, h, hi, hj => by
    have hr := h r (by simp)
    simp only [List.flatten_cons, Nat.zero_mul, Nat.zero_add, List.set_cons_zero, List.getD_cons_zero]
    rw [List.set_append_left _ _ (by omega)]
  | r :: rows, sz, i + 1, j, u, h, hi, hj => by
    have hr := h r (by simp)
    have ih := flat_set rows sz i j u (fun x hx => h x (by simp [hx])) (by simpa using hi) hj
    simp only [List.flatten_cons, List.set_cons_succ, List.getD_cons_succ]
    rw [List.set_append_right _ _ (by rw [hr, Nat.add_mul]; omega), hr, show (i + 1) * sz + j - sz = i * sz + j by rw [Nat.add_mul]; omega, ih]
/-- a cell of a row written -/
theorem OwnR.set {α : Type} {e : TypeId} {sz : Nat} {O : World → List Value → α → Prop} {base : Nat} {w : World} {g n cap : Nat} {xs : List α} {rows : List (List Value)} (ha : Apt e O) (h1 : rows.length = xs.length) (h2 : ∀ r ∈ rows, r.length = sz) (h3 : w.ownsRow base e sz (.slice (some ⟨g, 0, none⟩) n cap) xs.length rows.flatten) (h4 : ∀ i (h : i < xs.length), O w (rows.getD i []) xs[i])
    (i j : Nat) (hi : i < xs.length) (hj : j < sz) (u : Value) (x : α) (hx : O (w.setCell ⟨g, i * sz + j, none⟩ u) ((rows.getD i []).set j u) x) : OwnR e sz O base (w.setCell ⟨g, i * sz + j, none⟩ u) (.slice (some ⟨g, 0, none⟩) n cap) (xs.set i x) ∧ Kept e w (w.setCell ⟨g, i * sz + j, none⟩ u) := by
  have hn : n = xs.length := by
    obtain ⟨_, h3⟩ := h3
    rcases h3 with ⟨h, _⟩ | ⟨g', cap', cur, h, _⟩
    · simp at h
    · simp at h; exact h.2.1
  subst hn
  obtain ⟨s1, s2⟩ := h3.stored (i * sz + j) u
  have k : Kept e w (w.setCell ⟨g, i * sz + j, none⟩ u) := Kept.own (v := .slice (some ⟨g, 0, none⟩) xs.length cap) h3 (by simpa [Value.ownBlock] using s2)
  rw [flat_set rows sz i j u h2 (by omega) hj] at s1
  refine ⟨⟨rows.set i ((rows.getD i []).set j u), by simp [h1], fun r hm => ?_, by simpa using s1, fun m hm => ?_⟩, k⟩
  · rcases List.mem_or_eq_of_mem_set hm with hm | rfl
    · exact h2 r hm
    · rw [List.length_set, List.getD_eq_getElem?_getD, List.getElem?_eq_getElem (by omega)]
      exact h2 _ (List.getElem_mem _)
  · rw [List.length_set] at hm
    rw [List.getElem_set]
    by_cases him : i = m
    · subst him
      rw [if_pos rfl, List.getD_eq_getElem?_getD, List.getElem?_set_self (by omega)]
      exact hx
    · rw [if_neg him, List.getD_eq_getElem?_getD, List.getElem?_set_ne him, ← List.getD_eq_getElem?_getD]
      exact ha _ _ _ _ k (h4 m hm)
end Go.Proofs.YtaiimfdcbdfbdaaDoor
