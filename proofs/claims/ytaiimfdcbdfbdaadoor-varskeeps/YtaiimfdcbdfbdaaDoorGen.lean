/-
  Small things about rows and blocks that several layers lean on. No Go text in sight.
-/
import Derived.Test.YtaiimfdcbdfbdaaDoorOw2
import Derived.Test.YtaiimfdcbdfbdaaDoorSgi
import Derived.Test.YtaiimfdcbdfbdaaDoorSt
import Derived.Laws.ResultCell
namespace Go.Proofs.YtaiimfdcbdfbdaaDoor
open Go.ChangeShapes Go.WideShapes Go.ChangeAt Go.RowKit
set_option linter.unusedVariables false
set_option linter.unusedSimpArgs false

theorem rd_slice {k : IntKind} {w : World} {v : Value} {xs : List Int} (h : Rd k w v xs) : ∃ ao cap, v = .slice ao xs.length cap := by
  obtain ⟨ao, cap, rfl, _⟩ := rd_form h
  exact ⟨ao, cap, rfl⟩
theorem slr_slice {α : Type} {R : World → List Value → α → Prop} {sz : Nat} {w : World} {v : Value} {xs : List α} (h : SlR sz R w v xs) : ∃ ao cap, v = .slice ao xs.length cap := by
  obtain ⟨rows, h1, h2, _⟩ := h
  obtain ⟨ao, cap, rfl, _⟩ := h1.form
  exact ⟨ao, cap, by rw [h2]⟩
theorem set_kept {w : World} {b : Nat} {cs : Array Value} {T : TypeId} (h : Stands w b cs T) (j : Nat) (u : Value) : Kept T w (w.setCell ⟨b, j, none⟩ u) := by
  refine Kept.stands h ⟨rfl, rfl, rfl, by simp, fun k hk hne => ?_⟩
  exact Below.heap_setCell _ _ _ k (fun e => hne (by rw [e]))
theorem set5 {w : World} {b : Nat} {z0 z1 z2 z3 z4 : Value} {T : TypeId} (h : Stands w b #[z0, z1, z2, z3, z4] T) (a0 a1 a2 a3 a4 : Value) :
    Stands (((((w.setCell ⟨b, 0, none⟩ a0).setCell ⟨b, 1, none⟩ a1).setCell ⟨b, 2, none⟩ a2).setCell ⟨b, 3, none⟩ a3).setCell ⟨b, 4, none⟩ a4) b #[a0, a1, a2, a3, a4] T ∧
    (∀ {base : Nat} {e : TypeId} {sz : Nat} {v : Value} {n : Nat} {xs : List Value}, ¬ e = T → w.ownsRow base e sz v n xs → (((((w.setCell ⟨b, 0, none⟩ a0).setCell ⟨b, 1, none⟩ a1).setCell ⟨b, 2, none⟩ a2).setCell ⟨b, 3, none⟩ a3).setCell ⟨b, 4, none⟩ a4).ownsRow base e sz v n xs) := by
  have h0 := h.set 0 a0
  have h1 := h0.set 1 a1
  have h2 := h1.set 2 a2
  have h3 := h2.set 3 a3
  have h4 := h3.set 4 a4
  exact ⟨h4, fun hne o => own_kept (set_kept h3 4 a4) hne (own_kept (set_kept h2 3 a3) hne (own_kept (set_kept h1 2 a2) hne (own_kept (set_kept h0 1 a1) hne (own_kept (set_kept h 0 a0) hne o))))⟩
theorem own_some {w : World} {base : Nat} {e : TypeId} {sz : Nat} {v : Value} {n : Nat} {cs : List Value} (o : w.ownsRow base e sz v n cs) (h : 0 < n) : ∃ g cap, v = .slice (some ⟨g, 0, none⟩) n cap := by
  rcases o.2 with ⟨_, h0⟩ | ⟨g, cap, cur, hv, _⟩
  · omega
  · exact ⟨g, cap, hv⟩
theorem own_cell {w : World} {base : Nat} {e : TypeId} {sz g n cap : Nat} {cs : List Value} (o : w.ownsRow base e sz (.slice (some ⟨g, 0, none⟩) n cap) n cs) (j : Nat) (u : Value) (h : cs[j]? = some u) : w.cell? ⟨g, j, none⟩ = some u := by
  have h1 := o.cells (g := g) rfl j u h
  have e1 : (⟨g, 0, none⟩ : Addr).add j = ⟨g, j, none⟩ := by
    unfold Addr.add
    split
    · rename_i hz; rw [hz]
    · simp
  rwa [e1] at h1
theorem two_boxes (w : World) (a b : Array Value) (T : TypeId) : Stands ((w.alloc (.cells a T)).alloc (.cells b T)) w.heap.size a T ∧ Stands ((w.alloc (.cells a T)).alloc (.cells b T)) (w.heap.size + 1) b T ∧ Below w.heap.size w ((w.alloc (.cells a T)).alloc (.cells b T)) := by
  refine ⟨(stands_new w a T).below (box_below _ _), ?_, below_trans (box_below w _) (box_below _ _)⟩
  have := stands_new (w.alloc (.cells a T)) b T
  rwa [size_al] at this
theorem grown_below {w w' : World} {r : Option Nat} (g : w.grownBy w' r) {e : TypeId} {sz base : Nat} {v : Value} {n : Nat} {cs : List Value} (o : w.ownsRow base e sz v n cs) (hne : ∀ k, v.ownBlock = some k → r ≠ some k) : w'.ownsRow base e sz v n cs := by
  obtain ⟨hl, o⟩ := o
  refine ⟨hl, ?_⟩
  rcases o with h | ⟨b, cap, cur, rfl, h1, h2, h3⟩
  · exact Or.inl h
  · refine Or.inr ⟨b, cap, cur, rfl, h1, ?_, h3⟩
    rw [g.block b (Array.getElem?_eq_some_iff.1 h2).1 (fun e => hne b rfl e.symm)]
    exact h2
theorem gb_refl (w : World) (r : Option Nat) : w.grownBy w r := ⟨rfl, rfl, rfl, Nat.le_refl _, fun _ _ _ => rfl⟩
theorem gb_below {a b c : World} {r : Option Nat} (h : a.grownBy b r) (g : Below b.heap.size b c) : a.grownBy c r :=
  ⟨g.os.trans h.os, g.tape.trans h.tape, g.output.trans h.output, Nat.le_trans h.size g.size, fun k hk hne => (g.block k (Nat.lt_of_lt_of_le hk h.size)).trans (h.block k hk hne)⟩
theorem gb_set {a b : World} {g : Nat} (h : a.grownBy b (some g)) (j : Nat) (u : Value) : a.grownBy (b.setCell ⟨g, j, none⟩ u) (some g) :=
  ⟨h.os, h.tape, h.output, by simpa [World.setCell] using h.size, fun k hk hne => (Below.heap_setCell _ _ _ k (fun e => hne (by rw [e]))).trans (h.block k hk hne)⟩
theorem gb_new {a b : World} {r : Option Nat} {g : Nat} (h : a.grownBy b r) (hg : a.heap.size ≤ g) (j : Nat) (u : Value) : a.grownBy (b.setCell ⟨g, j, none⟩ u) r :=
  ⟨h.os, h.tape, h.output, by simpa [World.setCell] using h.size, fun k hk hne => (Below.heap_setCell _ _ _ k (fun e => by have e2 : k = g := e; omega)).trans (h.block k hk hne)⟩
theorem slr_tail {α : Type} {P : Program} {R : World → List Value → α → Prop} {w : World} {v : Value} {xs : List α} {sz : Nat} (h : SlR sz R w v xs) {t : TypeId} (ht : P.underlying t = some (.slice (P.elem t))) (hs : ∀ w, (sizeOf (P.elem t)).run P w = .ok sz w) (n : Nat) (hn : n ≤ xs.length) :
    ∃ v', (∀ w', (Instr.slice t v (some (.int .i64 (n : Int))) none none).run P w' = .ok v' w') ∧ SlR sz R w v' (xs.drop n) := by
  obtain ⟨rows, h1, h2, h3⟩ := h
  obtain ⟨ao, cap, rfl, hc, hno, hx⟩ := h1.form
  refine ⟨sliced ao n rows.length cap sz, fun w' => ?_, rows.drop n, ?_, by simp [h2], fun i hi => ?_⟩
  · rw [run_slice_l w' t ao rows.length cap ht .i64 (n : Int) (by omega) (by omega), hs]
    simp [Result.andThen]
  · rcases Nat.eq_zero_or_pos (rows.length - n) with h0 | h0
    · refine Or.inl ⟨if cap = n then ao else ao.map (·.add (n * sz)), cap - n, by rw [sliced, h0], ?_, ?_⟩
      · intro he
        by_cases hcl : cap = n
        · omega
        · rw [if_neg hcl] at he
          cases ao with
          | none => have := hno rfl; omega
          | some a => cases he
      · apply List.eq_nil_of_length_eq_zero
        rw [List.length_drop]
        exact h0
    · obtain ⟨hm, b, off, rfl, hcell⟩ := hx (by omega)
      have hl : (rows.drop n).length = rows.length - n := by simp
      refine Or.inr ⟨b, off + n * sz, cap - n, ?_, by omega, by omega, by omega, fun i hi => ?_⟩
      · rw [sliced, hl, if_neg (by omega)]
        simp [Addr.add]
      · rw [hl] at hi
        have e : (rows.drop n).getD i [] = rows.getD (n + i) [] := by
          rw [List.getD_eq_getElem?_getD, List.getD_eq_getElem?_getD, List.getElem?_drop]
        rw [e]
        have := hcell (n + i) (by omega)
        rw [show off + n * sz + i * sz = off + (n + i) * sz by rw [Nat.add_mul]; omega]
        exact this
  · have hi2 : n + i < xs.length := by simp at hi; omega
    have e : (rows.drop n).getD i [] = rows.getD (n + i) [] := by
      rw [List.getD_eq_getElem?_getD, List.getD_eq_getElem?_getD, List.getElem?_drop]
    rw [e, List.getElem_drop]
    exact h3 (n + i) hi2
theorem own_belowN {w w' : World} {base : Nat} {e : TypeId} {sz : Nat} {v : Value} {n : Nat} {cs : List Value} (o : w.ownsRow base e sz v n cs) (g : Below w.heap.size w w') : w'.ownsRow base e sz v n cs := by
  obtain ⟨hl, h3⟩ := o
  refine ⟨hl, ?_⟩
  rcases h3 with h | ⟨b, cap, cur, rfl, hb, hg, hc⟩
  · exact Or.inl h
  · refine Or.inr ⟨b, cap, cur, rfl, hb, ?_, hc⟩
    rw [g.block b (Array.getElem?_eq_some_iff.1 hg).1]
    exact hg
theorem slr_first {α : Type} {P : Program} {R : World → List Value → α → Prop} {w : World} {v : Value} {xs : List α} {sz : Nat} (h : SlR sz R w v xs) {t : TypeId} (ht : P.underlying t = some (.slice (P.elem t))) (hs : ∀ w, (sizeOf (P.elem t)).run P w = .ok sz w) (n : Nat) (hn : n ≤ xs.length) :
    ∃ v', (∀ w', (Instr.slice t v none (some (.int .i64 (n : Int))) none).run P w' = .ok v' w') ∧ SlR sz R w v' (xs.take n) := by
  obtain ⟨rows, h1, h2, h3⟩ := h
  obtain ⟨ao, cap, rfl, hc, hno, hx⟩ := h1.form
  refine ⟨sliced ao 0 n cap sz, fun w' => ?_, rows.take n, ?_, by simp [h2], fun i hi => ?_⟩
  · rw [run_slice_h w' t ao rows.length cap ht .i64 (n : Int) (by omega) (by omega), hs]
    simp [Result.andThen]
  · rcases Nat.eq_zero_or_pos n with h0 | h0
    · subst h0
      refine Or.inl ⟨if cap = 0 then ao else ao.map (·.add (0 * sz)), cap, by simp [sliced], ?_, by simp⟩
      intro he
      by_cases hc0 : cap = 0
      · exact hc0
      · rw [if_neg hc0] at he
        cases ao with
        | none => exact hno rfl
        | some a => cases he
    · obtain ⟨hm, b, off, rfl, hcell⟩ := hx (by omega)
      have hl : (rows.take n).length = n := by simp; omega
      refine Or.inr ⟨b, off, cap, ?_, by omega, by omega, hm, fun i hi => ?_⟩
      · rw [sliced, hl, if_neg (by omega)]
        simp [Addr.add]
      · rw [hl] at hi
        have e : (rows.take n).getD i [] = rows.getD i [] := by
          rw [List.getD_eq_getElem?_getD, List.getD_eq_getElem?_getD, List.getElem?_take, if_pos hi]
        rw [e]
        exact hcell i (by omega)
  · have hi2 : i < n := by simp at hi; omega
    have e : (rows.take n).getD i [] = rows.getD i [] := by
      rw [List.getD_eq_getElem?_getD, List.getD_eq_getElem?_getD, List.getElem?_take, if_pos hi2]
    rw [e, List.getElem_take]
    exact h3 i (by simp at hi; omega)
theorem res_row2 {P : Program} {fn : Func} {p a : Tmp} {ty : TypeId} (h : fn.results = #[.cell p ty, .tmp a]) (tmps : Array Value) (w : World) (g : Nat) (t : TypeId) (cs : Array Value) (fr : Nat × Nat) (d : TypeDesc)
    (hp : tmps.getD p undef = .pointer (some ⟨g, 0, none⟩)) (hg : w.heap[g]? = some (.cells cs t fr))
    (hu : P.underlying ty = some d) (hd : (match d with | .struct _ | .array _ _ => true | _ => false) = true) (hi : (P.info? ty).map (·.size) = some cs.size) :
    (results fn tmps).run P w = .ok (.tuple #[.agg cs, tmps.getD a undef]) w := by
  have hp' : tmps[p]?.getD undef = .pointer (some ⟨g, 0, none⟩) := by simpa using hp
  simp [results, h, hp', asAddr, run_loadVar_row w g t ty cs fr d hg hu hd hi]
theorem res_row3 {P : Program} {fn : Func} {p a b : Tmp} {ty : TypeId} (h : fn.results = #[.cell p ty, .tmp a, .tmp b]) (tmps : Array Value) (w : World) (g : Nat) (t : TypeId) (cs : Array Value) (fr : Nat × Nat) (d : TypeDesc)
    (hp : tmps.getD p undef = .pointer (some ⟨g, 0, none⟩)) (hg : w.heap[g]? = some (.cells cs t fr))
    (hu : P.underlying ty = some d) (hd : (match d with | .struct _ | .array _ _ => true | _ => false) = true) (hi : (P.info? ty).map (·.size) = some cs.size) :
    (results fn tmps).run P w = .ok (.tuple #[.agg cs, tmps.getD a undef, tmps.getD b undef]) w := by
  have hp' : tmps[p]?.getD undef = .pointer (some ⟨g, 0, none⟩) := by simpa using hp
  simp [results, h, hp', asAddr, run_loadVar_row w g t ty cs fr d hg hu hd hi]
theorem set5q {w : World} {b : Nat} {z0 z1 z2 z3 z4 : Value} {T : TypeId} (h : Stands w b #[z0, z1, z2, z3, z4] T) (a0 a1 a2 a3 a4 : Value) :
    Stands (((((w.setCell ⟨b, 0, none⟩ a0).setCell ⟨b, 1, none⟩ a1).setCell ⟨b, 2, none⟩ a2).setCell ⟨b, 3, none⟩ a3).setCell ⟨b, 4, none⟩ a4) b #[a0, a1, a2, a3, a4] T ∧ ∀ Q : World → Prop, (∀ u u', Kept T u u' → Q u → Q u') → Q w → Q (((((w.setCell ⟨b, 0, none⟩ a0).setCell ⟨b, 1, none⟩ a1).setCell ⟨b, 2, none⟩ a2).setCell ⟨b, 3, none⟩ a3).setCell ⟨b, 4, none⟩ a4) := by
  have h0 := h.set 0 a0
  have h1 := h0.set 1 a1
  have h2 := h1.set 2 a2
  have h3 := h2.set 3 a3
  have h4 := h3.set 4 a4
  exact ⟨by simpa only [List.setIfInBounds_toArray, List.set_cons_zero, List.set_cons_succ] using h4, fun Q hQ q => hQ _ _ (set_kept h3 4 a4) (hQ _ _ (set_kept h2 3 a3) (hQ _ _ (set_kept h1 2 a2) (hQ _ _ (set_kept h0 1 a1) (hQ _ _ (set_kept h 0 a0) q))))⟩
end Go.Proofs.YtaiimfdcbdfbdaaDoor
