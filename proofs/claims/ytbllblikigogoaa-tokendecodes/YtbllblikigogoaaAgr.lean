/-
  What reads the same whatever is written into some blocks: those of some kinds (K), or of some numbers (D). No Go text in sight.
-/
import Derived.Test.YtbllblikigogoaaAbg
namespace Go.Proofs.Ytbllblikigogoaa
open Go.ChangeShapes Go.WideShapes Go.ChangeAt Go.RowKit
set_option linter.unusedVariables false
set_option linter.unusedSimpArgs false

/-- among the old blocks only those of a kind in K or of a number in D have been written -/
structure Agr (K : TypeId → Bool) (D : Nat → Prop) (w w' : World) : Prop where
  os : w'.os = w.os
  tape : w'.tape = w.tape
  output : w'.output = w.output
  size : w.heap.size ≤ w'.heap.size
  block : ∀ (k : Nat) cs T fr, w.heap[k]? = some (Obj.cells cs T fr) → K T = false → ¬ D k → w'.heap[k]? = w.heap[k]?
theorem Agr.refl (K : TypeId → Bool) (D : Nat → Prop) (w : World) : Agr K D w w := ⟨rfl, rfl, rfl, Nat.le_refl _, fun _ _ _ _ _ _ _ => rfl⟩
theorem Agr.trans {K : TypeId → Bool} {D : Nat → Prop} {a b c : World} (h : Agr K D a b) (g : Agr K D b c) : Agr K D a c :=
  ⟨g.os.trans h.os, g.tape.trans h.tape, g.output.trans h.output, Nat.le_trans h.size g.size, fun k cs T fr e t d => by
    have e1 := h.block k cs T fr e t d
    rw [g.block k cs T fr (by rw [e1]; exact e) t d, e1]⟩
theorem heap_lt' {w : World} {k : Nat} {o : Obj} (h : w.heap[k]? = some o) : k < w.heap.size := (Array.getElem?_eq_some_iff.1 h).1
theorem Agr.below {K : TypeId → Bool} {D : Nat → Prop} {w w' : World} (h : Below w.heap.size w w') : Agr K D w w' := ⟨h.os, h.tape, h.output, h.size, fun k cs T fr e _ _ => h.block k (heap_lt' e)⟩
theorem Agr.kept {K : TypeId → Bool} {D : Nat → Prop} {T : TypeId} {w w' : World} (k : Kept T w w') (hT : K T = true) : Agr K D w w' := by
  obtain ⟨row, g, hr⟩ := k
  refine ⟨g.os, g.tape, g.output, g.size, fun k cs T' fr e t _ => g.block k (heap_lt' e) (fun e2 => ?_)⟩
  obtain ⟨cur, fr', e3⟩ := hr k e2.symm
  rw [e] at e3
  injection e3 with e3
  injection e3 with _ e4
  rw [e4, hT] at t
  cases t
theorem Agr.grown {K : TypeId → Bool} {D : Nat → Prop} {w w' : World} {r : Option Nat} (g : w.grownBy w' r) (hr : ∀ k, r = some k → D k) : Agr K D w w' :=
  ⟨g.os, g.tape, g.output, g.size, fun k cs T fr e t d => g.block k (heap_lt' e) (fun e2 => d (hr k e2.symm))⟩
theorem Agr.mono {K K' : TypeId → Bool} {D D' : Nat → Prop} {w w' : World} (h : Agr K D w w') (hK : ∀ T, K' T = false → K T = false) (hD : ∀ k, k < w.heap.size → D k → D' k) : Agr K' D' w w' :=
  ⟨h.os, h.tape, h.output, h.size, fun k cs T fr e t d => h.block k cs T fr e (hK T t) (fun q => d (hD k (heap_lt' e) q))⟩
theorem Agr.set {K : TypeId → Bool} {D : Nat → Prop} (w : World) (q j : Nat) (u : Value) (hq : D q) : Agr K D w (w.setCell ⟨q, j, none⟩ u) :=
  ⟨rfl, rfl, rfl, by simp [World.setCell], fun k cs T fr e t d => Below.heap_setCell _ _ _ k (fun e2 => d (by have e3 : k = q := e2; rw [e3]; exact hq))⟩
/-- what stays so -/
def Stb (K : TypeId → Bool) (D : Nat → Prop) (w : World) (φ : World → Prop) : Prop := ∀ w', Agr K D w w' → φ w'
theorem Stb.now {K : TypeId → Bool} {D : Nat → Prop} {w : World} {φ : World → Prop} (h : Stb K D w φ) : φ w := h w (Agr.refl _ _ _)
theorem Stb.agr {K : TypeId → Bool} {D : Nat → Prop} {w w' : World} {φ : World → Prop} (h : Stb K D w φ) (g : Agr K D w w') : Stb K D w' φ := fun w2 g2 => h w2 (g.trans g2)
theorem Stb.below {K : TypeId → Bool} {D : Nat → Prop} {w w' : World} {φ : World → Prop} (h : Stb K D w φ) (g : Below w.heap.size w w') : Stb K D w' φ := h.agr (Agr.below g)
theorem Stb.imp {K : TypeId → Bool} {D : Nat → Prop} {w : World} {φ ψ : World → Prop} (h : Stb K D w φ) (f : ∀ w', φ w' → ψ w') : Stb K D w ψ := fun w' g => f w' (h w' g)
theorem Stb.and {K : TypeId → Bool} {D : Nat → Prop} {w : World} {φ ψ : World → Prop} (h : Stb K D w φ) (g : Stb K D w ψ) : Stb K D w (fun u => φ u ∧ ψ u) := fun w' q => ⟨h w' q, g w' q⟩
theorem Stb.const {K : TypeId → Bool} {D : Nat → Prop} {w : World} {φ : World → Prop} (h : ∀ w', φ w') : Stb K D w φ := fun w' _ => h w'
/-- fewer kinds and blocks; also more of them, if they are new -/
theorem Stb.mono {K K' : TypeId → Bool} {D D' : Nat → Prop} {w : World} {φ : World → Prop} (h : Stb K D w φ) (hK : ∀ T, K T = false → K' T = false) (hD : ∀ k, k < w.heap.size → D' k → D k) : Stb K' D' w φ :=
  fun w' g => h w' (g.mono hK hD)
theorem agr_cell {K : TypeId → Bool} {D : Nat → Prop} {w w' : World} (g : Agr K D w w') {b j : Nat} {u : Value} {cs : Array Value} {T : TypeId} {fr : Nat × Nat} (hb : w.heap[b]? = some (.cells cs T fr)) (hT : K T = false) (hd : ¬ D b) (hc : w.cell? ⟨b, j, none⟩ = some u) : w'.cell? ⟨b, j, none⟩ = some u := by
  have e := g.block b cs T fr hb hT hd
  unfold World.cell? at hc ⊢
  simp only at hc ⊢
  rw [e]
  exact hc
/-- a slice value that lies in a block of kind e, from a bound on, if it lies anywhere -/
def Nw (B : Nat) (e : TypeId) (w : World) (v : Value) : Prop := ∀ k, v.ownBlock = some k → B ≤ k ∧ ∃ cs fr, w.heap[k]? = some (.cells cs e fr)
theorem Nw.nil (B : Nat) (e : TypeId) (w : World) : Nw B e w (.slice none 0 0) := fun k hk => by cases hk
theorem Nw.own {B : Nat} {e : TypeId} {sz : Nat} {w : World} {v : Value} {n : Nat} {cs : List Value} (o : w.ownsRow B e sz v n cs) : Nw B e w v := by
  intro k hk
  obtain ⟨_, o⟩ := o
  rcases o with ⟨rfl, _⟩ | ⟨g, cap, cur, rfl, hb, h1, _⟩
  · cases hk
  · simp [Value.ownBlock] at hk
    subst hk
    exact ⟨hb, cur, _, h1⟩
theorem Nw.below {B : Nat} {e : TypeId} {w w' : World} {v : Value} (h : Nw B e w v) (g : Below w.heap.size w w') : Nw B e w' v := by
  intro k hk
  obtain ⟨h1, cs, fr, h2⟩ := h k hk
  exact ⟨h1, cs, fr, by rw [g.block k (heap_lt' h2)]; exact h2⟩
theorem Nw.le {B B' : Nat} {e : TypeId} {w : World} {v : Value} (h : Nw B e w v) (hb : B' ≤ B) : Nw B' e w v := fun k hk => ⟨Nat.le_trans hb (h k hk).1, (h k hk).2⟩
theorem rd_stb {K : TypeId → Bool} {D : Nat → Prop} {k : IntKind} {B : Nat} {e : TypeId} {w : World} {v : Value} {xs : List Int} (h : Rd k w v xs) (n : Nw B e w v) (hK : K e = false) (hD : ∀ b, D b → b < B) : Stb K D w (fun u => Rd k u v xs) := by
  intro w' g
  rcases h with h | ⟨b, off, cap, rfl, h0, h1, h2, hc⟩
  · exact Or.inl h
  · obtain ⟨n1, cs, fr, n2⟩ := n b rfl
    exact Or.inr ⟨b, off, cap, rfl, h0, h1, h2, fun i hi => agr_cell g n2 hK (fun d => by have := hD b d; omega) (hc i hi)⟩
/-- rows of the call's own, where D lies below them -/
theorem own_agr {K : TypeId → Bool} {D : Nat → Prop} {B : Nat} {e : TypeId} {sz : Nat} {w w' : World} {v : Value} {n : Nat} {cs : List Value} (g : Agr K D w w') (hK : K e = false) (hD : ∀ b, v.ownBlock = some b → ¬ D b) (o : w.ownsRow B e sz v n cs) : w'.ownsRow B e sz v n cs := by
  obtain ⟨hl, o⟩ := o
  refine ⟨hl, ?_⟩
  rcases o with h | ⟨b, cap, cur, rfl, h1, h2, h3⟩
  · exact Or.inl h
  · exact Or.inr ⟨b, cap, cur, rfl, h1, by rw [g.block b _ _ _ h2 hK (hD b rfl)]; exact h2, h3⟩
theorem OwnR.agr {α : Type} {K : TypeId → Bool} {D : Nat → Prop} {e : TypeId} {sz : Nat} {O : World → List Value → α → Prop} {base : Nat} {w w' : World} {v : Value} {xs : List α} (h : OwnR e sz O base w v xs) (g : Agr K D w w') (hK : K e = false) (hD : ∀ b, D b → b < base) (hO : ∀ cs x, O w cs x → O w' cs x) : OwnR e sz O base w' v xs := by
  obtain ⟨rows, h1, h2, h3, h4⟩ := h
  exact ⟨rows, h1, h2, own_agr g hK (fun b hb d => by have := (h3.lt b hb).1; have := hD b d; omega) h3, fun i hi => hO _ _ (h4 i hi)⟩
theorem own_stb {K : TypeId → Bool} {D : Nat → Prop} {B : Nat} {e : TypeId} {sz : Nat} {w : World} {v : Value} {n : Nat} {cs : List Value} (o : w.ownsRow B e sz v n cs) (hK : K e = false) (hD : ∀ b, D b → b < B) : Stb K D w (fun u => u.ownsRow B e sz v n cs) :=
  fun w' g => own_agr g hK (fun b hb d => by have := (o.lt b hb).1; have := hD b d; omega) o
theorem Stands.agr {K : TypeId → Bool} {D : Nat → Prop} {w w' : World} {b : Nat} {cs : Array Value} {T : TypeId} (h : Stands w b cs T) (g : Agr K D w w') (hK : K T = false) (hD : ¬ D b) : Stands w' b cs T := by
  unfold Stands at h ⊢
  rw [g.block b _ _ _ h hK hD]
  exact h
end Go.Proofs.Ytbllblikigogoaa
