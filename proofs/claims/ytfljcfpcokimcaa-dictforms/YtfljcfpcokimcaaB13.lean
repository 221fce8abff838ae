/-
  Texts of one proof, laid one behind the other: Pt3 Rt4 Stc.
-/
import Derived.Test.YtfljcfpcokimcaaB12
import Derived.Deep.RegionLaw
import Derived.Shelf.Abstract
namespace Go.Proofs.Ytfljcfpcokimcaa
open Go.ChangeShapes Go.WideShapes Go.ChangeAt Go.RowKit
set_option linter.unusedVariables false
set_option linter.unusedSimpArgs false

/-
  Steps that lead through a device tree, the path of a device, and that its steps lead to it. No Go text in sight.
-/
/-- does a step lead from a to this device -/
def matN (a : Int) (nm un : List Int) (x : Nd) : Bool := decide (x.2.2.1 = a) && (decide (x.1 = nm) && (decide (un = []) || decide (x.2.1 = un)))
/-- where it leads -/
def ldF (t : List Nd) (a : Nat) (x : Sp) : Option Nat := t.findIdx? (matN a x.1 x.2.1)
def finF (t : List Nd) : List Sp → Nat → Option Nat
  | [], a => some a
  | x :: r, a => match ldF t a x with
    | none => none
    | some k => finF t r k
/-- what Find answers -/
def finT (t : List Nd) (l : List Sp) : Int × Int := if frmT t = false then (0, 1) else match finF t l 0 with
  | none => (0, 19)
  | some k => ((k : Nat), 0)
/-- the steps from the root to n -/
def stF (t : List Nd) : Nat → Nat → List Sp
  | 0, _ => []
  | f + 1, n => if n = 0 then [] else match t[n]? with
    | none => []
    | some x => stF t f x.2.2.1.toNat ++ [(x.1, x.2.1, [])]
/-- what Path answers -/
def pthF (t : List Nd) (n : Int) : List Int × Int := if wrgF t n ≠ 0 then ([], wrgF t n) else shpF (stF t n.toNat n.toNat)
/-- an elder brother of its name, where it has no unit address -/
def eldN (t : List Nd) (n : Nat) : Prop := ∃ x, t[n]? = some x ∧ x.2.1 = [] ∧ ∃ (k : Nat) (y : Nd), k < n ∧ t[k]? = some y ∧ y.2.2.1 = x.2.2.1 ∧ y.1 = x.1
/-- none on the way up -/
def noE (t : List Nd) : Nat → Nat → Prop
  | 0, _ => True
  | f + 1, n => n = 0 ∨ ¬ eldN t n ∧ ∀ x, t[n]? = some x → noE t f x.2.2.1.toNat

theorem frm_at {t : List Nd} (hf : frmT t = true) {n : Nat} (h : n < t.length) (h0 : ¬ n = 0) : nmF t[n].1 = true ∧ t[n].2.1.length ≤ 4 ∧ 0 ≤ t[n].2.2.1 ∧ t[n].2.2.1 < n ∧ twF (t.take n) t[n].2.2.1 t[n].1 t[n].2.1 = false := by
  obtain ⟨g0, g1, g2, g3⟩ := (frm_iff t).1 hf
  have := g3 n h
  unfold okN okA at this
  simp only [Bool.and_eq_true, Bool.or_eq_true, decide_eq_true_eq, Bool.not_eq_true'] at this
  rcases this.1 with g | g
  · exact absurd g h0
  · exact ⟨g.1, g.2.1, g.2.2.1, g.2.2.2.1, g.2.2.2.2⟩
theorem st_fuel {t : List Nd} (hf : frmT t = true) : ∀ (f g n : Nat), n < t.length → n ≤ f → n ≤ g → stF t f n = stF t g n
  | 0, 0, n, _, _, _ => rfl
  | 0, g + 1, n, _, h1, _ => by
    have : n = 0 := by omega
    subst this
    simp [stF]
  | f + 1, 0, n, _, _, h2 => by
    have : n = 0 := by omega
    subst this
    simp [stF]
  | f + 1, g + 1, n, h, h1, h2 => by
    simp only [stF]
    by_cases h0 : n = 0
    · simp [h0]
    · rw [if_neg h0, if_neg h0, List.getElem?_eq_getElem h]
      obtain ⟨_, _, p0, p1, _⟩ := frm_at hf h h0
      simp only
      rw [st_fuel hf f g _ (by omega) (by omega) (by omega)]
theorem st_root (t : List Nd) (f : Nat) : stF t f 0 = [] := by cases f <;> simp [stF]
theorem st_step {t : List Nd} (hf : frmT t = true) {n : Nat} (h : n < t.length) (h0 : ¬ n = 0) : stF t n n = stF t t[n].2.2.1.toNat t[n].2.2.1.toNat ++ [(t[n].1, t[n].2.1, [])] := by
  obtain ⟨_, _, p0, p1, _⟩ := frm_at hf h h0
  obtain ⟨f, rfl⟩ : ∃ f, n = f + 1 := ⟨n - 1, by omega⟩
  conv => lhs; rw [stF]
  rw [if_neg h0, List.getElem?_eq_getElem h]
  simp only
  rw [st_fuel hf f t[f + 1].2.2.1.toNat _ (by omega) (by omega) (Nat.le_refl _)]
theorem st_len {t : List Nd} (hf : frmT t = true) : ∀ n, n < t.length → (stF t n n).length ≤ n := by
  intro n
  induction n using Nat.strongRecOn with
  | _ n ih =>
    intro h
    by_cases h0 : n = 0
    · subst h0; simp [stF]
    · obtain ⟨_, _, p0, p1, _⟩ := frm_at hf h h0
      rw [st_step hf h h0]
      have := ih t[n].2.2.1.toNat (by omega) (by omega)
      simp
      omega
theorem st_ok {t : List Nd} (hf : frmT t = true) : ∀ n, n < t.length → ∀ x ∈ stF t n n, okS x = true ∧ ∃ y ∈ t, x.1 = y.1 ∧ x.2.1 = y.2.1 ∧ x.2.2 = [] := by
  intro n
  induction n using Nat.strongRecOn with
  | _ n ih =>
    intro h x hx
    by_cases h0 : n = 0
    · subst h0; simp [stF] at hx
    · obtain ⟨q1, q2, p0, p1, _⟩ := frm_at hf h h0
      rw [st_step hf h h0, List.mem_append] at hx
      rcases hx with hx | hx
      · exact ih t[n].2.2.1.toNat (by omega) (by omega) x hx
      · simp at hx
        subst hx
        refine ⟨?_, t[n], List.getElem_mem h, rfl, rfl, rfl⟩
        unfold okS
        simp [q1, q2]
theorem fin_app (t : List Nd) (x : Sp) : ∀ (l : List Sp) (a : Nat), finF t (l ++ [x]) a = (finF t l a).bind (fun b => ldF t b x)
  | [], a => by
    simp only [List.nil_append, finF, Option.bind_some]
    cases ldF t a x <;> rfl
  | y :: l, a => by
    simp only [List.cons_append, finF]
    cases ldF t a y with
    | none => rfl
    | some k => exact fin_app t x l k
theorem ld_hit {t : List Nd} (hf : frmT t = true) {n : Nat} (h : n < t.length) (h0 : ¬ n = 0) (he : ¬ eldN t n) : ldF t t[n].2.2.1.toNat (t[n].1, t[n].2.1, []) = some n := by
  obtain ⟨q1, q2, p0, p1, tw⟩ := frm_at hf h h0
  unfold ldF
  rw [List.findIdx?_eq_some_iff_getElem]
  have hp : ((t[n].2.2.1.toNat : Nat) : Int) = t[n].2.2.1 := by omega
  refine ⟨h, by simp [matN, hp], fun j hj => ?_⟩
  intro hm
  unfold matN at hm
  rw [hp] at hm
  simp only [Bool.and_eq_true, Bool.or_eq_true, decide_eq_true_eq] at hm
  obtain ⟨m1, m2, m3⟩ := hm
  by_cases hu : t[n].2.1 = []
  · exact he ⟨t[n], List.getElem?_eq_getElem h, hu, j, t[j], hj, List.getElem?_eq_getElem (by omega), m1, m2⟩
  · rcases m3 with m3 | m3
    · exact hu m3
    · unfold twF at tw
      rw [List.any_eq_false] at tw
      apply tw t[j] (by rw [List.mem_take_iff_getElem]; exact ⟨j, by omega, rfl⟩)
      simp [m1, m2, m3]
/-- the steps of a device lead to it -/
theorem fin_back {t : List Nd} (hf : frmT t = true) : ∀ n, n < t.length → ∀ f, n ≤ f → noE t f n → finF t (stF t n n) 0 = some n := by
  intro n
  induction n using Nat.strongRecOn with
  | _ n ih =>
    intro h f hfu hE
    by_cases h0 : n = 0
    · subst h0
      simp [stF, finF]
    · obtain ⟨q1, q2, p0, p1, tw⟩ := frm_at hf h h0
      obtain ⟨g, rfl⟩ : ∃ g, f = g + 1 := ⟨f - 1, by omega⟩
      rcases hE with hE | ⟨e1, e2⟩
      · exact absurd hE h0
      · have i := ih t[n].2.2.1.toNat (by omega) (by omega) g (by omega) (e2 t[n] (List.getElem?_eq_getElem h))
        rw [st_step hf h h0, fin_app, i]
        exact ld_hit hf h h0 e1
theorem st_last {t : List Nd} (hf : frmT t = true) {n : Nat} (h : n < t.length) (h0 : ¬ n = 0) : ∃ l, stF t n n = l ++ [(t[n].1, t[n].2.1, [])] := ⟨_, st_step hf h h0⟩
theorem pth_err {t : List Nd} {n : Int} : (pthF t n).2 = 0 ∨ (pthF t n).1 = [] := by
  unfold pthF
  split
  · exact Or.inr rfl
  · have h : ∀ l : List Sp, (shpF l).2 = 0 ∨ (shpF l).1 = [] := by
      intro l
      unfold shpF
      split
      · exact Or.inr rfl
      · split
        · exact Or.inl rfl
        · split
          · exact Or.inr rfl
          · exact Or.inl rfl
    exact h _

/-
  wrong, Get, Next, Children of the document's answer for trees.
-/


/-
  A call of a Go function as one step of a region that draws its order.
-/
theorem step_call {P : Program} {ops : Array Oper} {w : World} {o : Oper} {a : Act} {K : Act → World → Prop} {Q : Exit → Act → World → Prop} {E : Prop} (hgd : o.guard = none) (f : Nat) (x : Operand) (t : TypeId)
    (hop : o.op = .call { callee := .value (.func f), args := #[x], argTypes := #[t] }) (hent : ∀ args w, (callFunc f args).run P w = .ok (.enter f args) w) (vx : Value) (hx : a.eval x = vx)
    (hc : Calls P f #[vx] w fun e w' => ∃ v, e = .returned v ∧ K (a.put o.dst v) w') :
    if Region.wanted o (yielded ops a.tmps) = true then Oper.wp P o a w K Q else E := by
  rw [if_pos (by simp [Region.wanted, hgd])]
  unfold Oper.wp
  have he : a.eval (.func f) = .func (.func f) #[] #[] := rfl
  simp [execOp, hop, resolve, invoke, hx, he, hent, Deferred.ofValue]
  rw [Oper.upon_enter]
  refine hc.mono ?_
  rintro e w' ⟨v, rfl, h⟩
  exact h

end Go.Proofs.Ytfljcfpcokimcaa
