/-
  Texts of one proof, laid one behind the other: Rt3 Pt3 Rt4 Stc Rt7 Rdb Abv Rt8 Rta Rtb Rtc Dpr Seq Rd2 Rd3 Rd4 Rd5 Rd7 Rdc.
-/
import Derived.Test.YtfljcfpcokimcabB4
import Derived.Deep.RegionLaw
import Derived.Shelf.Abstract
import Derived.Deep.RegionHeld
import Derived.Deep.Cut
import Derived.Deep.CutRange
import Derived.Deep.DeepCutAuto
import Derived.Test.YtfljcfpcokimcabProg
import Derived.WalkKit
import Derived.Laws.StructEq
import Derived.ChangeKeysEq
import Derived.Laws.Rows
namespace Go.Proofs.Ytfljcfpcokimcab
open Go.ChangeShapes Go.WideShapes Go.ChangeAt Go.RowKit
set_option linter.unusedVariables false
set_option linter.unusedSimpArgs false

/-
  Formed of the document's answer for trees.
-/
/-- the first ones of a slice -/
theorem slr_head {α : Type} {P : Program} {R : World → List Value → α → Prop} {w : World} {v : Value} {xs : List α} {sz : Nat} (h : SlR sz R w v xs) {t : TypeId} (ht : P.underlying t = some (.slice (P.elem t))) (hs : ∀ w, (sizeOf (P.elem t)).run P w = .ok sz w) (n : Nat) (hn : n ≤ xs.length) :
    ∃ v', (∀ w', (Instr.slice t v none (some (.int .i64 (n : Int))) none).run P w' = .ok v' w') ∧ SlR sz R w v' (xs.take n) := by
  obtain ⟨rows, h1, h2, h3⟩ := h
  obtain ⟨ao, cap, rfl, hc, hno, hx⟩ := h1.form
  refine ⟨sliced ao 0 n cap sz, fun w' => ?_, rows.take n, ?_, by simp [h2], fun i hi => ?_⟩
  · rw [run_slice_h w' t ao rows.length cap ht .i64 (n : Int) (by omega) (by omega), hs]
    simp [Result.andThen]
  · rcases Nat.eq_zero_or_pos n with h0 | h0
    · subst h0
      refine Or.inl ⟨if cap = 0 then ao else ao.map (·.add (0 * sz)), cap, by simp [sliced], ?_, by simp⟩
      intro he
      by_cases hc0 : cap = 0
      · exact hc0
      · rw [if_neg hc0] at he
        cases ao with
        | none => exact hno rfl
        | some a => cases he
    · obtain ⟨hm, b, off, rfl, hcell⟩ := hx (by omega)
      have hl : (rows.take n).length = n := by simp; omega
      refine Or.inr ⟨b, off, cap, ?_, by omega, by omega, hm, fun i hi => ?_⟩
      · rw [sliced, hl, if_neg (by omega)]
        simp [Addr.add]
      · rw [hl] at hi
        have e : (rows.take n).getD i [] = rows.getD i [] := by
          rw [List.getD_eq_getElem?_getD, List.getD_eq_getElem?_getD, List.getElem?_take, if_pos hi]
        rw [e]
        exact hcell i (by omega)
  · have hi2 : i < n := by simp at hi; omega
    have e : (rows.take n).getD i [] = rows.getD i [] := by
      rw [List.getD_eq_getElem?_getD, List.getD_eq_getElem?_getD, List.getElem?_take, if_pos hi2]
    rw [e, List.getElem_take]
    exact h3 i (by simp at hi; omega)
theorem frm_bad {t : List Nd} (i : Nat) (h : i < t.length) (hb : okN t i t[i] = false) : frmT t = false := by
  rw [Bool.eq_false_iff]
  intro hf
  obtain ⟨_, _, _, g⟩ := (frm_iff t).1 hf
  have := g i h
  rw [hb] at this
  cases this
theorem frm_len {t : List Nd} (h : t.length = 0 ∨ 32 < t.length) : frmT t = false := by
  rw [Bool.eq_false_iff]
  intro hf
  obtain ⟨g0, g1, _⟩ := (frm_iff t).1 hf
  omega
theorem frm_root {t : List Nd} (h : 0 < t.length) (hb : rootF t[0] = false) : frmT t = false := by
  rw [Bool.eq_false_iff]
  intro hf
  obtain ⟨_, _, g, _⟩ := (frm_iff t).1 hf
  rw [hb] at g
  cases g
theorem okN_A {t : List Nd} {i : Nat} {x : Nd} (h0 : ¬ i = 0) (h : okA t i x = false) : okN t i x = false := by
  unfold okN
  rw [h, decide_eq_false h0]
  rfl
theorem okN_16 {t : List Nd} {i : Nat} {x : Nd} (h : 16 < x.2.2.2.1.length ∨ 16 < x.2.2.2.2.length) : okN t i x = false := by
  rw [Bool.eq_false_iff]
  intro g
  unfold okN at g
  simp only [Bool.and_eq_true, decide_eq_true_eq] at g
  omega
theorem okN_R {t : List Nd} {i : Nat} {x : Nd} (h : okR x.2.2.2.1 = false) : okN t i x = false := by
  unfold okN
  rw [h]
  simp
theorem okR_bad {l : List Pp} (k : Nat) (h : k < l.length) (hb : okP l k l[k] = false) : okR l = false := by
  rw [Bool.eq_false_iff]
  intro g
  unfold okR at g
  rw [decide_eq_true_eq] at g
  have := g k h
  rw [hb] at this
  cases this
theorem okA_bad {t : List Nd} {i : Nat} {x : Nd} (h : nmF x.1 = false ∨ 4 < x.2.1.length ∨ x.2.2.1 < 0 ∨ (i : Int) ≤ x.2.2.1 ∨ twF (t.take i) x.2.2.1 x.1 x.2.1 = true) : okA t i x = false := by
  rw [Bool.eq_false_iff]
  intro g
  unfold okA at g
  simp only [Bool.and_eq_true, decide_eq_true_eq, Bool.not_eq_true'] at g
  obtain ⟨g1, g2, g3, g4, g5⟩ := g
  rcases h with h | h | h | h | h
  · rw [g1] at h; cases h
  · omega
  · omega
  · omega
  · rw [g5] at h; cases h
theorem okP_bad {l : List Pp} {k : Nat} {x : Pp} (h : nmF x.1 = false ∨ 256 < x.2.length ∨ (0 : Int) ≤ fdI (pfF (l.take k) x.1)) : okP l k x = false := by
  rw [Bool.eq_false_iff]
  intro g
  unfold okP at g
  simp only [Bool.and_eq_true, decide_eq_true_eq, Option.isNone_iff_eq_none] at g
  obtain ⟨g1, g2, g3⟩ := g
  rcases h with h | h | h
  · rw [g1] at h; cases h
  · omega
  · rw [g3] at h
    unfold fdI at h
    simp at h
theorem okP_good {l : List Pp} {k : Nat} {x : Pp} (h1 : nmF x.1 = true) (h2 : ¬ 256 < x.2.length) (h3 : ¬ (0 : Int) ≤ fdI (pfF (l.take k) x.1)) : okP l k x = true := by
  unfold okP
  simp only [Bool.and_eq_true, decide_eq_true_eq, Option.isNone_iff_eq_none]
  refine ⟨h1, by omega, ?_⟩
  cases hp : pfF (l.take k) x.1 with
  | none => rfl
  | some j =>
    rw [hp] at h3
    unfold fdI at h3
    simp at h3

/-
  Steps that lead through a device tree, the path of a device, and that its steps lead to it. No Go text in sight.
-/
/-- does a step lead from a to this device -/
def matN (a : Int) (nm un : List Int) (x : Nd) : Bool := decide (x.2.2.1 = a) && (decide (x.1 = nm) && (decide (un = []) || decide (x.2.1 = un)))
/-- where it leads -/
def ldF (t : List Nd) (a : Nat) (x : Sp) : Option Nat := t.findIdx? (matN a x.1 x.2.1)
def finF (t : List Nd) : List Sp → Nat → Option Nat
  | [], a => some a
  | x :: r, a => match ldF t a x with
    | none => none
    | some k => finF t r k
/-- what Find answers -/
def finT (t : List Nd) (l : List Sp) : Int × Int := if frmT t = false then (0, 1) else match finF t l 0 with
  | none => (0, 19)
  | some k => ((k : Nat), 0)
/-- the steps from the root to n -/
def stF (t : List Nd) : Nat → Nat → List Sp
  | 0, _ => []
  | f + 1, n => if n = 0 then [] else match t[n]? with
    | none => []
    | some x => stF t f x.2.2.1.toNat ++ [(x.1, x.2.1, [])]
/-- what Path answers -/
def pthF (t : List Nd) (n : Int) : List Int × Int := if wrgF t n ≠ 0 then ([], wrgF t n) else shpF (stF t n.toNat n.toNat)
/-- an elder brother of its name, where it has no unit address -/
def eldN (t : List Nd) (n : Nat) : Prop := ∃ x, t[n]? = some x ∧ x.2.1 = [] ∧ ∃ (k : Nat) (y : Nd), k < n ∧ t[k]? = some y ∧ y.2.2.1 = x.2.2.1 ∧ y.1 = x.1
/-- none on the way up -/
def noE (t : List Nd) : Nat → Nat → Prop
  | 0, _ => True
  | f + 1, n => n = 0 ∨ ¬ eldN t n ∧ ∀ x, t[n]? = some x → noE t f x.2.2.1.toNat

theorem frm_at {t : List Nd} (hf : frmT t = true) {n : Nat} (h : n < t.length) (h0 : ¬ n = 0) : nmF t[n].1 = true ∧ t[n].2.1.length ≤ 4 ∧ 0 ≤ t[n].2.2.1 ∧ t[n].2.2.1 < n ∧ twF (t.take n) t[n].2.2.1 t[n].1 t[n].2.1 = false := by
  obtain ⟨g0, g1, g2, g3⟩ := (frm_iff t).1 hf
  have := g3 n h
  unfold okN okA at this
  simp only [Bool.and_eq_true, Bool.or_eq_true, decide_eq_true_eq, Bool.not_eq_true'] at this
  rcases this.1 with g | g
  · exact absurd g h0
  · exact ⟨g.1, g.2.1, g.2.2.1, g.2.2.2.1, g.2.2.2.2⟩
theorem st_fuel {t : List Nd} (hf : frmT t = true) : ∀ (f g n : Nat), n < t.length → n ≤ f → n ≤ g → stF t f n = stF t g n
  | 0, 0, n, _, _, _ => rfl
  | 0, g + 1, n, _, h1, _ => by
    have : n = 0 := by omega
    subst this
    simp [stF]
  | f + 1, 0, n, _, _, h2 => by
    have : n = 0 := by omega
    subst this
    simp [stF]
  | f + 1, g + 1, n, h, h1, h2 => by
    simp only [stF]
    by_cases h0 : n = 0
    · simp [h0]
    · rw [if_neg h0, if_neg h0, List.getElem?_eq_getElem h]
      obtain ⟨_, _, p0, p1, _⟩ := frm_at hf h h0
      simp only
      rw [st_fuel hf f g _ (by omega) (by omega) (by omega)]
theorem st_root (t : List Nd) (f : Nat) : stF t f 0 = [] := by cases f <;> simp [stF]
theorem st_step {t : List Nd} (hf : frmT t = true) {n : Nat} (h : n < t.length) (h0 : ¬ n = 0) : stF t n n = stF t t[n].2.2.1.toNat t[n].2.2.1.toNat ++ [(t[n].1, t[n].2.1, [])] := by
  obtain ⟨_, _, p0, p1, _⟩ := frm_at hf h h0
  obtain ⟨f, rfl⟩ : ∃ f, n = f + 1 := ⟨n - 1, by omega⟩
  conv => lhs; rw [stF]
  rw [if_neg h0, List.getElem?_eq_getElem h]
  simp only
  rw [st_fuel hf f t[f + 1].2.2.1.toNat _ (by omega) (by omega) (Nat.le_refl _)]
theorem st_len {t : List Nd} (hf : frmT t = true) : ∀ n, n < t.length → (stF t n n).length ≤ n := by
  intro n
  induction n using Nat.strongRecOn with
  | _ n ih =>
    intro h
    by_cases h0 : n = 0
    · subst h0; simp [stF]
    · obtain ⟨_, _, p0, p1, _⟩ := frm_at hf h h0
      rw [st_step hf h h0]
      have := ih t[n].2.2.1.toNat (by omega) (by omega)
      simp
      omega
theorem st_ok {t : List Nd} (hf : frmT t = true) : ∀ n, n < t.length → ∀ x ∈ stF t n n, okS x = true ∧ ∃ y ∈ t, x.1 = y.1 ∧ x.2.1 = y.2.1 ∧ x.2.2 = [] := by
  intro n
  induction n using Nat.strongRecOn with
  | _ n ih =>
    intro h x hx
    by_cases h0 : n = 0
    · subst h0; simp [stF] at hx
    · obtain ⟨q1, q2, p0, p1, _⟩ := frm_at hf h h0
      rw [st_step hf h h0, List.mem_append] at hx
      rcases hx with hx | hx
      · exact ih t[n].2.2.1.toNat (by omega) (by omega) x hx
      · simp at hx
        subst hx
        refine ⟨?_, t[n], List.getElem_mem h, rfl, rfl, rfl⟩
        unfold okS
        simp [q1, q2]
theorem fin_app (t : List Nd) (x : Sp) : ∀ (l : List Sp) (a : Nat), finF t (l ++ [x]) a = (finF t l a).bind (fun b => ldF t b x)
  | [], a => by
    simp only [List.nil_append, finF, Option.bind_some]
    cases ldF t a x <;> rfl
  | y :: l, a => by
    simp only [List.cons_append, finF]
    cases ldF t a y with
    | none => rfl
    | some k => exact fin_app t x l k
theorem ld_hit {t : List Nd} (hf : frmT t = true) {n : Nat} (h : n < t.length) (h0 : ¬ n = 0) (he : ¬ eldN t n) : ldF t t[n].2.2.1.toNat (t[n].1, t[n].2.1, []) = some n := by
  obtain ⟨q1, q2, p0, p1, tw⟩ := frm_at hf h h0
  unfold ldF
  rw [List.findIdx?_eq_some_iff_getElem]
  have hp : ((t[n].2.2.1.toNat : Nat) : Int) = t[n].2.2.1 := by omega
  refine ⟨h, by simp [matN, hp], fun j hj => ?_⟩
  intro hm
  unfold matN at hm
  rw [hp] at hm
  simp only [Bool.and_eq_true, Bool.or_eq_true, decide_eq_true_eq] at hm
  obtain ⟨m1, m2, m3⟩ := hm
  by_cases hu : t[n].2.1 = []
  · exact he ⟨t[n], List.getElem?_eq_getElem h, hu, j, t[j], hj, List.getElem?_eq_getElem (by omega), m1, m2⟩
  · rcases m3 with m3 | m3
    · exact hu m3
    · unfold twF at tw
      rw [List.any_eq_false] at tw
      apply tw t[j] (by rw [List.mem_take_iff_getElem]; exact ⟨j, by omega, rfl⟩)
      simp [m1, m2, m3]
/-- the steps of a device lead to it -/
theorem fin_back {t : List Nd} (hf : frmT t = true) : ∀ n, n < t.length → ∀ f, n ≤ f → noE t f n → finF t (stF t n n) 0 = some n := by
  intro n
  induction n using Nat.strongRecOn with
  | _ n ih =>
    intro h f hfu hE
    by_cases h0 : n = 0
    · subst h0
      simp [stF, finF]
    · obtain ⟨q1, q2, p0, p1, tw⟩ := frm_at hf h h0
      obtain ⟨g, rfl⟩ : ∃ g, f = g + 1 := ⟨f - 1, by omega⟩
      rcases hE with hE | ⟨e1, e2⟩
      · exact absurd hE h0
      · have i := ih t[n].2.2.1.toNat (by omega) (by omega) g (by omega) (e2 t[n] (List.getElem?_eq_getElem h))
        rw [st_step hf h h0, fin_app, i]
        exact ld_hit hf h h0 e1
theorem st_last {t : List Nd} (hf : frmT t = true) {n : Nat} (h : n < t.length) (h0 : ¬ n = 0) : ∃ l, stF t n n = l ++ [(t[n].1, t[n].2.1, [])] := ⟨_, st_step hf h h0⟩
theorem pth_err {t : List Nd} {n : Int} : (pthF t n).2 = 0 ∨ (pthF t n).1 = [] := by
  unfold pthF
  split
  · exact Or.inr rfl
  · have h : ∀ l : List Sp, (shpF l).2 = 0 ∨ (shpF l).1 = [] := by
      intro l
      unfold shpF
      split
      · exact Or.inr rfl
      · split
        · exact Or.inl rfl
        · split
          · exact Or.inr rfl
          · exact Or.inl rfl
    exact h _

/-
  wrong, Get, Next, Children of the document's answer for trees.
-/


/-
  A call of a Go function as one step of a region that draws its order.
-/
theorem step_call {P : Program} {ops : Array Oper} {w : World} {o : Oper} {a : Act} {K : Act → World → Prop} {Q : Exit → Act → World → Prop} {E : Prop} (hgd : o.guard = none) (f : Nat) (x : Operand) (t : TypeId)
    (hop : o.op = .call { callee := .value (.func f), args := #[x], argTypes := #[t] }) (hent : ∀ args w, (callFunc f args).run P w = .ok (.enter f args) w) (vx : Value) (hx : a.eval x = vx)
    (hc : Calls P f #[vx] w fun e w' => ∃ v, e = .returned v ∧ K (a.put o.dst v) w') :
    if Region.wanted o (yielded ops a.tmps) = true then Oper.wp P o a w K Q else E := by
  rw [if_pos (by simp [Region.wanted, hgd])]
  unfold Oper.wp
  have he : a.eval (.func f) = .func (.func f) #[] #[] := rfl
  simp [execOp, hop, resolve, invoke, hx, he, hent, Deferred.ofValue]
  rw [Oper.upon_enter]
  refine hc.mono ?_
  rintro e w' ⟨v, rfl, h⟩
  exact h

/-
  Copy of the document's answer for trees.
-/
theorem infoNode : (Try.prog.info? 70).map (fun i => (i.zero, i.size, i.bytes)) = some (some (.agg #[.string ⟨#[]⟩, .slice none 0 0, .int .i64 0, .slice none 0 0, .slice none 0 0]), 5, 96) := by kernel_rfl
theorem infoProp : (Try.prog.info? 91).map (fun i => (i.zero, i.size, i.bytes)) = some (some (.agg #[.string ⟨#[]⟩, .slice none 0 0]), 2, 40) := by kernel_rfl

/-- no two devices' properties lie in one block -/
def SepR (rows : List (List Value)) : Prop := ∀ i j g, i < j → j < rows.length → ((rows.getD i []).getD 3 (.slice none 0 0)).ownBlock = some g → ((rows.getD j []).getD 3 (.slice none 0 0)).ownBlock ≠ some g
/-- devices of the call's own, apart from one another -/
def OwnTS (base : Nat) (w : World) (v : Value) (t : List Nd) : Prop := ∃ rows : List (List Value), rows.length = t.length ∧ (∀ r ∈ rows, r.length = 5) ∧ w.ownsRow base 70 5 v t.length rows.flatten ∧ (∀ i (h : i < t.length), nodO base w (rows.getD i []) t[i]) ∧ SepR rows
theorem OwnTS.own {base : Nat} {w : World} {v : Value} {t : List Nd} (h : OwnTS base w v t) : OwnT8 base w v t := by
  obtain ⟨rows, h1, h2, h3, h4, _⟩ := h
  exact ⟨rows, h1, h2, h3, h4⟩
theorem OwnTS.nil (base : Nat) (w : World) : OwnTS base w (.slice none 0 0) [] := ⟨[], rfl, by simp, World.ownsRow_nil _ _ _ _, fun i hi => by simp at hi, fun i j g h1 h2 => by simp at h2⟩
theorem OwnTS.below {base : Nat} {w w' : World} {v : Value} {t : List Nd} (h : OwnTS base w v t) (g : Below w.heap.size w w') : OwnTS base w' v t := by
  obtain ⟨rows, h1, h2, h3, h4, h5⟩ := h
  exact ⟨rows, h1, h2, own_kept (T := 5) (Kept.below g) (by decide) h3, fun i hi => nodO_below g _ _ (h4 i hi), h5⟩
theorem OwnTS.le {b b' : Nat} {w : World} {v : Value} {t : List Nd} (hb : b ≤ b') (h : OwnTS b' w v t) : OwnTS b w v t := by
  obtain ⟨rows, h1, h2, h3, h4, h5⟩ := h
  exact ⟨rows, h1, h2, own_le hb h3, fun i hi => nodO_le hb _ _ (h4 i hi), h5⟩
theorem sep_snoc {rows : List (List Value)} {row : List Value} (h : SepR rows) (hn : ∀ i g, i < rows.length → ((rows.getD i []).getD 3 (.slice none 0 0)).ownBlock = some g → (row.getD 3 (.slice none 0 0)).ownBlock ≠ some g) : SepR (rows ++ [row]) := by
  intro i j g hij hj hi
  have hlen : (rows ++ [row]).length = rows.length + 1 := by simp
  have ei : (rows ++ [row]).getD i [] = rows.getD i [] := by
    rw [List.getD_eq_getElem?_getD, List.getD_eq_getElem?_getD, List.getElem?_append_left (by omega)]
  rw [ei] at hi
  by_cases hlt : j < rows.length
  · have ej : (rows ++ [row]).getD j [] = rows.getD j [] := by
      rw [List.getD_eq_getElem?_getD, List.getD_eq_getElem?_getD, List.getElem?_append_left hlt]
    rw [ej]
    exact h i j g hij hlt hi
  · have hj2 : j = rows.length := by omega
    subst hj2
    have ej : (rows ++ [row]).getD rows.length [] = row := by
      rw [List.getD_eq_getElem?_getD, List.getElem?_append_right (Nat.le_refl _)]
      simp
    rw [ej]
    exact hn i g hij hi
theorem OwnTS.snoc {base : Nat} {w w' : World} {U v' : Value} {xs : List Nd} {x : Nd} {row : List Value} {rows : List (List Value)} (h1 : rows.length = xs.length) (h2 : ∀ r ∈ rows, r.length = 5) (h3 : w.ownsRow base 70 5 U xs.length rows.flatten) (h4 : ∀ i (h : i < xs.length), nodO base w (rows.getD i []) xs[i])
    (h5 : SepR (rows ++ [row])) (hr : row.length = 5) (hx : nodO base w row x) (o : w'.ownsRow base 70 5 v' (xs.length + 1) (rows.flatten ++ row)) (g : w.grownBy w' U.ownBlock) : OwnTS base w' v' (xs ++ [x]) := by
  have k := Kept.own h3 g
  have ha : Apt 70 (nodO base) := nodO_apt (by decide) (by decide) (by decide)
  refine ⟨rows ++ [row], by simp [h1], fun r hm => ?_, by simpa using o, fun i hi => ?_, h5⟩
  · rcases List.mem_append.1 hm with hm | hm
    · exact h2 r hm
    · simp at hm; subst hm; exact hr
  · by_cases hlt : i < xs.length
    · rw [List.getD_eq_getElem?_getD, List.getElem?_append_left (by omega), List.getElem_append_left hlt, ← List.getD_eq_getElem?_getD]
      exact ha _ _ _ _ k (h4 i hlt)
    · have hi2 : i = xs.length := by simp at hi; omega
      subst hi2
      rw [List.getD_eq_getElem?_getD, List.getElem?_append_right (by omega), h1]
      simp
      exact ha _ _ _ _ k hx
theorem one5 (nm : ByteArray) (a : Option Addr) (l c : Nat) (p : Int) (a2 : Option Addr) (l2 c2 : Nat) (a3 : Option Addr) (l3 c3 : Nat) : ∀ r ∈ [[Value.string nm, .slice a l c, .int .i64 p, .slice a2 l2 c2, .slice a3 l3 c3]], ∀ u ∈ r, u.oneCell' = true := by
  intro r hr u hu
  simp at hr
  subst hr
  simp at hu
  rcases hu with rfl | rfl | rfl | rfl | rfl <;> rfl
theorem one2 (pn : ByteArray) (a : Option Addr) (l c : Nat) : ∀ r ∈ [[Value.string pn, .slice a l c]], ∀ u ∈ r, u.oneCell' = true := by
  intro r hr u hu
  simp at hr
  subst hr
  simp at hu
  rcases hu with rfl | rfl <;> rfl
theorem set_kept {w : World} {b : Nat} {cs : Array Value} {T : TypeId} (h : Stands w b cs T) (j : Nat) (u : Value) : Kept T w (w.setCell ⟨b, j, none⟩ u) := by
  refine Kept.stands h ⟨rfl, rfl, rfl, by simp, fun k hk hne => ?_⟩
  exact Below.heap_setCell _ _ _ k (fun e => hne (by rw [e]))
theorem set5 {w : World} {b : Nat} {z0 z1 z2 z3 z4 : Value} {T : TypeId} (h : Stands w b #[z0, z1, z2, z3, z4] T) (a0 a1 a2 a3 a4 : Value) :
    Stands (((((w.setCell ⟨b, 0, none⟩ a0).setCell ⟨b, 1, none⟩ a1).setCell ⟨b, 2, none⟩ a2).setCell ⟨b, 3, none⟩ a3).setCell ⟨b, 4, none⟩ a4) b #[a0, a1, a2, a3, a4] T ∧
    (∀ {base : Nat} {e : TypeId} {sz : Nat} {v : Value} {n : Nat} {xs : List Value}, ¬ e = T → w.ownsRow base e sz v n xs → (((((w.setCell ⟨b, 0, none⟩ a0).setCell ⟨b, 1, none⟩ a1).setCell ⟨b, 2, none⟩ a2).setCell ⟨b, 3, none⟩ a3).setCell ⟨b, 4, none⟩ a4).ownsRow base e sz v n xs) := by
  have h0 := h.set 0 a0
  have h1 := h0.set 1 a1
  have h2 := h1.set 2 a2
  have h3 := h2.set 3 a3
  have h4 := h3.set 4 a4
  exact ⟨h4, fun hne o => own_kept (set_kept h3 4 a4) hne (own_kept (set_kept h2 3 a3) hne (own_kept (set_kept h1 2 a2) hne (own_kept (set_kept h0 1 a1) hne (own_kept (set_kept h 0 a0) hne o))))⟩

/-
  Machines of the call's own; copyOps of the document's answer.
-/
def OwO (base : Nat) (w : World) (v : Value) (l : List Opd) : Prop := OwnR 49 2 opR base w v l
def wrdO (base : Nat) (w : World) (cs : List Value) (x : Wd) : Prop := ∃ vc, cs = [.string (strOfNums x.1), .int .i64 x.2.1, .int .i64 x.2.2.1, .int .u32 x.2.2.2.1, vc] ∧ OwO base w vc x.2.2.2.2
def insO (base : Nat) (w : World) (cs : List Value) (x : Iz) : Prop := ∃ vc, cs = [.int .i64 x.1, .int .i64 x.2.1, .string (strOfNums x.2.2.1), vc] ∧ w.ownsRow base 26 1 vc x.2.2.2.length (x.2.2.2.map (Value.int .u32))
theorem opR_apt {T : TypeId} : Apt T opR := fun _ _ _ _ _ h => h
theorem OwO.read {base : Nat} {w : World} {v : Value} {l : List Opd} (h : OwO base w v l) : RdO w v l := OwnR.read (by decide) h (fun _ _ x => x)
theorem OwO.kept {base : Nat} {T : TypeId} {w w' : World} {v : Value} {l : List Opd} (h : OwO base w v l) (k : Kept T w w') (hne : ¬ 49 = T) : OwO base w' v l := OwnR.kept h k hne opR_apt
theorem OwO.below {base : Nat} {w w' : World} {v : Value} {l : List Opd} (h : OwO base w v l) (g : Below w.heap.size w w') : OwO base w' v l := OwnR.below h g (fun _ _ x => x)
theorem OwO.le {b b' : Nat} {w : World} {v : Value} {l : List Opd} (hb : b ≤ b') (h : OwO b' w v l) : OwO b w v l := OwnR.le hb h (fun _ _ x => x)
theorem wrdO_R {base : Nat} {w : World} (cs : List Value) (x : Wd) (h : wrdO base w cs x) : wrdR w cs x := by
  obtain ⟨v, h1, h2⟩ := h
  exact ⟨v, h1, h2.read⟩
theorem wrdO_apt {base : Nat} {T : TypeId} (h : ¬ 49 = T) : Apt T (wrdO base) := by
  rintro w w' cs x k ⟨v, h1, h2⟩
  exact ⟨v, h1, h2.kept k h⟩
theorem wrdO_below {base : Nat} {w w' : World} (g : Below w.heap.size w w') (cs : List Value) (x : Wd) (h : wrdO base w cs x) : wrdO base w' cs x := by
  obtain ⟨v, h1, h2⟩ := h
  exact ⟨v, h1, h2.below g⟩
theorem wrdO_le {b b' : Nat} {w : World} (hb : b ≤ b') (cs : List Value) (x : Wd) (h : wrdO b' w cs x) : wrdO b w cs x := by
  obtain ⟨v, h1, h2⟩ := h
  exact ⟨v, h1, h2.le hb⟩
theorem insO_R {base : Nat} {w : World} (cs : List Value) (x : Iz) (h : insO base w cs x) : insR w cs x := by
  obtain ⟨v, h1, h2⟩ := h
  exact ⟨v, h1, (Rd_own h2).1⟩
theorem insO_apt {base : Nat} {T : TypeId} (h : ¬ 26 = T) : Apt T (insO base) := by
  rintro w w' cs x k ⟨v, h1, h2⟩
  exact ⟨v, h1, own_kept k h h2⟩
theorem insO_below {base : Nat} {w w' : World} (g : Below w.heap.size w w') (cs : List Value) (x : Iz) (h : insO base w cs x) : insO base w' cs x := by
  obtain ⟨v, h1, h2⟩ := h
  exact ⟨v, h1, own_below h2 g⟩
theorem insO_le {b b' : Nat} {w : World} (hb : b ≤ b') (cs : List Value) (x : Iz) (h : insO b' w cs x) : insO b w cs x := by
  obtain ⟨v, h1, h2⟩ := h
  exact ⟨v, h1, own_le hb h2⟩
def OwW (base : Nat) (w : World) (v : Value) (l : List Wd) : Prop := OwnR 33 5 (wrdO base) base w v l
def OwI (base : Nat) (w : World) (v : Value) (l : List Iz) : Prop := OwnR 78 4 (insO base) base w v l
/-- a machine of the call's own -/
structure OwM (base : Nat) (w : World) (v : Mv) (m : Mc) (o : ByteArray) : Prop where
  stack : w.ownsRow base 26 1 v.vs m.stack.length (m.stack.map (Value.int .u32))
  mem : w.ownsRow base 5 1 v.vm m.mem.length (m.mem.map (Value.int .u8))
  words : OwW base w v.vw m.words
  codes : w.ownsRow base 3 1 v.vc m.codes.length (m.codes.map (Value.int .i64))
  tree : OwnT8 base w v.vt m.tree
  insts : OwI base w v.vi m.insts
  out : strOfNums m.out = o
theorem OwM.read {base : Nat} {w : World} {v : Mv} {m : Mc} {o : ByteArray} (h : OwM base w v m o) : RdM w v m o :=
  ⟨(Rd_own h.stack).1, (Rd_own h.mem).1, OwnR.read (by decide) h.words wrdO_R, (Rd_own h.codes).1, ownT8_read h.tree, OwnR.read (by decide) h.insts insO_R, h.out⟩
theorem OwM.below {base : Nat} {w w' : World} {v : Mv} {m : Mc} {o : ByteArray} (h : OwM base w v m o) (g : Below w.heap.size w w') : OwM base w' v m o :=
  ⟨own_below h.stack g, own_below h.mem g, OwnR.below h.words g (wrdO_below g), own_below h.codes g, h.tree.below g, OwnR.below h.insts g (insO_below g), h.out⟩
theorem OwM.le {b b' : Nat} {w : World} {v : Mv} {m : Mc} {o : ByteArray} (hb : b ≤ b') (h : OwM b' w v m o) : OwM b w v m o :=
  ⟨own_le hb h.stack, own_le hb h.mem, OwnR.le hb h.words (wrdO_le hb), own_le hb h.codes, OwnT8.le hb h.tree, OwnR.le hb h.insts (insO_le hb), h.out⟩

theorem infoOp : (Try.prog.info? 49).map (fun i => (i.zero, i.size, i.bytes)) = some (some (.agg #[.int .i64 0, .int .u32 0]), 2, 16) := by kernel_rfl
theorem infoWd : (Try.prog.info? 33).map (fun i => (i.zero, i.size, i.bytes)) = some (some (.agg #[.string ⟨#[]⟩, .int .i64 0, .int .i64 0, .int .u32 0, .slice none 0 0]), 5, 64) := by kernel_rfl
theorem infoIz : (Try.prog.info? 78).map (fun i => (i.zero, i.size, i.bytes)) = some (some (.agg #[.int .i64 0, .int .i64 0, .string ⟨#[]⟩, .slice none 0 0]), 4, 56) := by kernel_rfl

/-
  What lies in blocks from a bound on stands, where only blocks below it are written.
-/
/-- blocks from base on stand -/
def Ab (base : Nat) (w w' : World) : Prop := ∀ k, base ≤ k → k < w.heap.size → w'.heap[k]? = w.heap[k]?
theorem ab_set {base : Nat} (w : World) (g j : Nat) (u : Value) (hg : g < base) : Ab base w (w.setCell ⟨g, j, none⟩ u) := by
  intro k hk hs
  exact Below.heap_setCell _ _ _ k (fun e => by have e2 : k = g := e; omega)
theorem own_ab {base : Nat} {w w' : World} {e : TypeId} {sz : Nat} {v : Value} {n : Nat} {cs : List Value} (k : Ab base w w') (o : w.ownsRow base e sz v n cs) : w'.ownsRow base e sz v n cs := by
  obtain ⟨hl, o⟩ := o
  refine ⟨hl, ?_⟩
  rcases o with h | ⟨b, cap, cur, rfl, h1, h2, h3⟩
  · exact Or.inl h
  · refine Or.inr ⟨b, cap, cur, rfl, h1, ?_, h3⟩
    rw [k b h1 (Array.getElem?_eq_some_iff.1 h2).1]
    exact h2
theorem OwnR.ab {α : Type} {e : TypeId} {sz : Nat} {O : World → List Value → α → Prop} {base : Nat} {w w' : World} {v : Value} {xs : List α} (h : OwnR e sz O base w v xs) (k : Ab base w w') (hO : ∀ cs x, O w cs x → O w' cs x) : OwnR e sz O base w' v xs := by
  obtain ⟨rows, h1, h2, h3, h4⟩ := h
  exact ⟨rows, h1, h2, own_ab k h3, fun i hi => hO _ _ (h4 i hi)⟩
theorem propO_ab {base : Nat} {w w' : World} (k : Ab base w w') (cs : List Value) (x : Pp) (h : propO base w cs x) : propO base w' cs x := by
  obtain ⟨v, h1, h2⟩ := h
  exact ⟨v, h1, own_ab k h2⟩
theorem nodO_ab {base : Nat} {w w' : World} (k : Ab base w w') (cs : List Value) (x : Nd) (h : nodO base w cs x) : nodO base w' cs x := by
  obtain ⟨vu, vp, vc, h1, h2, h3, h4⟩ := h
  exact ⟨vu, vp, vc, h1, own_ab k h2, h3.ab k (propO_ab k), own_ab k h4⟩
theorem wrdO_ab {base : Nat} {w w' : World} (k : Ab base w w') (cs : List Value) (x : Wd) (h : wrdO base w cs x) : wrdO base w' cs x := by
  obtain ⟨v, h1, h2⟩ := h
  exact ⟨v, h1, OwnR.ab h2 k (fun _ _ q => q)⟩
theorem insO_ab {base : Nat} {w w' : World} (k : Ab base w w') (cs : List Value) (x : Iz) (h : insO base w cs x) : insO base w' cs x := by
  obtain ⟨v, h1, h2⟩ := h
  exact ⟨v, h1, own_ab k h2⟩
theorem OwM.ab {base : Nat} {w w' : World} {v : Mv} {m : Mc} {o : ByteArray} (h : OwM base w v m o) (k : Ab base w w') : OwM base w' v m o :=
  ⟨own_ab k h.stack, own_ab k h.mem, OwnR.ab h.words k (wrdO_ab k), own_ab k h.codes, OwnR.ab h.tree k (nodO_ab k), OwnR.ab h.insts k (insO_ab k), h.out⟩
theorem OwO.ab {base : Nat} {w w' : World} {v : Value} {l : List Opd} (h : OwO base w v l) (k : Ab base w w') : OwO base w' v l := OwnR.ab h k (fun _ _ q => q)
/-- all of a machine of the call's own but its words stands where a row of words has grown -/
theorem OwM.grewW {base : Nat} {w w' : World} {v : Mv} {m : Mc} {o : ByteArray} (h : OwM base w v m o) (k : Kept 33 w w') {vw : Value} {l : List Wd} (hw : OwW base w' vw l) : OwM base w' { v with vw := vw } { m with words := l } o :=
  ⟨own_kept k (by decide) h.stack, own_kept k (by decide) h.mem, hw, own_kept k (by decide) h.codes, OwnR.kept h.tree k (by decide) (nodO_apt (by decide) (by decide) (by decide)), OwnR.kept h.insts k (by decide) (insO_apt (by decide)), h.out⟩
/-- the same of its codes -/
theorem OwM.grewC {base : Nat} {w w' : World} {v : Mv} {m : Mc} {o : ByteArray} (h : OwM base w v m o) (k : Kept 3 w w') {vc : Value} {l : List Int} (hc : w'.ownsRow base 3 1 vc l.length (l.map (Value.int .i64))) : OwM base w' { v with vc := vc } { m with codes := l } o :=
  ⟨own_kept k (by decide) h.stack, own_kept k (by decide) h.mem, OwnR.kept h.words k (by decide) (wrdO_apt (by decide)), hc, OwnR.kept h.tree k (by decide) (nodO_apt (by decide) (by decide) (by decide)), OwnR.kept h.insts k (by decide) (insO_apt (by decide)), h.out⟩
/-- a machine's box is written: the machine of the call's own stands -/
theorem OwM.kept {base : Nat} {T : TypeId} {w w' : World} {v : Mv} {m : Mc} {o : ByteArray} (h : OwM base w v m o) (k : Kept T w w') (h8 : ¬ 5 = T) (h32 : ¬ 26 = T) (hp : ¬ 91 = T) (hn : ¬ 70 = T) (hi : ¬ 3 = T) (hw : ¬ 33 = T) (ho : ¬ 49 = T) (hx : ¬ 78 = T) : OwM base w' v m o :=
  ⟨own_kept k h32 h.stack, own_kept k h8 h.mem, OwnR.kept h.words k hw (wrdO_apt ho), own_kept k hi h.codes, OwnR.kept h.tree k hn (nodO_apt h8 h32 hp), OwnR.kept h.insts k hx (insO_apt h32), h.out⟩

/-
  New and Add of the document's answer for trees.
-/
/-- a formed tree is small -/
theorem frm_siz {t : List Nd} (hf : frmT t = true) : t.length ≤ 32 ∧ ∀ x ∈ t, sizN x := by
  obtain ⟨g0, g1, g2, g3⟩ := (frm_iff t).1 hf
  refine ⟨g1, fun x hx => ?_⟩
  obtain ⟨i, hi, rfl⟩ := List.getElem_of_mem hx
  have h := g3 i hi
  unfold okN at h
  simp only [Bool.and_eq_true, Bool.or_eq_true, decide_eq_true_eq] at h
  obtain ⟨h1, h2, h3, h4⟩ := h
  have hu : t[i].2.1.length ≤ 4 := by
    rcases h1 with h1 | h1
    · subst h1
      unfold rootF at g2
      simp only [Bool.and_eq_true, decide_eq_true_eq] at g2
      rw [g2.2.1]
      simp
    · unfold okA at h1
      simp only [Bool.and_eq_true, decide_eq_true_eq] at h1
      omega
  refine ⟨by omega, by omega, by omega, fun p hp => ?_⟩
  have := (((okR_iff _).1 h4).1 p hp).2
  omega

/-
  A device's properties put anew in a tree of the call's own.
-/
theorem grown_below {w w' : World} {r : Option Nat} (g : w.grownBy w' r) {e : TypeId} {sz base : Nat} {v : Value} {n : Nat} {cs : List Value} (o : w.ownsRow base e sz v n cs) (hne : ∀ k, v.ownBlock = some k → r ≠ some k) : w'.ownsRow base e sz v n cs := by
  obtain ⟨hl, o⟩ := o
  refine ⟨hl, ?_⟩
  rcases o with h | ⟨b, cap, cur, rfl, h1, h2, h3⟩
  · exact Or.inl h
  · refine Or.inr ⟨b, cap, cur, rfl, h1, ?_, h3⟩
    rw [g.block b (Array.getElem?_eq_some_iff.1 h2).1 (fun e => hne b rfl e.symm)]
    exact h2
/-- a device stands, where a block of properties that is not its own has grown -/
theorem nodO_grown {base : Nat} {w w' : World} {r : Option Nat} (g : w.grownBy w' r) (k : Kept 91 w w') {cs : List Value} {x : Nd} (h : nodO base w cs x) (hne : ∀ b, (cs.getD 3 (.slice none 0 0)).ownBlock = some b → r ≠ some b) : nodO base w' cs x := by
  obtain ⟨vu, vp, vc, rfl, o1, ⟨rows, p1, p2, p3, p4⟩, o3⟩ := h
  refine ⟨vu, vp, vc, rfl, own_kept k (by decide) o1, ⟨rows, p1, p2, grown_below g p3 (by simpa using hne), fun i hi => ?_⟩, own_kept k (by decide) o3⟩
  exact propO_apt (by decide) _ _ _ _ k (p4 i hi)

theorem ts_put {base : Nat} {w w1 : World} {g m cap n : Nat} {t : List Nd} {rows : List (List Value)} (h1 : rows.length = t.length) (h2 : ∀ r ∈ rows, r.length = 5) (h3 : w.ownsRow base 70 5 (.slice (some ⟨g, 0, none⟩) m cap) t.length rows.flatten) (h4 : ∀ i (h : i < t.length), nodO base w (rows.getD i []) t[i]) (h5 : SepR rows)
    (hn : n < t.length) {nm vu vp vc : Value} {p : Value} (hrow : rows.getD n [] = [nm, vu, p, vp, vc]) (gr : w.grownBy w1 vp.ownBlock) (kp : Kept 91 w w1) {l : List Pp} {vp' : Value} (hp : OwnR 91 2 (propO base) base w1 vp' l)
    (hs : vp'.ownBlock = vp.ownBlock ∨ ∀ k, vp'.ownBlock = some k → w.heap.size ≤ k) :
    OwnTS base (w1.setCell ⟨g, n * 5 + 3, none⟩ vp') (.slice (some ⟨g, 0, none⟩) m cap) (t.set n (t[n].1, t[n].2.1, t[n].2.2.1, l, t[n].2.2.2.2)) := by
  have hsep : ∀ j, j < rows.length → j ≠ n → ∀ b, ((rows.getD j []).getD 3 (.slice none 0 0)).ownBlock = some b → vp.ownBlock ≠ some b := by
    intro j hj hjn b hb hv
    have hvp : ((rows.getD n []).getD 3 (.slice none 0 0)).ownBlock = some b := by rw [hrow]; exact hv
    rcases Nat.lt_or_gt_of_ne hjn with hlt | hgt
    · exact h5 j n b hlt (by omega) hb hvp
    · exact h5 n j b hgt hj hvp hb
  have k4 : ∀ i (h : i < t.length), i ≠ n → nodO base w1 (rows.getD i []) t[i] := fun i hi hin => nodO_grown gr kp (h4 i hi) (fun b hb => hsep i (by omega) hin b hb)
  have h3' : w1.ownsRow base 70 5 (.slice (some ⟨g, 0, none⟩) m cap) t.length rows.flatten := own_kept kp (by decide) h3
  have hmt : m = t.length := by
    obtain ⟨_, h3⟩ := h3
    rcases h3 with ⟨h, _⟩ | ⟨g', cap', cur, h, _⟩
    · simp at h
    · simp at h; exact h.2.1
  subst hmt
  obtain ⟨s1, s2⟩ := h3'.stored (n * 5 + 3) vp'
  have kn : Kept 70 w1 (w1.setCell ⟨g, n * 5 + 3, none⟩ vp') := Kept.own (v := .slice (some ⟨g, 0, none⟩) t.length cap) h3' (by simpa [Value.ownBlock] using s2)
  rw [flat_set rows 5 n 3 vp' h2 (by omega) (by decide)] at s1
  have ha : Apt 70 (nodO base) := nodO_apt (by decide) (by decide) (by decide)
  obtain ⟨vu0, vp0, vc0, hcs, o1, o2, o3⟩ := h4 n hn
  rw [hrow] at hcs
  simp at hcs
  obtain ⟨rfl, rfl, rfl, rfl, rfl⟩ := hcs
  have hrow2 : (rows.getD n []).set 3 vp' = [.string (strOfNums t[n].1), vu, .int .i64 t[n].2.2.1, vp', vc] := by rw [hrow]; rfl
  refine ⟨rows.set n ((rows.getD n []).set 3 vp'), by simp [h1], fun r hr => ?_, by simpa using s1, fun i hi => ?_, ?_⟩
  · rcases List.mem_or_eq_of_mem_set hr with hr | rfl
    · exact h2 r hr
    · rw [hrow2]; rfl
  · rw [List.length_set] at hi
    rw [List.getElem_set]
    by_cases hin : n = i
    · subst hin
      rw [if_pos rfl, List.getD_eq_getElem?_getD, List.getElem?_set_self (by omega)]
      show nodO base _ ((rows.getD n []).set 3 vp') _
      rw [hrow2]
      exact ha _ _ _ _ kn ⟨vu, vp', vc, rfl, own_kept kp (by decide) o1, hp, own_kept kp (by decide) o3⟩
    · rw [if_neg hin, List.getD_eq_getElem?_getD, List.getElem?_set_ne hin, ← List.getD_eq_getElem?_getD]
      exact ha _ _ _ _ kn (k4 i hi (fun e => hin e.symm))
  · have hget : ∀ j, ((rows.set n ((rows.getD n []).set 3 vp')).getD j []) = if j = n then (rows.getD n []).set 3 vp' else rows.getD j [] := by
      intro j
      by_cases hj : j = n
      · subst hj
        rw [if_pos rfl, List.getD_eq_getElem?_getD, List.getElem?_set_self (by omega)]
        rfl
      · rw [if_neg hj, List.getD_eq_getElem?_getD, List.getElem?_set_ne (fun e => hj e.symm), ← List.getD_eq_getElem?_getD]
    have hnew : ∀ j b, j < rows.length → j ≠ n → ((rows.getD j []).getD 3 (.slice none 0 0)).ownBlock = some b → vp'.ownBlock ≠ some b := by
      intro j b hj hjn hb hv
      rcases hs with hs | hs
      · exact hsep j hj hjn b hb (by rw [← hs]; exact hv)
      · have := hs b hv
        obtain ⟨vu9, vp9, vc9, hv9, -, op9, -⟩ := h4 j (by omega)
        obtain ⟨cs9, o9⟩ := op9.row
        rw [hv9] at hb
        have a1 := (o9.lt b (by simpa using hb)).2
        omega
    intro i j b hij hj hib hjb
    rw [List.length_set] at hj
    rw [hget] at hib hjb
    by_cases hi : i = n
    · rw [if_pos hi, hrow2] at hib
      rw [if_neg (by omega)] at hjb
      exact hnew j b hj (by omega) hjb hib
    · rw [if_neg hi] at hib
      by_cases hjn : j = n
      · rw [if_pos hjn, hrow2] at hjb
        exact hnew i b (by omega) hi hib hjb
      · rw [if_neg hjn] at hjb
        exact h5 i j b hij hj hib hjb

/-
  Set of the document's answer for trees: what is refused.
-/
/-- a device of a row of the call's own: where it lies -/
theorem idx_node (g m cap n : Nat) (h : n < m) : ∀ w', (Instr.indexAt 27 (.slice (some ⟨g, 0, none⟩) m cap) (.int .i64 (n : Int))).run Try.prog w' = .ok (.pointer (some ⟨g, n * 5, none⟩)) w' := by
  intro w'
  rw [run_indexAt_slice (h := uN), if_pos ⟨by omega, by omega⟩, zN]
  simp only [Result.andThen, Int.toNat_natCast]
  congr 3
  unfold Addr.add
  split
  · rename_i hz; rw [hz]
  · simp
theorem idx_prop (g m cap n : Nat) (h : n < m) : ∀ w', (Instr.indexAt 68 (.slice (some ⟨g, 0, none⟩) m cap) (.int .i64 (n : Int))).run Try.prog w' = .ok (.pointer (some ⟨g, n * 2, none⟩)) w' := by
  intro w'
  rw [run_indexAt_slice (h := uR), if_pos ⟨by omega, by omega⟩, zR]
  simp only [Result.andThen, Int.toNat_natCast]
  congr 3
  unfold Addr.add
  split
  · rename_i hz; rw [hz]
  · simp

/-
  Set of the document's answer for trees: a property that is there.
-/
theorem own_some {w : World} {base : Nat} {e : TypeId} {sz : Nat} {v : Value} {n : Nat} {cs : List Value} (o : w.ownsRow base e sz v n cs) (h : 0 < n) : ∃ g cap, v = .slice (some ⟨g, 0, none⟩) n cap := by
  rcases o.2 with ⟨_, h0⟩ | ⟨g, cap, cur, hv, _⟩
  · omega
  · exact ⟨g, cap, hv⟩
theorem own_cell {w : World} {base : Nat} {e : TypeId} {sz g n cap : Nat} {cs : List Value} (o : w.ownsRow base e sz (.slice (some ⟨g, 0, none⟩) n cap) n cs) (j : Nat) (u : Value) (h : cs[j]? = some u) : w.cell? ⟨g, j, none⟩ = some u := by
  have h1 := o.cells (g := g) rfl j u h
  have e1 : (⟨g, 0, none⟩ : Addr).add j = ⟨g, j, none⟩ := by
    unfold Addr.add
    split
    · rename_i hz; rw [hz]
    · simp
  rwa [e1] at h1
/-- the properties of a device changed in their place -/
theorem ts_in {base : Nat} {w w1 : World} {v : Value} {n : Nat} {t : List Nd} {rows : List (List Value)} (h1 : rows.length = t.length) (h2 : ∀ r ∈ rows, r.length = 5) (h3 : w.ownsRow base 70 5 v t.length rows.flatten) (h4 : ∀ i (h : i < t.length), nodO base w (rows.getD i []) t[i]) (h5 : SepR rows)
    (hn : n < t.length) {nm vu vp vc : Value} {p : Value} (hrow : rows.getD n [] = [nm, vu, p, vp, vc]) (gr : w.grownBy w1 vp.ownBlock) (kp : Kept 91 w w1) {l : List Pp} (hp : OwnR 91 2 (propO base) base w1 vp l) :
    OwnTS base w1 v (t.set n (t[n].1, t[n].2.1, t[n].2.2.1, l, t[n].2.2.2.2)) := by
  have hsep : ∀ j, j < rows.length → j ≠ n → ∀ b, ((rows.getD j []).getD 3 (.slice none 0 0)).ownBlock = some b → vp.ownBlock ≠ some b := by
    intro j hj hjn b hb hv
    have hvp : ((rows.getD n []).getD 3 (.slice none 0 0)).ownBlock = some b := by rw [hrow]; exact hv
    rcases Nat.lt_or_gt_of_ne hjn with hlt | hgt
    · exact h5 j n b hlt (by omega) hb hvp
    · exact h5 n j b hgt hj hvp hb
  have k4 : ∀ i (h : i < t.length), i ≠ n → nodO base w1 (rows.getD i []) t[i] := fun i hi hin => nodO_grown gr kp (h4 i hi) (fun b hb => hsep i (by omega) hin b hb)
  obtain ⟨vu0, vp0, vc0, hcs, o1, o2, o3⟩ := h4 n hn
  rw [hrow] at hcs
  simp at hcs
  obtain ⟨rfl, rfl, rfl, rfl, rfl⟩ := hcs
  refine ⟨rows, by simp [h1], h2, by simpa using own_kept kp (by decide) h3, fun i hi => ?_, h5⟩
  rw [List.length_set] at hi
  rw [List.getElem_set]
  by_cases hin : n = i
  · subst hin
    rw [if_pos rfl, hrow]
    exact ⟨vu, vp, vc, rfl, own_kept kp (by decide) o1, hp, own_kept kp (by decide) o3⟩
  · rw [if_neg hin]
    exact k4 i hi (fun e => hin e.symm)

/-
  Rows of the call's own of which each in turn is given a slice of its own: what stands behind so many rounds. Clone of instructions.
-/
theorem own_belowN {w w' : World} {base : Nat} {e : TypeId} {sz : Nat} {v : Value} {n : Nat} {cs : List Value} (o : w.ownsRow base e sz v n cs) (g : Below w.heap.size w w') : w'.ownsRow base e sz v n cs := by
  obtain ⟨hl, h3⟩ := o
  refine ⟨hl, ?_⟩
  rcases h3 with h | ⟨b, cap, cur, rfl, hb, hg, hc⟩
  · exact Or.inl h
  · refine Or.inr ⟨b, cap, cur, rfl, hb, ?_, hc⟩
    rw [g.block b (Array.getElem?_eq_some_iff.1 hg).1]
    exact hg
/-- behind i rounds: the first i rows are as O says, the others as they were laid -/
def RwI {α : Type} (e : TypeId) (sz : Nat) (O : World → List Value → α → Prop) (base : Nat) (v : Value) (l : List α) (rows : List (List Value)) (i : Nat) (wx : World) : Prop :=
  ∃ rs : List (List Value), rs.length = l.length ∧ (∀ r ∈ rs, r.length = sz) ∧ wx.ownsRow base e sz v l.length rs.flatten ∧ (∀ j (h : j < l.length), j < i → O wx (rs.getD j []) l[j]) ∧ ∀ j, i ≤ j → rs.getD j [] = rows.getD j []
theorem RwI.start {α : Type} {e : TypeId} {sz : Nat} {O : World → List Value → α → Prop} {base : Nat} {v : Value} {l : List α} {rows : List (List Value)} {wx : World} (h1 : rows.length = l.length) (h2 : ∀ r ∈ rows, r.length = sz) (h3 : wx.ownsRow base e sz v l.length rows.flatten) : RwI e sz O base v l rows 0 wx :=
  ⟨rows, h1, h2, h3, fun j h hj => by omega, fun j _ => rfl⟩
theorem RwI.done {α : Type} {e : TypeId} {sz : Nat} {O : World → List Value → α → Prop} {base : Nat} {v : Value} {l : List α} {rows : List (List Value)} {wx : World} {i : Nat} (h : RwI e sz O base v l rows i wx) (hi : l.length ≤ i) : OwnR e sz O base wx v l := by
  obtain ⟨rs, h1, h2, h3, h4, h5⟩ := h
  exact ⟨rs, h1, h2, h3, fun j hj => h4 j hj (by omega)⟩
theorem RwI.row {α : Type} {e : TypeId} {sz : Nat} {O : World → List Value → α → Prop} {base : Nat} {v : Value} {l : List α} {rows : List (List Value)} {wx : World} {i : Nat} (h : RwI e sz O base v l rows i wx) : ∃ cs, wx.ownsRow base e sz v l.length cs := by
  obtain ⟨rs, h1, h2, h3, h4, h5⟩ := h
  exact ⟨_, h3⟩
theorem RwI.kept {α : Type} {T e : TypeId} {sz : Nat} {O : World → List Value → α → Prop} {base : Nat} {v : Value} {l : List α} {rows : List (List Value)} {w w' : World} {i : Nat} (h : RwI e sz O base v l rows i w) (k : Kept T w w') (hne : ¬ e = T) (ha : Apt T O) : RwI e sz O base v l rows i w' := by
  obtain ⟨rs, h1, h2, h3, h4, h5⟩ := h
  exact ⟨rs, h1, h2, own_kept k hne h3, fun j hj hji => ha _ _ _ _ k (h4 j hj hji), h5⟩
theorem RwI.below {α : Type} {e : TypeId} {sz : Nat} {O : World → List Value → α → Prop} {base : Nat} {v : Value} {l : List α} {rows : List (List Value)} {w w' : World} {i : Nat} (h : RwI e sz O base v l rows i w) (g : Below w.heap.size w w') (hO : ∀ cs x, O w cs x → O w' cs x) : RwI e sz O base v l rows i w' := by
  obtain ⟨rs, h1, h2, h3, h4, h5⟩ := h
  exact ⟨rs, h1, h2, own_belowN h3 g, fun j hj hji => hO _ _ (h4 j hj hji), h5⟩
theorem RwI.cell {α : Type} {e : TypeId} {sz : Nat} {O : World → List Value → α → Prop} {base g cap : Nat} {l : List α} {rows : List (List Value)} {w : World} {i : Nat} (h : RwI e sz O base (.slice (some ⟨g, 0, none⟩) l.length cap) l rows i w) (hi : i < l.length) (j : Nat) (hj : j < sz) (u : Value) (hu : (rows.getD i [])[j]? = some u) : w.cell? ⟨g, i * sz + j, none⟩ = some u := by
  obtain ⟨rs, h1, h2, h3, h4, h5⟩ := h
  exact own_cell h3 (i * sz + j) u (by rw [flat_get rs sz i j h2 (by omega) hj, h5 i (Nat.le_refl _)]; exact hu)
theorem RwI.free {α : Type} {e : TypeId} {sz : Nat} {O : World → List Value → α → Prop} {base g cap : Nat} {l : List α} {rows : List (List Value)} {w : World} {i : Nat} (h : RwI e sz O base (.slice (some ⟨g, 0, none⟩) l.length cap) l rows i w) (j : Nat) : w.frozen? ⟨g, j, none⟩ = false := by
  obtain ⟨rs, h1, h2, h3, h4, h5⟩ := h
  exact h3.frozenAt j
theorem RwI.step {α : Type} {e : TypeId} {sz : Nat} {O : World → List Value → α → Prop} {base g cap : Nat} {l : List α} {rows : List (List Value)} {w : World} {i : Nat} (h : RwI e sz O base (.slice (some ⟨g, 0, none⟩) l.length cap) l rows i w) (hi : i < l.length) (j : Nat) (hj : j < sz) (u : Value) (ha : Apt e O) (hx : O w ((rows.getD i []).set j u) (l[i]'hi)) :
    RwI e sz O base (.slice (some ⟨g, 0, none⟩) l.length cap) l rows (i + 1) (w.setCell ⟨g, i * sz + j, none⟩ u) ∧ Kept e w (w.setCell ⟨g, i * sz + j, none⟩ u) := by
  obtain ⟨rs, h1, h2, h3, h4, h5⟩ := h
  obtain ⟨s1, s2⟩ := h3.stored (i * sz + j) u
  have k : Kept e w (w.setCell ⟨g, i * sz + j, none⟩ u) := Kept.own (v := .slice (some ⟨g, 0, none⟩) l.length cap) h3 s2
  rw [flat_set rs sz i j u h2 (by omega) hj] at s1
  have hri := h5 i (Nat.le_refl _)
  refine ⟨⟨rs.set i ((rs.getD i []).set j u), by simpa using h1, fun r hr => ?_, s1, fun m hm hmi => ?_, fun m hm => ?_⟩, k⟩
  · rcases List.mem_or_eq_of_mem_set hr with hr | rfl
    · exact h2 r hr
    · rw [List.length_set, List.getD_eq_getElem?_getD, List.getElem?_eq_getElem (by omega)]
      exact h2 _ (List.getElem_mem _)
  · by_cases he : m = i
    · subst he
      rw [List.getD_eq_getElem?_getD (l := rs.set m _), List.getElem?_set_self (by omega), Option.getD_some, hri]
      exact ha _ _ _ _ k hx
    · rw [List.getD_eq_getElem?_getD, List.getElem?_set_ne (fun q => he q.symm), ← List.getD_eq_getElem?_getD]
      exact ha _ _ _ _ k (h4 m hm (by omega))
  · rw [List.getD_eq_getElem?_getD, List.getElem?_set_ne (by omega), ← List.getD_eq_getElem?_getD]
    exact h5 m (by omega)
theorem op_rows {w : World} {l : List Opd} {rows : List (List Value)} (g2 : rows.length = l.length) (g3 : ∀ i (h : i < l.length), opR w (rows.getD i []) l[i]) : (∀ r ∈ rows, r.length = 2) ∧ ∀ r ∈ rows, ∀ u ∈ r, u.oneCell' = true := by
  have hr : ∀ r ∈ rows, ∃ a b, r = [.int .i64 a, .int .u32 b] := by
    intro r hr
    obtain ⟨i, hi, rfl⟩ := List.getElem_of_mem hr
    have := g3 i (by omega)
    rw [List.getD_eq_getElem?_getD, List.getElem?_eq_getElem hi] at this
    exact ⟨_, _, this⟩
  constructor
  · intro r h
    obtain ⟨a, b, rfl⟩ := hr r h
    rfl
  · intro r h u hu
    obtain ⟨a, b, rfl⟩ := hr r h
    simp at hu
    rcases hu with rfl | rfl <;> rfl

theorem w_pcloneOps (v : Value) (l : List Opd) (w : World) (h : RdO w v l) (hz : l.length * 16 ≤ 140737488355328) :
    Calls Try.prog 13 #[v] w fun e w' => ∃ v1, e = .returned v1 ∧ OwO w.heap.size w' v1 l ∧ Below w.heap.size w w' := by
  obtain ⟨rows, g1, g2, g3⟩ := h
  obtain ⟨h1, h2⟩ := op_rows g2 g3
  refine (w_pcloneO v rows w g1 h2 (by omega)).mono ?_
  rintro e w' ⟨v1, rfl, o, b⟩
  exact ⟨v1, rfl, ⟨rows, g2, h1, by rw [← g2]; exact o, fun i hi => g3 i hi⟩, b⟩

/-- the rows of words, instances: their lengths, their cells -/
theorem wrd_rows {w : World} {l : List Wd} {rows : List (List Value)} (g2 : rows.length = l.length) (g3 : ∀ i (h : i < l.length), wrdR w (rows.getD i []) l[i]) : (∀ r ∈ rows, r.length = 5) ∧ ∀ r ∈ rows, ∀ u ∈ r, u.oneCell' = true := by
  have hr : ∀ r ∈ rows, ∃ a b c d e n f, r = [.string a, .int .i64 b, .int .i64 c, .int .u32 d, .slice e n f] := by
    intro r hr
    obtain ⟨i, hi, rfl⟩ := List.getElem_of_mem hr
    obtain ⟨vc, e, q⟩ := g3 i (by omega)
    obtain ⟨ca, cq, rfl⟩ := slr_slice q
    rw [List.getD_eq_getElem?_getD, List.getElem?_eq_getElem hi] at e
    exact ⟨_, _, _, _, _, _, _, e⟩
  constructor
  · intro r h
    obtain ⟨a, b, c, d, e, n, f, rfl⟩ := hr r h
    rfl
  · intro r h u hu
    obtain ⟨a, b, c, d, e, n, f, rfl⟩ := hr r h
    simp at hu
    rcases hu with rfl | rfl | rfl | rfl | rfl <;> rfl
theorem ins_rows {w : World} {l : List Iz} {rows : List (List Value)} (g2 : rows.length = l.length) (g3 : ∀ i (h : i < l.length), insR w (rows.getD i []) l[i]) : (∀ r ∈ rows, r.length = 4) ∧ ∀ r ∈ rows, ∀ u ∈ r, u.oneCell' = true := by
  have hr : ∀ r ∈ rows, ∃ a b c e n f, r = [.int .i64 a, .int .i64 b, .string c, .slice e n f] := by
    intro r hr
    obtain ⟨i, hi, rfl⟩ := List.getElem_of_mem hr
    obtain ⟨vc, e, q⟩ := g3 i (by omega)
    obtain ⟨ca, cq, rfl⟩ := rd_slice q
    rw [List.getD_eq_getElem?_getD, List.getElem?_eq_getElem hi] at e
    exact ⟨_, _, _, _, _, _, e⟩
  constructor
  · intro r h
    obtain ⟨a, b, c, e, n, f, rfl⟩ := hr r h
    rfl
  · intro r h u hu
    obtain ⟨a, b, c, e, n, f, rfl⟩ := hr r h
    simp at hu
    rcases hu with rfl | rfl | rfl | rfl <;> rfl
/-- all that a copy has made so far but its instances -/
structure Cpy (base : Nat) (w : World) (vs vm vw vc vt : Value) (m : Mc) : Prop where
  stack : w.ownsRow base 26 1 vs m.stack.length (m.stack.map (Value.int .u32))
  mem : w.ownsRow base 5 1 vm m.mem.length (m.mem.map (Value.int .u8))
  words : OwW base w vw m.words
  codes : w.ownsRow base 3 1 vc m.codes.length (m.codes.map (Value.int .i64))
  tree : OwnT8 base w vt m.tree
theorem Cpy.below {base : Nat} {w w' : World} {vs vm vw vc vt : Value} {m : Mc} (h : Cpy base w vs vm vw vc vt m) (g : Below w.heap.size w w') : Cpy base w' vs vm vw vc vt m :=
  ⟨own_below h.stack g, own_below h.mem g, OwnR.below h.words g (wrdO_below g), own_below h.codes g, h.tree.below g⟩
theorem Cpy.kept {base : Nat} {T : TypeId} {w w' : World} {vs vm vw vc vt : Value} {m : Mc} (h : Cpy base w vs vm vw vc vt m) (k : Kept T w w') (h8 : ¬ 5 = T) (h32 : ¬ 26 = T) (hp : ¬ 91 = T) (hn : ¬ 70 = T) (hi : ¬ 3 = T) (hw : ¬ 33 = T) (ho : ¬ 49 = T) : Cpy base w' vs vm vw vc vt m :=
  ⟨own_kept k h32 h.stack, own_kept k h8 h.mem, OwnR.kept h.words k hw (wrdO_apt ho), own_kept k hi h.codes, OwnR.kept h.tree k hn (nodO_apt h8 h32 hp)⟩

/-
  Equality of structs of two fields of one cell each, as one step of the model runs it.
-/
theorem equalIn_st2 {P : Program} (w : World) {t a b : TypeId} {s0 s1 : String} (ht : P.underlying t = some (.struct (P.fieldsOf t))) (hp : P.stoodInHeld t = false) (hf : (P.fieldsOf t).toList.map (fun f => (f.name, f.type, f.offset)) = [(s0, a, 0), (s1, b, 1)]) (h0 : s0 ≠ "_") (h1 : s1 ≠ "_")
    (p0 : P.plainKey a = true) (p1 : P.plainKey b = true) {x0 x1 y0 y1 : Value} {c0 c1 : Bool} (e0 : ∀ w, (Op.equalIn 9999 a x0 y0).run P w = .ok c0 w) (e1 : ∀ w, (Op.equalIn 9999 b x1 y1).run P w = .ok c1 w) :
    (Op.equalIn 10000 t (.agg #[x0, x1]) (.agg #[y0, y1])).run P w = .ok (c0 && c1) w := by
  rw [show (10000 : Nat) = 9999 + 1 from rfl, run_equalIn_struct w 9999 t _ _ ht hp]
  obtain ⟨f0, f1, hfs⟩ : ∃ f0 f1, (P.fieldsOf t).toList = [f0, f1] := by
    have hl := congrArg List.length hf
    simp only [List.length_map] at hl
    generalize (P.fieldsOf t).toList = l at hl
    match l, hl with
    | [f0, f1], _ => exact ⟨f0, f1, rfl⟩
  rw [hfs] at hf ⊢
  simp only [List.map_cons, List.map_nil, List.cons.injEq, Prod.mk.injEq, and_true] at hf
  obtain ⟨⟨n0, t0, o0⟩, n1, t1, o1⟩ := hf
  have r0 : ∀ w, (part a #[x0, x1] 0).run P w = .ok x0 w := fun w => run_part_plain w p0 rfl
  have r1 : ∀ w, (part a #[y0, y1] 0).run P w = .ok y0 w := fun w => run_part_plain w p0 rfl
  have r2 : ∀ w, (part b #[x0, x1] 1).run P w = .ok x1 w := fun w => run_part_plain w p1 rfl
  have r3 : ∀ w, (part b #[y0, y1] 1).run P w = .ok y1 w := fun w => run_part_plain w p1 rfl
  simp only [Op.eqFields, n0, n1, t0, t1, o0, o1, h0, h1, ne_eq, not_false_eq_true, if_true, Sem.run_bind, r0, r1, Result.andThen_ok, e0]
  cases c0
  · simp
  · simp only [Bool.not_true, Bool.false_eq_true, if_false, Sem.run_bind, r2, r3, Result.andThen_ok, e1]
    cases c1 <;> simp

/-
  SameWord and SameInst of the document's answer.
-/
theorem neq_op (w : World) (A B C D : Int) : (binOp .neq 49 (.agg #[.int .i64 A, .int .u32 B]) (.agg #[.int .i64 C, .int .u32 D])).run Try.prog w = .ok (.bool (!(A == C && B == D))) w := by
  rw [run_neq_struct, equalIn_st2 (a := 3) (b := 26) (s0 := "Kind") (s1 := "N") w (by kernel_rfl) (by kernel_rfl) (by kernel_rfl) (by decide) (by decide) (by kernel_rfl) (by kernel_rfl) (fun w => run_equalIn_int w 9998 3 .i64 .i64 A C Try.underlying3) (fun w => run_equalIn_int w 9998 26 .u32 .u32 B D Try.underlying26)]
  rfl
theorem grd_op : Try.prog.eqGuardType Try.prog.depth 49 = false := by kernel_rfl

def eqW (x y : Wd) : Bool := decide (x = y)
theorem wd_ext (x y : Wd) (h1 : x.1 = y.1) (h2 : x.2.1 = y.2.1) (h3 : x.2.2.1 = y.2.2.1) (h4 : x.2.2.2.1 = y.2.2.2.1) (h5 : x.2.2.2.2 = y.2.2.2.2) : x = y := Prod.ext h1 (Prod.ext h2 (Prod.ext h3 (Prod.ext h4 h5)))

/-
  SameInst of the document's answer.
-/
def eqI (x y : Iz) : Bool := decide (x = y)
theorem iz_ext (x y : Iz) (h1 : x.1 = y.1) (h2 : x.2.1 = y.2.1) (h3 : x.2.2.1 = y.2.2.1) (h4 : x.2.2.2 = y.2.2.2) : x = y := Prod.ext h1 (Prod.ext h2 (Prod.ext h3 h4))

/-
  SameBut and Same of the document's answer: machines held against one another.
-/
/-- the texts of a machine are bytes -/
structure byM (m : Mc) : Prop where
  mem : bytesL m.mem
  tree : ∀ x ∈ m.tree, bytN x
  words : ∀ x ∈ m.words, bytesL x.1
  insts : ∀ x ∈ m.insts, bytesL x.2.2.1
  out : bytesL m.out
def eqB (a b : Mc) : Bool := decide (a.stack = b.stack) && (decide (a.mem = b.mem) && (decide (a.base = b.base) && (eqT a.tree b.tree && (decide (a.node = b.node) && (decide (a.self = b.self) && (decide (a.out = b.out) && (decide (a.words = b.words) && decide (a.insts = b.insts))))))))
def eqM (a b : Mc) : Bool := decide (a.codes = b.codes) && eqB a b
theorem eqB_no {a b : Mc} (h : ¬ (a.stack = b.stack ∧ a.mem = b.mem ∧ a.base = b.base ∧ a.tree = b.tree ∧ a.node = b.node ∧ a.self = b.self ∧ a.out = b.out ∧ a.words = b.words ∧ a.insts = b.insts)) : eqB a b = false := by
  rw [Bool.eq_false_iff]
  intro g
  unfold eqB at g
  simp only [Bool.and_eq_true, decide_eq_true_eq] at g
  obtain ⟨g1, g2, g3, g4, g5, g6, g7, g8, g9⟩ := g
  exact h ⟨g1, g2, g3, @of_decide_eq_true _ (decT _ _) g4, g5, g6, g7, g8, g9⟩
theorem eqB_yes {a b : Mc} (h1 : a.stack = b.stack) (h2 : a.mem = b.mem) (h3 : a.base = b.base) (h4 : a.tree = b.tree) (h5 : a.node = b.node) (h6 : a.self = b.self) (h7 : a.out = b.out) (h8 : a.words = b.words) (h9 : a.insts = b.insts) : eqB a b = true := by
  unfold eqB
  rw [eqT_of h4]
  simp [h1, h2, h3, h5, h6, h7, h8, h9]
theorem eqB_refl (a : Mc) : eqB a a = true := eqB_yes rfl rfl rfl rfl rfl rfl rfl rfl rfl
theorem eqM_refl (a : Mc) : eqM a a = true := by unfold eqM; rw [eqB_refl]; simp
/-- a machine's cells in a box -/
theorem mch_cells {q : World} {b : Nat} {v : Mv} {m : Mc} {o : ByteArray} {T : TypeId} (h : Stands q b (v.cs m o) T) :
    q.cell? ⟨b, 0, none⟩ = some v.vs ∧ q.cell? ⟨b, 1, none⟩ = some v.vm ∧ q.cell? ⟨b, 2, none⟩ = some v.vw ∧ q.cell? ⟨b, 3, none⟩ = some v.vc ∧ q.cell? ⟨b, 4, none⟩ = some (.int .u32 m.base) ∧ q.cell? ⟨b, 5, none⟩ = some v.vt ∧ q.cell? ⟨b, 6, none⟩ = some (.int .i64 m.node) ∧ q.cell? ⟨b, 7, none⟩ = some v.vi ∧ q.cell? ⟨b, 8, none⟩ = some (.int .i64 m.self) ∧ q.cell? ⟨b, 9, none⟩ = some (.string o) :=
  ⟨h.cell 0 _ rfl, h.cell 1 _ rfl, h.cell 2 _ rfl, h.cell 3 _ rfl, h.cell 4 _ rfl, h.cell 5 _ rfl, h.cell 6 _ rfl, h.cell 7 _ rfl, h.cell 8 _ rfl, h.cell 9 _ rfl⟩

/-
  Find and Method of the document's answer.
-/


/-
  Code of the document's answer.
-/


/-
  Copy of the document's answer for machines: what it begins with.
-/
/-- ten cells set, one after another: what does not lie in blocks of their kind stays -/
theorem set10 {w : World} {b : Nat} {z0 z1 z2 z3 z4 z5 z6 z7 z8 z9 : Value} {T : TypeId} (h : Stands w b #[z0, z1, z2, z3, z4, z5, z6, z7, z8, z9] T) (a0 a1 a2 a3 a4 a5 a6 a7 a8 a9 : Value) :
    Stands ((((((((((w.setCell ⟨b, 0, none⟩ a0).setCell ⟨b, 1, none⟩ a1).setCell ⟨b, 2, none⟩ a2).setCell ⟨b, 3, none⟩ a3).setCell ⟨b, 4, none⟩ a4).setCell ⟨b, 5, none⟩ a5).setCell ⟨b, 6, none⟩ a6).setCell ⟨b, 7, none⟩ a7).setCell ⟨b, 8, none⟩ a8).setCell ⟨b, 9, none⟩ a9) b #[a0, a1, a2, a3, a4, a5, a6, a7, a8, a9] T ∧ ∀ Q : World → Prop, (∀ u u', Kept T u u' → Q u → Q u') → Q w → Q ((((((((((w.setCell ⟨b, 0, none⟩ a0).setCell ⟨b, 1, none⟩ a1).setCell ⟨b, 2, none⟩ a2).setCell ⟨b, 3, none⟩ a3).setCell ⟨b, 4, none⟩ a4).setCell ⟨b, 5, none⟩ a5).setCell ⟨b, 6, none⟩ a6).setCell ⟨b, 7, none⟩ a7).setCell ⟨b, 8, none⟩ a8).setCell ⟨b, 9, none⟩ a9) := by
  have h0 := h.set 0 a0
  have h1 := h0.set 1 a1
  have h2 := h1.set 2 a2
  have h3 := h2.set 3 a3
  have h4 := h3.set 4 a4
  have h5 := h4.set 5 a5
  have h6 := h5.set 6 a6
  have h7 := h6.set 7 a7
  have h8 := h7.set 8 a8
  have h9 := h8.set 9 a9
  exact ⟨by simpa only [List.setIfInBounds_toArray, List.set_cons_zero, List.set_cons_succ] using h9, fun Q hQ q => hQ _ _ (set_kept h8 9 a9) (hQ _ _ (set_kept h7 8 a8) (hQ _ _ (set_kept h6 7 a7) (hQ _ _ (set_kept h5 6 a6) (hQ _ _ (set_kept h4 5 a5) (hQ _ _ (set_kept h3 4 a4) (hQ _ _ (set_kept h2 3 a3) (hQ _ _ (set_kept h1 2 a2) (hQ _ _ (set_kept h0 1 a1) (hQ _ _ (set_kept h 0 a0) (q))))))))))⟩
theorem OwnT8.kept {base : Nat} {T : TypeId} {w w' : World} {v : Value} {t : List Nd} (h : OwnT8 base w v t) (k : Kept T w w') (h8 : ¬ 5 = T) (h32 : ¬ 26 = T) (hp : ¬ 91 = T) (hn : ¬ 70 = T) : OwnT8 base w' v t := OwnR.kept h k hn (nodO_apt h8 h32 hp)
theorem infoJ : (Try.prog.info? 3).map (fun i => (i.zero, i.size, i.bytes)) = some (some (.int .i64 0), 1, 8) := by kernel_rfl
/-- how much a machine may hold -/
structure szM (m : Mc) : Prop where
  stack : m.stack.length * 4 ≤ 140737488355328
  mem : m.mem.length ≤ 140737488355328
  words : m.words.length * 64 ≤ 140737488355328
  ops : ∀ x ∈ m.words, x.2.2.2.2.length * 16 ≤ 140737488355328
  codes : m.codes.length * 8 ≤ 140737488355328
  tree : m.tree.length * 96 ≤ 140737488355328
  nods : ∀ x ∈ m.tree, sizN x
  insts : m.insts.length * 56 ≤ 140737488355328
  cels : ∀ x ∈ m.insts, x.2.2.2.length * 4 ≤ 140737488355328

end Go.Proofs.Ytfljcfpcokimcab
