/-
  Drafts of code in memory: what rows read as, and rows of the call's own.
-/
import Derived.Test.YtfmpeminfcehaaaPk1
import Derived.Test.YtfmpeminfcehaaaOpm
import Derived.Test.YtfmpeminfcehaaaIj
import Derived.Test.YtfmpeminfcehaaaGen
namespace Go.Proofs.Ytfmpeminfcehaaa
open Go.ChangeShapes Go.WideShapes Go.ChangeAt Go.RowKit
set_option linter.unusedVariables false
set_option linter.unusedSimpArgs false

def opnR (w : World) (cs : List Value) (x : Opn) : Prop := ∃ vo, cs = [.int .i64 x.1, vo] ∧ Rd .i64 w vo x.2
theorem opnR_below {w w' : World} (g : Below w.heap.size w w') (cs : List Value) (x : Opn) (h : opnR w cs x) : opnR w' cs x := by
  obtain ⟨v, h1, h2⟩ := h
  exact ⟨v, h1, h2.below g⟩
/-- loops and cases that are open, read -/
def RdN (w : World) (v : Value) (l : List Opn) : Prop := SlR 2 opnR w v l
theorem RdN.below {w w' : World} {v : Value} {l : List Opn} (h : RdN w v l) (g : Below w.heap.size w w') : RdN w' v l := SlR.below h g (opnR_below g)
/-- a draft's five cells -/
structure Dv where
  vc : Value
  vo : Value
  vd : Value
  vl : Value
  vk : Value
def Dv.cs (v : Dv) : Array Value := #[v.vc, v.vo, v.vd, v.vl, v.vk]
structure RdD (w : World) (v : Dv) (d : Dft) : Prop where
  code : RdO w v.vc d.code
  origs : Rd .i64 w v.vo d.origs
  dests : Rd .i64 w v.vd d.dests
  loops : RdN w v.vl d.loops
  cases : RdN w v.vk d.cases
theorem RdD.below {w w' : World} {v : Dv} {d : Dft} (h : RdD w v d) (g : Below w.heap.size w w') : RdD w' v d :=
  ⟨h.code.below g, h.origs.below g, h.dests.below g, h.loops.below g, h.cases.below g⟩

theorem uK : Try.prog.underlying 24 = some (.slice (Try.prog.elem 24)) := by kernel_rfl
theorem eK : Try.prog.elem 24 = 58 := by kernel_rfl
theorem zK (w : World) : (sizeOf (Try.prog.elem 24)).run Try.prog w = .ok 2 w := by rw [eK]; exact Try.sizeOf58 w
theorem opn_at {w : World} {v : Value} {l : List Opn} (h : RdN w v l) (i : Nat) (h1 : i < l.length) :
    ∃ (b o : Nat) (vo : Value), (∀ w', (Instr.indexAt 24 v (.int .i64 (i : Int))).run Try.prog w' = .ok (.pointer (some ⟨b, o, none⟩)) w') ∧ w.cell? ⟨b, o, none⟩ = some (.int .i64 l[i].1) ∧ w.cell? ⟨b, o + 1, none⟩ = some vo ∧ Rd .i64 w vo l[i].2 := by
  obtain ⟨b, o, cs, r, hl, hc, vo, rfl, h2⟩ := slr_idxN h uK zK i h1
  exact ⟨b, o, vo, r, hc 0 (by omega), hc 1 (by omega), h2⟩
theorem infoOp10 : (Try.prog.info? 37).map (fun i => (i.zero, i.size, i.bytes)) = some (some (.agg #[.int .i64 0, .int .u32 0]), 2, 16) := by kernel_rfl
theorem infoJ10 : (Try.prog.info? 3).map (fun i => (i.zero, i.size, i.bytes)) = some (some (.int .i64 0), 1, 8) := by kernel_rfl
theorem infoOn10 : (Try.prog.info? 58).map (fun i => (i.zero, i.size, i.bytes)) = some (some (.agg #[.int .i64 0, .slice none 0 0]), 2, 32) := by kernel_rfl
def opnO (base : Nat) (w : World) (cs : List Value) (x : Opn) : Prop := ∃ vo, cs = [.int .i64 x.1, vo] ∧ w.ownsRow base 3 1 vo x.2.length (x.2.map (Value.int .i64))
theorem opnO_R {base : Nat} {w : World} (cs : List Value) (x : Opn) (h : opnO base w cs x) : opnR w cs x := by
  obtain ⟨v, h1, h2⟩ := h
  exact ⟨v, h1, (Rd_own h2).1⟩
theorem opnO_apt {base : Nat} {T : TypeId} (h : ¬ 3 = T) : Apt T (opnO base) := by
  rintro w w' cs x k ⟨v, h1, h2⟩
  exact ⟨v, h1, own_kept k h h2⟩
theorem opnO_below {base : Nat} {w w' : World} (g : Below w.heap.size w w') (cs : List Value) (x : Opn) (h : opnO base w cs x) : opnO base w' cs x := by
  obtain ⟨v, h1, h2⟩ := h
  exact ⟨v, h1, own_below h2 g⟩
theorem opnO_le {b b' : Nat} {w : World} (hb : b ≤ b') (cs : List Value) (x : Opn) (h : opnO b' w cs x) : opnO b w cs x := by
  obtain ⟨v, h1, h2⟩ := h
  exact ⟨v, h1, own_le hb h2⟩
/-- lies below a bound -/
def LtB (v : Value) (h : Nat) : Prop := ∀ g, v.ownBlock = some g → g < h
theorem LtB.le {v : Value} {a b : Nat} (h : LtB v a) (hb : a ≤ b) : LtB v b := fun g hg => Nat.lt_of_lt_of_le (h g hg) hb
theorem own_ltB {w : World} {base : Nat} {e : TypeId} {sz : Nat} {v : Value} {n : Nat} {cs : List Value} (o : w.ownsRow base e sz v n cs) : LtB v w.heap.size := fun g hg => (o.lt g hg).2
/-- the branches of unlike ones lie in blocks apart -/
def SepK (rows : List (List Value)) : Prop := ∀ i j g, i < j → j < rows.length → ((rows.getD i []).getD 1 (.slice none 0 0)).ownBlock = some g → ((rows.getD j []).getD 1 (.slice none 0 0)).ownBlock ≠ some g
theorem sepK_snoc {rows : List (List Value)} {row : List Value} (h : SepK rows) (hn : ∀ i g, i < rows.length → ((rows.getD i []).getD 1 (.slice none 0 0)).ownBlock = some g → (row.getD 1 (.slice none 0 0)).ownBlock ≠ some g) : SepK (rows ++ [row]) := by
  intro i j g hij hj h1
  rw [List.length_append, List.length_singleton] at hj
  have e1 : (rows ++ [row]).getD i [] = rows.getD i [] := by rw [List.getD_eq_getElem?_getD, List.getElem?_append_left (by omega), ← List.getD_eq_getElem?_getD]
  rw [e1] at h1
  by_cases hjl : j < rows.length
  · have e2 : (rows ++ [row]).getD j [] = rows.getD j [] := by rw [List.getD_eq_getElem?_getD, List.getElem?_append_left (by omega), ← List.getD_eq_getElem?_getD]
    rw [e2]
    exact h i j g hij hjl h1
  · have e3 : j = rows.length := by omega
    subst e3
    have e2 : (rows ++ [row]).getD rows.length [] = row := by rw [List.getD_eq_getElem?_getD, List.getElem?_append_right (Nat.le_refl _)]; simp
    rw [e2]
    exact hn i g hij h1
/-- what is open, of the call's own; its blocks lie between two bounds -/
def OwN (lo hi : Nat) (w : World) (v : Value) (l : List Opn) : Prop := ∃ rows : List (List Value), rows.length = l.length ∧ (∀ r ∈ rows, r.length = 2) ∧ w.ownsRow lo 58 2 v l.length rows.flatten ∧ (∀ i (h : i < l.length), opnO lo w (rows.getD i []) l[i]) ∧ SepK rows ∧ LtB v hi ∧ ∀ i, i < rows.length → LtB ((rows.getD i []).getD 1 (.slice none 0 0)) hi
theorem OwN.own {lo hi : Nat} {w : World} {v : Value} {l : List Opn} (h : OwN lo hi w v l) : OwnR 58 2 (opnO lo) lo w v l := by
  obtain ⟨rows, h1, h2, h3, h4, _⟩ := h
  exact ⟨rows, h1, h2, h3, h4⟩
theorem OwN.read {lo hi : Nat} {w : World} {v : Value} {l : List Opn} (h : OwN lo hi w v l) : RdN w v l := OwnR.read (by decide) h.own opnO_R
theorem OwN.nil (lo hi : Nat) (w : World) : OwN lo hi w (.slice none 0 0) [] :=
  ⟨[], rfl, by simp, World.ownsRow_nil _ _ _ _, (fun i hi => by simp at hi), (fun i j g hij hj => by simp at hj), (fun g hg => by cases hg), (fun i hi => by simp at hi)⟩
theorem OwN.kept {lo hi : Nat} {T : TypeId} {w w' : World} {v : Value} {l : List Opn} (h : OwN lo hi w v l) (k : Kept T w w') (h1 : ¬ 58 = T) (h2 : ¬ 3 = T) : OwN lo hi w' v l := by
  obtain ⟨rows, a1, a2, a3, a4, a5⟩ := h
  exact ⟨rows, a1, a2, own_kept k h1 a3, fun i hi => opnO_apt h2 _ _ _ _ k (a4 i hi), a5⟩
theorem OwN.below {lo hi : Nat} {w w' : World} {v : Value} {l : List Opn} (h : OwN lo hi w v l) (g : Below w.heap.size w w') : OwN lo hi w' v l := h.kept (T := 35) (Kept.below g) (by decide) (by decide)
theorem OwN.mono {lo lo' hi hi' : Nat} {w : World} {v : Value} {l : List Opn} (h : OwN lo hi w v l) (hl : lo' ≤ lo) (hh : hi ≤ hi') : OwN lo' hi' w v l := by
  obtain ⟨rows, a1, a2, a3, a4, a5, a6, a7⟩ := h
  exact ⟨rows, a1, a2, own_le hl a3, fun i hi => opnO_le hl _ _ (a4 i hi), a5, a6.le hh, fun i hi => (a7 i hi).le hh⟩
def OwC (base : Nat) (w : World) (v : Value) (l : List Opd) : Prop := OwnR 37 2 opR base w v l
theorem opR_apt10 {T : TypeId} : Apt T opR := fun _ _ _ _ _ h => h
/-- a draft of the call's own: its lists one behind the other -/
structure OwD (base : Nat) (w : World) (v : Dv) (d : Dft) (b1 b2 b3 : Nat) : Prop where
  code : OwC base w v.vc d.code
  origs : w.ownsRow base 3 1 v.vo d.origs.length (d.origs.map (Value.int .i64))
  origsL : LtB v.vo b1
  dests : w.ownsRow b1 3 1 v.vd d.dests.length (d.dests.map (Value.int .i64))
  destsL : LtB v.vd b2
  loops : OwN b2 b3 w v.vl d.loops
  cases : OwN b3 w.heap.size w v.vk d.cases
  le1 : base ≤ b1
  le2 : b1 ≤ b2
  le3 : b2 ≤ b3
  le4 : b3 ≤ w.heap.size
theorem OwD.read {base b1 b2 b3 : Nat} {w : World} {v : Dv} {d : Dft} (h : OwD base w v d b1 b2 b3) : RdD w v d :=
  ⟨OwnR.read (by decide) h.code (fun _ _ q => q), (Rd_own h.origs).1, (Rd_own h.dests).1, h.loops.read, h.cases.read⟩
theorem grown_size {w w' : World} {r : Option Nat} (g : w.grownBy w' r) : w.heap.size ≤ w'.heap.size := g.size
theorem Kept.size {T : TypeId} {w w' : World} (k : Kept T w w') : w.heap.size ≤ w'.heap.size := by
  obtain ⟨row, g, _⟩ := k
  exact g.size
theorem OwD.kept {base b1 b2 b3 : Nat} {T : TypeId} {w w' : World} {v : Dv} {d : Dft} (h : OwD base w v d b1 b2 b3) (k : Kept T w w') (ho : ¬ 37 = T) (hj : ¬ 3 = T) (hn : ¬ 58 = T) : OwD base w' v d b1 b2 b3 :=
  ⟨OwnR.kept h.code k ho opR_apt10, own_kept k hj h.origs, h.origsL, own_kept k hj h.dests, h.destsL, h.loops.kept k hn hj, (h.cases.kept k hn hj).mono (Nat.le_refl _) k.size, h.le1, h.le2, h.le3, Nat.le_trans h.le4 k.size⟩
theorem OwD.below {base b1 b2 b3 : Nat} {w w' : World} {v : Dv} {d : Dft} (h : OwD base w v d b1 b2 b3) (g : Below w.heap.size w w') : OwD base w' v d b1 b2 b3 := h.kept (T := 35) (Kept.below g) (by decide) (by decide) (by decide)
/-- the code of a draft grown or written: all else stands -/
theorem OwD.code' {base b1 b2 b3 : Nat} {w w' : World} {v : Dv} {d : Dft} (h : OwD base w v d b1 b2 b3) (k : Kept 37 w w') {vc : Value} {c : List Opd} (hc : OwC base w' vc c) : OwD base w' { v with vc := vc } { d with code := c } b1 b2 b3 :=
  ⟨hc, own_kept k (by decide) h.origs, h.origsL, own_kept k (by decide) h.dests, h.destsL, h.loops.kept k (by decide) (by decide), (h.cases.kept k (by decide) (by decide)).mono (Nat.le_refl _) k.size, h.le1, h.le2, h.le3, Nat.le_trans h.le4 k.size⟩
end Go.Proofs.Ytfmpeminfcehaaa
