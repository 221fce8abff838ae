/-
  Rows of deeds on drafts: what is built is sound; what is complete by itself and built in between lies in between, its branches shifted. Lists alone.
-/
import Derived.Test.YtfmpeminfcehaaaPk1
namespace Go.Proofs.Ytfmpeminfcehaaa
set_option linter.unusedVariables false
set_option linter.unusedSimpArgs false

/-- a deed: an act, or (0) an instruction that is put -/
abbrev Ded := Int × Opd
def stpD (d : Dft) (x : Ded) : Dft × Int := if x.1 = 0 then putD d x.2 else actD d x.1
/-- deeds done on a draft as long as none is refused: what comes, how many were done, the error -/
def bldD (d : Dft) : List Ded → Dft × Nat × Int
  | [] => (d, 0, 0)
  | x :: l => if (stpD d x).2 = 0 then ((bldD (stpD d x).1 l).1, (bldD (stpD d x).1 l).2.1 + 1, (bldD (stpD d x).1 l).2.2) else (d, 0, (stpD d x).2)
theorem stp_formed {d : Dft} {x : Ded} (h : (stpD d x).2 = 0) : frmD (stpD d x).1 = true := by
  unfold stpD at h ⊢
  split at h
  · rename_i g
    rw [if_pos g]
    exact put_formed h
  · rename_i g
    rw [if_neg g]
    exact act_formed h
theorem put_err (d : Dft) (o : Opd) : (putD d o).2 = 0 ∨ (putD d o).2 = 1 ∨ (putD d o).2 = 3 := by
  unfold putD
  split
  · simp
  · split <;> simp
theorem act_err (d : Dft) (a : Int) : (actD d a).2 = 0 ∨ (actD d a).2 = 1 ∨ (actD d a).2 = 13 ∨ (actD d a).2 = 3 := by
  unfold actD
  split
  · simp
  · split
    · simp
    · split <;> simp
theorem stp_err (d : Dft) (x : Ded) : (stpD d x).2 = 0 ∨ (stpD d x).2 = 1 ∨ (stpD d x).2 = 13 ∨ (stpD d x).2 = 3 := by
  unfold stpD
  split
  · rcases put_err d x.2 with h | h | h
    · exact Or.inl h
    · exact Or.inr (Or.inl h)
    · exact Or.inr (Or.inr (Or.inr h))
  · exact act_err d x.1
theorem bld_err (l : List Ded) : ∀ d : Dft, (bldD d l).2.2 = 0 ∨ (bldD d l).2.2 = 1 ∨ (bldD d l).2.2 = 13 ∨ (bldD d l).2.2 = 3 := by
  induction l with
  | nil => intro d; exact Or.inl rfl
  | cons x l ih =>
    intro d
    unfold bldD
    split
    · exact ih _
    · exact stp_err d x
theorem bld_formed (l : List Ded) : ∀ d : Dft, frmD d = true → frmD (bldD d l).1 = true := by
  induction l with
  | nil => intro d h; exact h
  | cons x l ih =>
    intro d h
    unfold bldD
    split
    · rename_i g
      exact ih _ (stp_formed g)
    · exact h
theorem bld_len (l : List Ded) : ∀ d : Dft, (bldD d l).2.2 = 0 → (bldD d l).2.1 = l.length := by
  induction l with
  | nil => intro d h; rfl
  | cons x l ih =>
    intro d h
    unfold bldD at h ⊢
    split at h
    · rename_i g
      rw [if_pos g]
      show _ + 1 = _
      rw [ih _ h]
      rfl
    · rename_i g
      exact absurd h g

/-! sound -/
def BrO (x : Opd) : Prop := 3 ≤ x.1 ∧ x.1 ≤ 10
/-- each branch leads to one of so many places -/
def SndC (c : List Opd) (n : Nat) : Prop := ∀ x ∈ c, BrO x → 0 ≤ x.2 ∧ x.2 ≤ n
theorem SndC.le {c : List Opd} {n m : Nat} (h : SndC c n) (hm : n ≤ m) : SndC c m := fun x hx hb => by have := h x hx hb; omega
theorem SndC.app {c : List Opd} {n : Nat} (h : SndC c n) {o : Opd} (ho : BrO o → 0 ≤ o.2 ∧ o.2 ≤ n) : SndC (c ++ [o]) n := by
  intro x hx hb
  rcases List.mem_append.1 hx with hx | hx
  · exact h x hx hb
  · rw [List.mem_singleton] at hx
    subst hx
    exact ho hb
theorem SndC.set {c : List Opd} {n : Nat} (h : SndC c n) (m to : Int) (ht : 0 ≤ to ∧ to ≤ n) : SndC (setN c m to) n := by
  intro x hx hb
  unfold setN at hx
  rcases List.mem_or_eq_of_mem_set hx with hx | rfl
  · exact h x hx hb
  · exact ht
theorem SndC.aim {n : Nat} (l : List Int) (to : Int) (ht : 0 ≤ to ∧ to ≤ n) : ∀ {c : List Opd}, SndC c n → SndC (aimF c l to) n := by
  induction l with
  | nil => intro c h; exact h
  | cons m l ih =>
    intro c h
    exact ih (h.set m to ht)
theorem put_sound {d : Dft} {o : Opd} (h : (putD d o).2 = 0) (s : SndC d.code d.code.length) : SndC (putD d o).1.code (putD d o).1.code.length := by
  obtain ⟨h1, h2, h3, e⟩ := put_ok h
  rw [e]
  show SndC (d.code ++ [o]) (d.code ++ [o]).length
  refine (s.le (by simp)).app fun hb => ?_
  unfold putK at h2
  rw [decide_eq_true_eq] at h2
  obtain ⟨b1, b2⟩ := hb
  omega
theorem act_sound {d : Dft} {a : Int} (h : (actD d a).2 = 0) (s : SndC d.code d.code.length) : SndC (actD d a).1.code (actD d a).1.code.length := by
  obtain ⟨h1, h2, h3, h4, h5, e⟩ := act_ok h
  have F := (frm_iff d).1 h1
  obtain ⟨L1, L2⟩ := lay_len F.len h5
  have S : SndC (layF d a) (layF d a).length := by
    unfold layF
    split
    · exact s
    · exact (s.le (by simp)).app (fun _ => by show (0 : Int) ≤ 0 ∧ (0 : Int) ≤ _; omega)
  rw [e]
  have hcs : a = 1 ∨ a = 2 ∨ a = 3 ∨ a = 4 ∨ a = 5 ∨ a = 6 ∨ a = 7 ∨ a = 8 ∨ a = 9 ∨ a = 10 ∨ a = 11 ∨ a = 12 ∨ a = 13 ∨ a = 14 ∨ a = 15 := by omega
  generalize layF d a = c at S L1 L2 ⊢
  have hdest : ¬ d.dests = [] → 0 ≤ nwI d.dests ∧ nwI d.dests ≤ c.length := by
    intro g
    have := F.dests _ (nwI_mem g)
    unfold okDe at this
    rw [decide_eq_true_eq] at this
    omega
  have hloop : ¬ d.loops = [] → 0 ≤ (nwO d.loops).1 + 1 ∧ (nwO d.loops).1 + 1 ≤ c.length := by
    intro g
    have := F.loops _ (nwO_mem g)
    unfold okLo at this
    rw [Bool.and_eq_true, decide_eq_true_eq] at this
    have := knd_lt (c := d.code) (n := (nwO d.loops).1) (by omega)
    omega
  rcases hcs with rfl | rfl | rfl | rfl | rfl | rfl | rfl | rfl | rfl | rfl | rfl | rfl | rfl | rfl | rfl
  · exact S
  · exact S
  · show SndC (aimF c _ _) (aimF c _ _).length
    rw [aim_len]
    exact S.aim _ _ ⟨by omega, Int.le_refl _⟩
  · exact S
  · show SndC (setN c _ _) (setN c _ _).length
    rw [set_len]
    exact S.set _ _ (hdest (by simpa [lakF] using h4))
  · show SndC (setN c _ _) (setN c _ _).length
    rw [set_len]
    exact S.set _ _ (hdest (by simpa [lakF] using h4))
  · exact S
  · exact S
  · show SndC (aimF (setN c _ _) _ _) (aimF (setN c _ _) _ _).length
    rw [aim_len, set_len]
    exact (S.set _ _ (hloop (by simpa [lakF] using h4))).aim _ _ ⟨by omega, Int.le_refl _⟩
  · show SndC (aimF (setN c _ _) _ _) (aimF (setN c _ _) _ _).length
    rw [aim_len, set_len]
    exact (S.set _ _ (hloop (by simpa [lakF] using h4))).aim _ _ ⟨by omega, Int.le_refl _⟩
  · exact S
  · exact S
  · exact S
  · show SndC (setN c _ _) (setN c _ _).length
    rw [set_len]
    exact S.set _ _ ⟨by omega, Int.le_refl _⟩
  · show SndC (aimF c _ _) (aimF c _ _).length
    rw [aim_len]
    exact S.aim _ _ ⟨by omega, Int.le_refl _⟩
theorem stp_sound {d : Dft} {x : Ded} (h : (stpD d x).2 = 0) (s : SndC d.code d.code.length) : SndC (stpD d x).1.code (stpD d x).1.code.length := by
  unfold stpD at h ⊢
  split at h
  · rename_i g
    rw [if_pos g]
    exact put_sound h s
  · rename_i g
    rw [if_neg g]
    exact act_sound h s
theorem bld_sound (l : List Ded) : ∀ d : Dft, SndC d.code d.code.length → SndC (bldD d l).1.code (bldD d l).1.code.length := by
  induction l with
  | nil => intro d h; exact h
  | cons x l ih =>
    intro d h
    unfold bldD
    split
    · rename_i g
      exact ih _ (stp_sound g h)
    · exact h
theorem nil_sound : SndC nilD.code nilD.code.length := fun x hx => by cases hx

/-! in between -/
/-- an instruction that lies so much further on -/
def shN (s : Int) (x : Opd) : Opd := if 3 ≤ x.1 ∧ x.1 ≤ 10 then (x.1, x.2 + s) else x
/-- the same instructions but shifted, where they don't wait for their place -/
def SimC (P : Int → Prop) (s : Int) (X Y : List Opd) : Prop := Y.length = X.length ∧ ∀ j : Nat, j < X.length → (Y.getD j (0, 0)).1 = (X.getD j (0, 0)).1 ∧ (¬ P j → Y.getD j (0, 0) = shN s (X.getD j (0, 0)))
theorem SimC.mono {P Q : Int → Prop} {s : Int} {X Y : List Opd} (h : SimC P s X Y) (hq : ∀ j : Int, 0 ≤ j → P j → Q j) : SimC Q s X Y :=
  ⟨h.1, fun j hj => ⟨(h.2 j hj).1, fun g => (h.2 j hj).2 fun q => g (hq j (by omega) q)⟩⟩
theorem getD_snoc {X : List Opd} (o : Opd) (j : Nat) : (X ++ [o]).getD j (0, 0) = if j < X.length then X.getD j (0, 0) else if j = X.length then o else (0, 0) := by
  rw [List.getD_eq_getElem?_getD]
  split
  · rename_i h
    rw [List.getElem?_append_left h, List.getD_eq_getElem?_getD]
  · rename_i h
    rw [List.getElem?_append_right (by omega)]
    split
    · rename_i g
      rw [g]
      simp
    · rename_i g
      rw [List.getElem?_eq_none (by simp; omega)]
      rfl
/-- one more, that waits -/
theorem SimC.wait {P : Int → Prop} {s : Int} {X Y : List Opd} (h : SimC P s X Y) (k : Int) : SimC (fun j => P j ∨ j = X.length) s (X ++ [(k, 0)]) (Y ++ [(k, 0)]) := by
  refine ⟨by simp [h.1], fun j hj => ?_⟩
  rw [getD_snoc, getD_snoc, h.1]
  by_cases g : j < X.length
  · rw [if_pos g, if_pos g]
    exact ⟨(h.2 j g).1, fun q => (h.2 j g).2 fun p => q (Or.inl p)⟩
  · have e : j = X.length := by simp at hj; omega
    rw [if_neg g, if_pos e, if_neg g]
    exact ⟨rfl, fun q => absurd (Or.inr (by rw [e])) q⟩
/-- one more that is no branch -/
theorem SimC.more {P : Int → Prop} {s : Int} {X Y : List Opd} (h : SimC P s X Y) (o : Opd) (ho : ¬ (3 ≤ o.1 ∧ o.1 ≤ 10)) : SimC P s (X ++ [o]) (Y ++ [o]) := by
  refine ⟨by simp [h.1], fun j hj => ?_⟩
  rw [getD_snoc, getD_snoc, h.1]
  by_cases g : j < X.length
  · rw [if_pos g, if_pos g]
    exact h.2 j g
  · have e : j = X.length := by simp at hj; omega
    rw [if_neg g, if_pos e, if_neg g]
    exact ⟨rfl, fun q => by unfold shN; rw [if_neg ho]⟩
theorem getD_setN (c : List Opd) (n to : Int) (j : Nat) (hj : j < c.length) : (setN c n to).getD j (0, 0) = if n.toNat = j then ((c.getD j (0, 0)).1, to) else c.getD j (0, 0) := by
  unfold setN
  rw [List.getD_eq_getElem?_getD]
  split
  · rename_i e
    rw [e, List.getElem?_set_self hj]
    rfl
  · rename_i e
    rw [List.getElem?_set_ne e, List.getD_eq_getElem?_getD]
/-- one is given its place -/
theorem SimC.set {P : Int → Prop} {s : Int} {X Y : List Opd} (h : SimC P s X Y) (n to : Int) (hn : 0 ≤ n) (hb : n < X.length → 3 ≤ (X.getD n.toNat (0, 0)).1 ∧ (X.getD n.toNat (0, 0)).1 ≤ 10) : SimC (fun j => P j ∧ ¬ j = n) s (setN X n to) (setN Y n (to + s)) := by
  refine ⟨by rw [set_len, set_len, h.1], fun j hj => ?_⟩
  rw [set_len] at hj
  rw [getD_setN _ _ _ _ hj, getD_setN _ _ _ _ (by rw [h.1]; exact hj)]
  by_cases e : n.toNat = j
  · rw [if_pos e, if_pos e]
    refine ⟨(h.2 j hj).1, fun _ => ?_⟩
    have hb2 := hb (by omega)
    rw [e] at hb2
    unfold shN
    rw [if_pos hb2]
    rw [(h.2 j hj).1]
  · rw [if_neg e, if_neg e]
    refine ⟨(h.2 j hj).1, fun q => (h.2 j hj).2 fun p => q ⟨p, by omega⟩⟩
theorem knd_br {X : List Opd} {n : Int} (h : 3 ≤ kndF X n ∧ kndF X n ≤ 10) : 0 ≤ n ∧ (n < X.length → 3 ≤ (X.getD n.toNat (0, 0)).1 ∧ (X.getD n.toNat (0, 0)).1 ≤ 10) := by
  have hl := knd_lt (c := X) (n := n) (by omega)
  rw [knd_at hl.1 hl.2] at h
  exact ⟨hl.1, fun _ => h⟩
theorem SimC.aim {s : Int} (l : List Int) (to : Int) : ∀ {P : Int → Prop} {X Y : List Opd}, SimC P s X Y → (∀ n ∈ l, 3 ≤ kndF X n ∧ kndF X n ≤ 10) → SimC (fun j => P j ∧ ¬ j ∈ l) s (aimF X l to) (aimF Y l (to + s)) := by
  induction l with
  | nil => intro P X Y h _; exact h.mono (fun j _ p => ⟨p, by simp⟩)
  | cons n l ih =>
    intro P X Y h hl
    have hn := knd_br (hl n (by simp))
    have := ih (h.set n to hn.1 hn.2) (fun m hm => by rw [knd_set]; exact hl m (by simp [hm]))
    exact this.mono (fun j _ p => ⟨p.1.1, by simp; exact ⟨p.1.2, p.2⟩⟩)
theorem set_app (D Y : List Opd) (n to : Int) (hn : 0 ≤ n) : setN (D ++ Y) (n + D.length) to = D ++ setN Y n to := by
  unfold setN
  have e : (n + (D.length : Int)).toNat = D.length + n.toNat := by omega
  rw [e, List.set_append_right _ _ (by omega)]
  congr 2
  · omega
  · congr 2
    rw [List.getD_eq_getElem?_getD, List.getD_eq_getElem?_getD, List.getElem?_append_right (by omega)]
    congr 2
    omega
theorem aim_app (D : List Opd) (l : List Int) (to : Int) : ∀ Y : List Opd, (∀ n ∈ l, 0 ≤ n) → aimF (D ++ Y) (l.map (· + (D.length : Int))) to = D ++ aimF Y l to := by
  induction l with
  | nil => intro Y _; rfl
  | cons n l ih =>
    intro Y h
    show aimF (setN (D ++ Y) (n + D.length) to) (l.map (· + (D.length : Int))) to = D ++ aimF (setN Y n to) l to
    rw [set_app D Y n to (h n (by simp)), ih _ (fun m hm => h m (by simp [hm]))]
def shL (s : Int) (x : Opn) : Opn := (x.1 + s, x.2.map (· + s))
def shC (s : Int) (x : Opn) : Opn := (if x.1 = -1 then -1 else x.1 + s, x.2.map (· + s))
/-- which instructions wait for their place -/
def Pend (x : Dft) (j : Int) : Prop := j ∈ x.origs ∨ (∃ o ∈ x.loops, j = o.1 ∨ j ∈ o.2) ∨ ∃ o ∈ x.cases, j = o.1 ∨ j ∈ o.2
structure Sim (d x y : Dft) : Prop where
  code : ∃ Y, y.code = d.code ++ Y ∧ SimC (Pend x) d.code.length x.code Y
  origs : y.origs = d.origs ++ x.origs.map (· + (d.code.length : Int))
  dests : y.dests = d.dests ++ x.dests.map (· + (d.code.length : Int))
  loops : y.loops = d.loops ++ x.loops.map (shL d.code.length)
  cases : y.cases = d.cases ++ x.cases.map (shC d.code.length)
theorem nw_app {α : Type} (a : List α) (b : List α) (z : α) (h : ¬ b = []) : (a ++ b).getD ((a ++ b).length - 1) z = b.getD (b.length - 1) z := by
  have hl : 0 < b.length := List.length_pos_iff.2 h
  rw [List.getD_eq_getElem?_getD, List.getD_eq_getElem?_getD, List.getElem?_append_right (by simp; omega)]
  congr 2
  simp
  omega
theorem nw_map {α β : Type} (f : α → β) (b : List α) (z : α) (z' : β) (h : ¬ b = []) : (b.map f).getD ((b.map f).length - 1) z' = f (b.getD (b.length - 1) z) := by
  have hl : 0 < b.length := List.length_pos_iff.2 h
  rw [List.getD_eq_getElem?_getD, List.getD_eq_getElem?_getD, List.length_map, List.getElem?_map, List.getElem?_eq_getElem (by omega)]
  rfl
theorem nwI_sim (a b : List Int) (s : Int) (h : ¬ b = []) : nwI (a ++ b.map (· + s)) = nwI b + s := by
  unfold nwI
  rw [nw_app _ _ _ (by simpa using h), nw_map (· + s) b 0 0 h]
theorem nwO_sim (a b : List Opn) (f : Opn → Opn) (h : ¬ b = []) : nwO (a ++ b.map f) = f (nwO b) := by
  unfold nwO
  rw [nw_app _ _ _ (by simpa using h), nw_map f b (0, []) (0, []) h]
theorem take_sim {α : Type} (a b : List α) (h : ¬ b = []) : (a ++ b).take ((a ++ b).length - 1) = a ++ b.take (b.length - 1) := by
  have hl : 0 < b.length := List.length_pos_iff.2 h
  rw [List.take_append, List.take_of_length_le (by simp; omega)]
  congr 2
  simp
  omega
theorem set_sim {α : Type} (a b : List α) (y : α) (h : ¬ b = []) : (a ++ b).set ((a ++ b).length - 1) y = a ++ b.set (b.length - 1) y := by
  have hl : 0 < b.length := List.length_pos_iff.2 h
  rw [List.set_append_right _ _ (by simp; omega)]
  congr 2
  simp
  omega
theorem take_map_ {α β : Type} (f : α → β) (b : List α) : (b.map f).take ((b.map f).length - 1) = (b.take (b.length - 1)).map f := by rw [List.length_map, List.map_take]
theorem set_map_ {α β : Type} (f : α → β) (b : List α) (y : α) : (b.map f).set ((b.map f).length - 1) (f y) = (b.set (b.length - 1) y).map f := by rw [List.length_map, List.map_set]
/-- of a list: its last one, and the others -/
theorem last_split {α : Type} (b : List α) (z : α) (h : ¬ b = []) : b = b.take (b.length - 1) ++ [b.getD (b.length - 1) z] := by
  have hl : 0 < b.length := List.length_pos_iff.2 h
  rw [List.getD_eq_getElem?_getD, List.getElem?_eq_getElem (by omega), Option.getD_some]
  conv => lhs; rw [← List.take_length (l := b)]
  have e : b.length = b.length - 1 + 1 := by omega
  conv => lhs; rw [e]
  rw [List.take_succ_eq_append_getElem (by omega)]
theorem last_set {α : Type} (b : List α) (y : α) (h : ¬ b = []) : b.set (b.length - 1) y = b.take (b.length - 1) ++ [y] := by
  have hl : 0 < b.length := List.length_pos_iff.2 h
  apply List.ext_getElem?
  intro i
  by_cases hi : i < b.length - 1
  · rw [List.getElem?_set_ne (by omega), List.getElem?_append_left (by simp; omega), List.getElem?_take, if_pos hi]
  · by_cases h2 : i = b.length - 1
    · subst h2
      rw [List.getElem?_set_self (by omega), List.getElem?_append_right (by simp)]
      simp
    · rw [List.getElem?_eq_none (by simp; omega), List.getElem?_eq_none (by simp; omega)]
/-- the deeds' step, both ways -/
theorem sim_put {d x y : Dft} {o : Opd} (S : Sim d x y) (h : (putD x o).2 = 0) (hy : frmD y = true) (hl : d.code.length + (putD x o).1.code.length ≤ 256) : (putD y o).2 = 0 ∧ Sim d (putD x o).1 (putD y o).1 := by
  obtain ⟨h1, h2, h3, e⟩ := put_ok h
  rw [e] at hl ⊢
  obtain ⟨Y, y1, y2⟩ := S.code
  have hlen : y.code.length = d.code.length + x.code.length := by rw [y1, List.length_append, y2.1]
  have ey : putD y o = ({ y with code := y.code ++ [o] }, 0) := by
    unfold putD
    rw [if_neg (by rw [hy, h2]; simp), if_neg (by simp at hl; omega)]
  rw [ey]
  refine ⟨rfl, ⟨Y ++ [o], by show y.code ++ [o] = _; rw [y1, List.append_assoc], ?_⟩, S.origs, S.dests, S.loops, S.cases⟩
  refine SimC.more y2 o ?_
  unfold putK at h2
  rw [decide_eq_true_eq] at h2
  omega
theorem sim_lay {d x y : Dft} {a : Int} (S : Sim d x y) : ∃ Y, layF y a = d.code ++ Y ∧ (layF y a).length = d.code.length + (layF x a).length ∧ Y.length = (layF x a).length ∧ (ladF a = 0 → SimC (Pend x) d.code.length (layF x a) Y) ∧ (¬ ladF a = 0 → SimC (fun j => Pend x j ∨ j = x.code.length) d.code.length (layF x a) Y) ∧ (ladF a = 11 → SimC (Pend x) d.code.length (layF x a) Y) := by
  obtain ⟨Y, y1, y2⟩ := S.code
  unfold layF
  by_cases h : ladF a = 0
  · rw [if_pos h, if_pos h]
    exact ⟨Y, y1, by rw [y1, List.length_append, y2.1], y2.1, fun _ => y2, fun g => absurd h g, fun _ => y2⟩
  · rw [if_neg h, if_neg h]
    refine ⟨Y ++ [(ladF a, 0)], by rw [y1, List.append_assoc], by rw [y1]; simp only [List.length_append, y2.1, List.length_singleton]; omega, by simp [y2.1], fun g => absurd g h, fun _ => y2.wait _, fun g => ?_⟩
    rw [g]
    exact y2.more _ (by show ¬ ((3 : Int) ≤ 11 ∧ (11 : Int) ≤ 10); omega)
theorem do_len (d : Dft) (a : Int) (c : List Opd) (p q k : Int) : (doD d a c p q k).code.length = c.length := by
  unfold doD
  by_cases g0 : a = 1
  · rw [if_pos g0]
  · rw [if_neg g0]
    by_cases g1 : a = 2
    · rw [if_pos g1]
    · rw [if_neg g1]
      by_cases g2 : a = 3
      · rw [if_pos g2]
        exact aim_len _ _ _
      · rw [if_neg g2]
        by_cases g3 : a = 4
        · rw [if_pos g3]
        · rw [if_neg g3]
          by_cases g4 : a = 5 ∨ a = 6
          · rw [if_pos g4]
            exact set_len _ _ _
          · rw [if_neg g4]
            by_cases g5 : a = 7 ∨ a = 8
            · rw [if_pos g5]
            · rw [if_neg g5]
              by_cases g6 : a = 9 ∨ a = 10
              · rw [if_pos g6]
                exact (aim_len _ _ _).trans (set_len _ _ _)
              · rw [if_neg g6]
                by_cases g7 : a = 11
                · rw [if_pos g7]
                · rw [if_neg g7]
                  by_cases g8 : a = 12
                  · rw [if_pos g8]
                  · rw [if_neg g8]
                    by_cases g9 : a = 13
                    · rw [if_pos g9]
                    · rw [if_neg g9]
                      by_cases g10 : a = 14
                      · rw [if_pos g10]
                        exact set_len _ _ _
                      · rw [if_neg g10]
                        exact aim_len _ _ _
theorem case_at {x : Dft} (F : Frm x) (h : ¬ x.cases = []) : (nwO x.cases).1 = -1 ∨ 3 ≤ kndF x.code (nwO x.cases).1 ∧ kndF x.code (nwO x.cases).1 ≤ 10 ∧ 0 ≤ (nwO x.cases).1 := by
  have := F.cases _ (nwO_mem h)
  unfold okCa at this
  rw [Bool.and_eq_true, decide_eq_true_eq] at this
  rcases this.1 with g | g
  · exact Or.inl g
  · exact Or.inr ⟨by omega, by omega, (knd_lt (by omega : ¬ kndF x.code (nwO x.cases).1 = 0)).1⟩
theorem lak_sim {d x y : Dft} {a : Int} (S : Sim d x y) (F : Frm x) (h : lakF x a = false) : lakF y a = false := by
  have ho : ¬ x.origs = [] → ¬ y.origs = [] := by rw [S.origs]; intro g; simp [g]
  have hd : ¬ x.dests = [] → ¬ y.dests = [] := by rw [S.dests]; intro g; simp [g]
  have hl : ¬ x.loops = [] → ¬ y.loops = [] := by rw [S.loops]; intro g; simp [g]
  have hc : ¬ x.cases = [] → ¬ y.cases = [] := by rw [S.cases]; intro g; simp [g]
  have hn : ¬ x.cases = [] → nwO y.cases = shC d.code.length (nwO x.cases) := by intro g; rw [S.cases, nwO_sim _ _ _ g]
  have ha : ¬ x.cases = [] → ((nwO y.cases).1 = -1 ↔ (nwO x.cases).1 = -1) := by
    intro g
    rw [hn g]
    unfold shC
    rcases case_at F g with q | q
    · simp [q]
    · show (if (nwO x.cases).1 = -1 then (-1 : Int) else (nwO x.cases).1 + d.code.length) = -1 ↔ _
      rw [if_neg (by omega)]
      omega
  unfold lakF at h ⊢
  split at h
  · rename_i g
    rw [if_pos g]
    simpa using ho (by simpa using h)
  · rename_i g
    rw [if_neg g]
    split at h
    · rename_i g
      rw [if_pos g]
      simpa using hd (by simpa using h)
    · rename_i g
      rw [if_neg g]
      split at h
      · rename_i g
        rw [if_pos g]
        simpa using hl (by simpa using h)
      · rename_i g
        rw [if_neg g]
        split at h
        · rename_i g
          rw [if_pos g]
          rw [Bool.or_eq_false_iff, decide_eq_false_iff_not, decide_eq_false_iff_not] at h ⊢
          exact ⟨hc h.1, fun q => h.2 (fun r => q ((ha h.1).2 r))⟩
        · rename_i g
          rw [if_neg g]
          split at h
          · rename_i g
            rw [if_pos g]
            rw [Bool.or_eq_false_iff, decide_eq_false_iff_not, decide_eq_false_iff_not] at h ⊢
            exact ⟨hc h.1, fun q => h.2 ((ha h.1).1 q)⟩
          · rename_i g
            rw [if_neg g]
theorem map_snoc_ {α β : Type} (f : α → β) (a : List β) (b : List α) (y : α) : (a ++ b.map f) ++ [f y] = a ++ (b ++ [y]).map f := by rw [List.map_append, List.append_assoc]; rfl
theorem sim_act {d x y : Dft} {a : Int} (S : Sim d x y) (h : (actD x a).2 = 0) (hy : frmD y = true) (hl : d.code.length + (actD x a).1.code.length ≤ 256) : (actD y a).2 = 0 ∧ Sim d (actD x a).1 (actD y a).1 := by
  obtain ⟨h1, h2, h3, h4, h5, e⟩ := act_ok h
  have F := (frm_iff x).1 h1
  rw [e] at hl ⊢
  rw [do_len] at hl
  obtain ⟨Y, e1, e2, e3, w0, w1, w2⟩ := sim_lay (a := a) S
  have hyl : y.code.length = d.code.length + x.code.length := by
    obtain ⟨Y0, y1, y2⟩ := S.code
    rw [y1, List.length_append, y2.1]
  have hxl : ¬ ladF a = 0 → (layF x a).length = x.code.length + 1 := by
    intro g
    unfold layF
    rw [if_neg g]
    simp
  have ey : actD y a = (doD y a (layF y a) y.code.length (layF y a).length (ladF a), 0) := by
    unfold actD
    rw [if_neg (by rw [hy]; simp; omega), if_neg (by rw [lak_sim S F h4]; simp), if_neg (by intro g; have := hxl g.1; omega)]
  rw [ey]
  refine ⟨rfl, ?_⟩
  have hYl : ((y.code.length : Nat) : Int) = (x.code.length : Int) + (d.code.length : Int) := by omega
  have hHl : (((layF y a).length : Nat) : Int) = ((layF x a).length : Int) + (d.code.length : Int) := by omega
  have kn := fun k (hk : ladF a = k) (h0 : ¬ k = 0) => lay_knd (d := x) hk h0
  have M := lay_mor x a
  rw [hYl, hHl, e1]
  generalize layF x a = c at *
  clear ey e e1 e2 hHl hYl hyl hy hl hxl
  show Sim d (doD x a c x.code.length c.length (ladF a)) (doD y a (d.code ++ Y) ((x.code.length : Int) + d.code.length) ((c.length : Int) + d.code.length) (ladF a))
  have hcs : a = 1 ∨ a = 2 ∨ a = 3 ∨ a = 4 ∨ (a = 5 ∨ a = 6) ∨ (a = 7 ∨ a = 8) ∨ (a = 9 ∨ a = 10) ∨ a = 11 ∨ a = 12 ∨ a = 13 ∨ a = 14 ∨ a = 15 := by omega
  rcases hcs with rfl | rfl | rfl | rfl | hcs | hcs | hcs | rfl | rfl | rfl | rfl | rfl
  · refine ⟨⟨Y, rfl, (w1 (by decide)).mono ?_⟩, ?_, S.dests, S.loops, S.cases⟩
    · rintro j _ (p | p)
      · rcases p with p | p | p
        · exact Or.inl (List.mem_append_left _ p)
        · exact Or.inr (Or.inl p)
        · exact Or.inr (Or.inr p)
      · exact Or.inl (List.mem_append_right _ (by rw [p]; simp))
    · show y.origs ++ [_] = _
      rw [S.origs]
      exact map_snoc_ (· + (d.code.length : Int)) _ _ _
  · have hn : ¬ x.origs = [] := by simpa [lakF] using h4
    refine ⟨⟨Y, rfl, (w1 (by decide)).mono ?_⟩, ?_, S.dests, S.loops, S.cases⟩
    · rintro j _ (p | p)
      · rcases p with p | p | p
        · left
          show j ∈ x.origs.set (x.origs.length - 1) (x.code.length : Int) ++ [nwI x.origs]
          rw [last_set _ _ hn]
          rw [last_split x.origs 0 hn] at p
          rcases List.mem_append.1 p with p | p
          · exact List.mem_append_left _ (List.mem_append_left _ p)
          · exact List.mem_append_right _ p
        · exact Or.inr (Or.inl p)
        · exact Or.inr (Or.inr p)
      · left
        show j ∈ x.origs.set (x.origs.length - 1) (x.code.length : Int) ++ [nwI x.origs]
        rw [last_set _ _ hn, p]
        simp
    · show y.origs.set (y.origs.length - 1) _ ++ [nwI y.origs] = _
      rw [S.origs, nwI_sim _ _ _ hn, set_sim _ _ _ (by simpa using hn), set_map_ (· + (d.code.length : Int)) x.origs (x.code.length : Int)]
      exact map_snoc_ (· + (d.code.length : Int)) _ _ _
  · have hn : ¬ x.origs = [] := by simpa [lakF] using h4
    have hk := F.origs _ (nwI_mem hn)
    unfold okOr at hk
    rw [decide_eq_true_eq] at hk
    have hk2 : 3 ≤ kndF c (nwI x.origs) ∧ kndF c (nwI x.origs) ≤ 10 := by rw [M.2 _ (by omega)]; omega
    refine ⟨⟨aimF Y [nwI x.origs] ((c.length : Int) + d.code.length), ?_, ((w0 rfl).aim [nwI x.origs] c.length (by intro n hn; rw [List.mem_singleton] at hn; rw [hn]; exact hk2)).mono ?_⟩, ?_, S.dests, S.loops, S.cases⟩
    · show aimF (d.code ++ Y) [nwI y.origs] _ = _
      rw [S.origs, nwI_sim _ _ _ hn]
      exact aim_app d.code [nwI x.origs] _ Y (by intro n hn; rw [List.mem_singleton] at hn; rw [hn]; exact (knd_br hk2).1)
    · rintro j _ ⟨p | p | p, q⟩
      · left
        show j ∈ x.origs.take (x.origs.length - 1)
        rw [last_split x.origs 0 hn] at p
        rcases List.mem_append.1 p with p | p
        · exact p
        · exact absurd p q
      · exact Or.inr (Or.inl p)
      · exact Or.inr (Or.inr p)
    · show y.origs.take (y.origs.length - 1) = _
      rw [S.origs, take_sim _ _ (by simpa using hn), take_map_]
      rfl
  · refine ⟨⟨Y, rfl, (w0 rfl).mono (fun j _ p => p)⟩, S.origs, ?_, S.loops, S.cases⟩
    show y.dests ++ [_] = _
    rw [S.dests]
    exact map_snoc_ (· + (d.code.length : Int)) _ _ _
  · have hn : ¬ x.dests = [] := by rcases hcs with rfl | rfl <;> simpa [lakF] using h4
    have hk2 : 3 ≤ kndF c x.code.length ∧ kndF c x.code.length ≤ 10 := by
      rcases hcs with rfl | rfl
      · rw [kn 3 rfl (by decide)]; omega
      · rw [kn 4 rfl (by decide)]; omega
    have ww := (w1 (by rcases hcs with rfl | rfl <;> decide)).set x.code.length (nwI x.dests) (by omega) (knd_br hk2).2
    have ed : ∀ (t : Dft) (c : List Opd) (p q k : Int), doD t a c p q k = { t with code := setN c p (nwI t.dests), dests := t.dests.take (t.dests.length - 1) } := by intro t c p q k; rcases hcs with rfl | rfl <;> rfl
    rw [ed, ed]
    refine ⟨⟨setN Y x.code.length (nwI x.dests + d.code.length), ?_, ww.mono ?_⟩, S.origs, ?_, S.loops, S.cases⟩
    · show setN (d.code ++ Y) _ (nwI y.dests) = _
      rw [S.dests, nwI_sim _ _ _ hn]
      exact set_app d.code Y _ _ (by omega)
    · rintro j _ ⟨p | p, q⟩
      · exact p
      · exact absurd p q
    · show y.dests.take (y.dests.length - 1) = _
      rw [S.dests, take_sim _ _ (by simpa using hn), take_map_]
  · have ed : ∀ (t : Dft) (c : List Opd) (p q k : Int), doD t a c p q k = { t with code := c, loops := t.loops ++ [(p, [])] } := by intro t c p q k; rcases hcs with rfl | rfl <;> rfl
    rw [ed, ed]
    refine ⟨⟨Y, rfl, (w1 (by rcases hcs with rfl | rfl <;> decide)).mono ?_⟩, S.origs, S.dests, ?_, S.cases⟩
    · rintro j _ (p | p)
      · rcases p with p | ⟨o, ho, p⟩ | p
        · exact Or.inl p
        · exact Or.inr (Or.inl ⟨o, List.mem_append_left _ ho, p⟩)
        · exact Or.inr (Or.inr p)
      · exact Or.inr (Or.inl ⟨_, List.mem_append_right _ (List.mem_singleton.2 rfl), Or.inl p⟩)
    · show y.loops ++ [_] = _
      rw [S.loops]
      exact map_snoc_ (shL d.code.length) _ _ ((x.code.length : Int), [])
  · have hn : ¬ x.loops = [] := by rcases hcs with rfl | rfl <;> simpa [lakF] using h4
    have hx := F.loops _ (nwO_mem hn)
    unfold okLo at hx
    rw [Bool.and_eq_true, decide_eq_true_eq] at hx
    have hka : 3 ≤ kndF c (nwO x.loops).1 ∧ kndF c (nwO x.loops).1 ≤ 10 := by rw [M.2 _ (by omega)]; omega
    have hko : ∀ n ∈ (nwO x.loops).2, 3 ≤ kndF c n ∧ kndF c n ≤ 10 := by
      intro n hn2
      have := List.all_eq_true.1 hx.2 n hn2
      unfold okOu at this
      rw [decide_eq_true_eq] at this
      rw [M.2 _ (by omega)]
      omega
    have hk2 : 3 ≤ kndF c x.code.length ∧ kndF c x.code.length ≤ 10 := by
      rcases hcs with rfl | rfl
      · rw [kn 7 rfl (by decide)]; omega
      · rw [kn 8 rfl (by decide)]; omega
    have hkl : ∀ n ∈ (nwO x.loops).2 ++ [(nwO x.loops).1], 3 ≤ kndF c n ∧ kndF c n ≤ 10 := by
      intro n hn2
      rcases List.mem_append.1 hn2 with g | g
      · exact hko n g
      · rw [List.mem_singleton] at g
        rw [g]
        exact hka
    have ww := ((w1 (by rcases hcs with rfl | rfl <;> decide)).set x.code.length ((nwO x.loops).1 + 1) (by omega) (knd_br hk2).2).aim ((nwO x.loops).2 ++ [(nwO x.loops).1]) c.length (by intro n hn2; rw [knd_set]; exact hkl n hn2)
    have ed : ∀ (t : Dft) (c : List Opd) (p q k : Int), doD t a c p q k = { t with code := aimF (setN c p ((nwO t.loops).1 + 1)) ((nwO t.loops).2 ++ [(nwO t.loops).1]) q, loops := t.loops.take (t.loops.length - 1) } := by intro t c p q k; rcases hcs with rfl | rfl <;> rfl
    rw [ed, ed]
    refine ⟨⟨aimF (setN Y x.code.length ((nwO x.loops).1 + 1 + d.code.length)) ((nwO x.loops).2 ++ [(nwO x.loops).1]) ((c.length : Int) + d.code.length), ?_, ww.mono ?_⟩, S.origs, S.dests, ?_, S.cases⟩
    · show aimF (setN (d.code ++ Y) _ ((nwO y.loops).1 + 1)) ((nwO y.loops).2 ++ [(nwO y.loops).1]) _ = _
      rw [S.loops, nwO_sim _ _ _ hn]
      have e4 : (shL d.code.length (nwO x.loops)).1 + 1 = (nwO x.loops).1 + 1 + d.code.length := by show (nwO x.loops).1 + d.code.length + 1 = _; omega
      have e5 : (shL d.code.length (nwO x.loops)).2 ++ [(shL d.code.length (nwO x.loops)).1] = ((nwO x.loops).2 ++ [(nwO x.loops).1]).map (· + (d.code.length : Int)) := by rw [List.map_append]; rfl
      rw [e4, e5, set_app d.code Y _ _ (by omega)]
      exact aim_app d.code _ _ _ (fun n hn2 => (knd_br (hkl n hn2)).1)
    · rintro j _ ⟨⟨p | p, q1⟩, q2⟩
      · rcases p with p | ⟨o, ho, p⟩ | p
        · exact Or.inl p
        · right
          left
          rw [last_split x.loops (0, []) hn] at ho
          rcases List.mem_append.1 ho with g | g
          · exact ⟨o, g, p⟩
          · exfalso
            apply q2
            rw [List.mem_singleton] at g
            subst g
            rcases p with p | p
            · exact List.mem_append_right _ (List.mem_singleton.2 p)
            · exact List.mem_append_left _ p
        · exact Or.inr (Or.inr p)
      · exact absurd p q1
    · show y.loops.take (y.loops.length - 1) = _
      rw [S.loops, take_sim _ _ (by simpa using hn), take_map_]
  · have hn : ¬ x.loops = [] := by simpa [lakF] using h4
    refine ⟨⟨Y, rfl, (w1 (by decide)).mono ?_⟩, S.origs, S.dests, ?_, S.cases⟩
    · rintro j _ (p | p)
      · rcases p with p | ⟨o, ho, p⟩ | p
        · exact Or.inl p
        · right
          left
          show ∃ o ∈ x.loops.set (x.loops.length - 1) ((nwO x.loops).1, (nwO x.loops).2 ++ [(x.code.length : Int)]), _
          rw [last_set _ _ hn]
          rw [last_split x.loops (0, []) hn] at ho
          rcases List.mem_append.1 ho with g | g
          · exact ⟨o, List.mem_append_left _ g, p⟩
          · rw [List.mem_singleton] at g
            subst g
            refine ⟨_, List.mem_append_right _ (List.mem_singleton.2 rfl), ?_⟩
            rcases p with p | p
            · exact Or.inl p
            · exact Or.inr (List.mem_append_left _ p)
        · exact Or.inr (Or.inr p)
      · right
        left
        show ∃ o ∈ x.loops.set (x.loops.length - 1) ((nwO x.loops).1, (nwO x.loops).2 ++ [(x.code.length : Int)]), _
        rw [last_set _ _ hn]
        exact ⟨_, List.mem_append_right _ (List.mem_singleton.2 rfl), Or.inr (List.mem_append_right _ (List.mem_singleton.2 p))⟩
    · show y.loops.set (y.loops.length - 1) ((nwO y.loops).1, (nwO y.loops).2 ++ [_]) = _
      rw [S.loops, nwO_sim _ _ _ hn, set_sim _ _ _ (by simpa using hn)]
      have e4 : ((shL d.code.length (nwO x.loops)).1, (shL d.code.length (nwO x.loops)).2 ++ [(x.code.length : Int) + d.code.length]) = shL d.code.length ((nwO x.loops).1, (nwO x.loops).2 ++ [(x.code.length : Int)]) := by
        unfold shL
        rw [List.map_append]
        rfl
      rw [e4, set_map_]
      rfl
  · refine ⟨⟨Y, rfl, (w0 rfl).mono ?_⟩, S.origs, S.dests, S.loops, ?_⟩
    · rintro j _ (p | p | ⟨o, ho, p⟩)
      · exact Or.inl p
      · exact Or.inr (Or.inl p)
      · exact Or.inr (Or.inr ⟨o, List.mem_append_left _ ho, p⟩)
    · show y.cases ++ [_] = _
      rw [S.cases]
      exact map_snoc_ (shC d.code.length) _ _ ((-1 : Int), [])
  · have hn : ¬ x.cases = [] := by
      intro g
      simp [lakF, g] at h4
    have hat : (nwO x.cases).1 = -1 := by
      simp [lakF] at h4
      exact h4.2
    refine ⟨⟨Y, rfl, (w1 (by decide)).mono ?_⟩, S.origs, S.dests, S.loops, ?_⟩
    · rintro j hj (p | p)
      · rcases p with p | p | ⟨o, ho, p⟩
        · exact Or.inl p
        · exact Or.inr (Or.inl p)
        · right
          right
          show ∃ o ∈ x.cases.set (x.cases.length - 1) ((x.code.length : Int), (nwO x.cases).2), _
          rw [last_set _ _ hn]
          rw [last_split x.cases (0, []) hn] at ho
          rcases List.mem_append.1 ho with g | g
          · exact ⟨o, List.mem_append_left _ g, p⟩
          · rw [List.mem_singleton] at g
            have g2 : o = nwO x.cases := g
            subst g2
            refine ⟨_, List.mem_append_right _ (List.mem_singleton.2 rfl), ?_⟩
            rcases p with p | p
            · omega
            · exact Or.inr p
      · right
        right
        show ∃ o ∈ x.cases.set (x.cases.length - 1) ((x.code.length : Int), (nwO x.cases).2), _
        rw [last_set _ _ hn]
        exact ⟨_, List.mem_append_right _ (List.mem_singleton.2 rfl), Or.inl p⟩
    · show y.cases.set (y.cases.length - 1) (_, (nwO y.cases).2) = _
      rw [S.cases, nwO_sim _ _ _ hn, set_sim _ _ _ (by simpa using hn)]
      have e4 : ((x.code.length : Int) + d.code.length, (shC d.code.length (nwO x.cases)).2) = shC d.code.length ((x.code.length : Int), (nwO x.cases).2) := by
        unfold shC
        show _ = (if (x.code.length : Int) = -1 then (-1 : Int) else (x.code.length : Int) + d.code.length, _)
        rw [if_neg (show ¬ (x.code.length : Int) = -1 by omega)]
      rw [e4, set_map_]
      rfl
  · have hn : ¬ x.cases = [] := by
      intro g
      simp [lakF, g] at h4
    have hat : ¬ (nwO x.cases).1 = -1 := by
      simp [lakF] at h4
      exact h4.2
    have hka : 3 ≤ kndF c (nwO x.cases).1 ∧ kndF c (nwO x.cases).1 ≤ 10 := by
      rcases case_at F hn with g | g
      · exact absurd g hat
      · rw [M.2 _ (by omega)]
        omega
    have ww := (w1 (by decide)).set (nwO x.cases).1 c.length (knd_br hka).1 (knd_br hka).2
    refine ⟨⟨setN Y (nwO x.cases).1 ((c.length : Int) + d.code.length), ?_, ww.mono ?_⟩, S.origs, S.dests, S.loops, ?_⟩
    · show setN (d.code ++ Y) (nwO y.cases).1 _ = _
      rw [S.cases, nwO_sim _ _ _ hn]
      have e4 : (shC d.code.length (nwO x.cases)).1 = (nwO x.cases).1 + d.code.length := by
        unfold shC
        show (if (nwO x.cases).1 = -1 then (-1 : Int) else _) = _
        rw [if_neg hat]
      rw [e4]
      exact set_app d.code Y _ _ (knd_br hka).1
    · rintro j hj ⟨p | p, q⟩
      · rcases p with p | p | ⟨o, ho, p⟩
        · exact Or.inl p
        · exact Or.inr (Or.inl p)
        · right
          right
          show ∃ o ∈ x.cases.set (x.cases.length - 1) ((-1 : Int), (nwO x.cases).2 ++ [(x.code.length : Int)]), _
          rw [last_set _ _ hn]
          rw [last_split x.cases (0, []) hn] at ho
          rcases List.mem_append.1 ho with g | g
          · exact ⟨o, List.mem_append_left _ g, p⟩
          · rw [List.mem_singleton] at g
            have g2 : o = nwO x.cases := g
            subst g2
            refine ⟨_, List.mem_append_right _ (List.mem_singleton.2 rfl), ?_⟩
            rcases p with p | p
            · exact absurd p q
            · exact Or.inr (List.mem_append_left _ p)
      · right
        right
        show ∃ o ∈ x.cases.set (x.cases.length - 1) ((-1 : Int), (nwO x.cases).2 ++ [(x.code.length : Int)]), _
        rw [last_set _ _ hn]
        exact ⟨_, List.mem_append_right _ (List.mem_singleton.2 rfl), Or.inr (List.mem_append_right _ (List.mem_singleton.2 p))⟩
    · show y.cases.set (y.cases.length - 1) (-1, (nwO y.cases).2 ++ [_]) = _
      rw [S.cases, nwO_sim _ _ _ hn, set_sim _ _ _ (by simpa using hn)]
      have e4 : ((-1 : Int), (shC d.code.length (nwO x.cases)).2 ++ [(x.code.length : Int) + d.code.length]) = shC d.code.length ((-1 : Int), (nwO x.cases).2 ++ [(x.code.length : Int)]) := by
        unfold shC
        rw [List.map_append]
        rfl
      rw [e4, set_map_]
      rfl
  · have hn : ¬ x.cases = [] := by
      intro g
      simp [lakF, g] at h4
    have hat : (nwO x.cases).1 = -1 := by
      simp [lakF] at h4
      exact h4.2
    have hx := F.cases _ (nwO_mem hn)
    unfold okCa at hx
    rw [Bool.and_eq_true] at hx
    have hko : ∀ n ∈ (nwO x.cases).2, 3 ≤ kndF c n ∧ kndF c n ≤ 10 := by
      intro n hn2
      have := List.all_eq_true.1 hx.2 n hn2
      unfold okOu at this
      rw [decide_eq_true_eq] at this
      rw [M.2 _ (by omega)]
      omega
    refine ⟨⟨aimF Y (nwO x.cases).2 ((c.length : Int) + d.code.length), ?_, ((w2 rfl).aim (nwO x.cases).2 c.length hko).mono ?_⟩, S.origs, S.dests, S.loops, ?_⟩
    · show aimF (d.code ++ Y) (nwO y.cases).2 _ = _
      rw [S.cases, nwO_sim _ _ _ hn]
      exact aim_app d.code _ _ _ (fun n hn2 => (knd_br (hko n hn2)).1)
    · rintro j hj ⟨p | p | ⟨o, ho, p⟩, q⟩
      · exact Or.inl p
      · exact Or.inr (Or.inl p)
      · right
        right
        show ∃ o ∈ x.cases.take (x.cases.length - 1), _
        rw [last_split x.cases (0, []) hn] at ho
        rcases List.mem_append.1 ho with g | g
        · exact ⟨o, g, p⟩
        · rw [List.mem_singleton] at g
          have g2 : o = nwO x.cases := g
          subst g2
          rcases p with p | p
          · omega
          · exact absurd p q
    · show y.cases.take (y.cases.length - 1) = _
      rw [S.cases, take_sim _ _ (by simpa using hn), take_map_]
      rfl
theorem sim_stp {d x y : Dft} {e : Ded} (S : Sim d x y) (h : (stpD x e).2 = 0) (hy : frmD y = true) (hl : d.code.length + (stpD x e).1.code.length ≤ 256) : (stpD y e).2 = 0 ∧ Sim d (stpD x e).1 (stpD y e).1 := by
  unfold stpD at h hl ⊢
  split at h
  · rename_i g
    rw [if_pos g] at hl ⊢
    rw [if_pos g]
    exact sim_put S h hy hl
  · rename_i g
    rw [if_neg g] at hl ⊢
    rw [if_neg g]
    exact sim_act S h hy hl
theorem stp_grows {x : Dft} {e : Ded} (h : (stpD x e).2 = 0) : x.code.length ≤ (stpD x e).1.code.length := by
  unfold stpD at h ⊢
  split at h
  · rename_i g
    rw [if_pos g]
    obtain ⟨_, _, _, q⟩ := put_ok h
    rw [q]
    simp
  · rename_i g
    rw [if_neg g]
    obtain ⟨h1, _, _, _, h5, q⟩ := act_ok h
    rw [q, do_len]
    exact (lay_len ((frm_iff x).1 h1).len h5).2
theorem bld_grows (l : List Ded) : ∀ x : Dft, (bldD x l).2.2 = 0 → x.code.length ≤ (bldD x l).1.code.length := by
  induction l with
  | nil => intro x _; exact Nat.le_refl _
  | cons e l ih =>
    intro x h
    unfold bldD at h ⊢
    split at h
    · rename_i g
      rw [if_pos g]
      exact Nat.le_trans (stp_grows g) (ih _ h)
    · rename_i g
      exact absurd h g
theorem sim_bld {d : Dft} (l : List Ded) : ∀ {x y : Dft}, Sim d x y → frmD y = true → (bldD x l).2.2 = 0 → d.code.length + (bldD x l).1.code.length ≤ 256 → (bldD y l).2.2 = 0 ∧ Sim d (bldD x l).1 (bldD y l).1 := by
  induction l with
  | nil => intro x y S _ _ _; exact ⟨rfl, S⟩
  | cons e l ih =>
    intro x y S hy h hl
    unfold bldD at h hl ⊢
    split at h
    · rename_i g
      rw [if_pos g] at hl ⊢
      have hg := bld_grows l _ h
      have hl2 : d.code.length + (bldD (stpD x e).1 l).1.code.length ≤ 256 := hl
      obtain ⟨s1, s2⟩ := sim_stp S g hy (by omega)
      rw [if_pos s1]
      exact ih s2 (stp_formed s1) h hl
    · rename_i g
      exact absurd h g
/-- what is complete by itself and built in between lies in between, its branches shifted -/
theorem between {d : Dft} {l : List Ded} (hd : frmD d = true) (h1 : (bldD nilD l).2.2 = 0) (h2 : (finD (bldD nilD l).1).2 = 0) (h3 : d.code.length + (finD (bldD nilD l).1).1.length ≤ 256) : (bldD d l).2.2 = 0 ∧ (bldD d l).1 = { d with code := d.code ++ (finD (bldD nilD l).1).1.map (shN d.code.length) } := by
  generalize hX : (bldD nilD l).1 = X at h2 h3 ⊢
  have hF : finD X = (X.code, 0) ∧ X.origs = [] ∧ X.dests = [] ∧ X.loops = [] ∧ X.cases = [] := by
    unfold finD at h2 ⊢
    split at h2
    · simp at h2
    · rename_i g1
      rw [if_neg g1]
      split at h2
      · simp at h2
      · rename_i g2
        rw [if_neg g2]
        simp only [Classical.not_not] at g2
        exact ⟨rfl, g2⟩
  obtain ⟨f1, f2, f3, f4, f5⟩ := hF
  rw [f1] at h3 ⊢
  have S0 : Sim d nilD d := ⟨⟨[], by simp, rfl, fun j hj => by simp [nilD] at hj⟩, by simp [nilD], by simp [nilD], by simp [nilD], by simp [nilD]⟩
  obtain ⟨s1, s2⟩ := sim_bld l S0 hd h1 (by rw [hX]; exact h3)
  rw [hX] at s2
  refine ⟨s1, ?_⟩
  obtain ⟨Y, y1, y2⟩ := s2.code
  have eY : Y = X.code.map (shN d.code.length) := by
    apply List.ext_getElem
    · rw [y2.1, List.length_map]
    · intro i a b
      have hi : i < X.code.length := by simpa using b
      have := (y2.2 i hi).2 (by unfold Pend; rw [f2, f4, f5]; simp)
      rw [List.getD_eq_getElem?_getD, List.getElem?_eq_getElem a, List.getD_eq_getElem?_getD, List.getElem?_eq_getElem hi] at this
      rw [List.getElem_map]
      exact this
  have o1 := s2.origs
  have o2 := s2.dests
  have o3 := s2.loops
  have o4 := s2.cases
  rw [f2] at o1
  rw [f3] at o2
  rw [f4] at o3
  rw [f5] at o4
  exact dft_ext (by rw [y1, eY]) (by rw [o1]; simp) (by rw [o2]; simp) (by rw [o3]; simp) (by rw [o4]; simp)
end Go.Proofs.Ytfmpeminfcehaaa
