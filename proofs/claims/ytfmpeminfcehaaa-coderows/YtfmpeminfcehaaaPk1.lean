/-
  Drafts of code, as plain functions: what is formed, an instruction put, an act, the code finished; what is built stays formed and sound.
-/
import Derived.Test.YtfmpeminfcehaaaPop
namespace Go.Proofs.Ytfmpeminfcehaaa
set_option linter.unusedVariables false
set_option linter.unusedSimpArgs false

/-- what is open: where it began, the branches that lead behind it -/
abbrev Opn := Int × List Int
structure Dft where
  code : List Opd
  origs : List Int
  dests : List Int
  loops : List Opn
  cases : List Opn
def nilD : Dft := ⟨[], [], [], [], []⟩
theorem dft_ext {a b : Dft} (h1 : a.code = b.code) (h2 : a.origs = b.origs) (h3 : a.dests = b.dests) (h4 : a.loops = b.loops) (h5 : a.cases = b.cases) : a = b := by
  cases a
  cases b
  simp only at h1 h2 h3 h4 h5
  subst h1 h2 h3 h4 h5
  rfl
/-- the kind of an instruction by its number; 0: there is none -/
def kndF (c : List Opd) (n : Int) : Int := if n < 0 ∨ (c.length : Int) ≤ n then 0 else (c.getD n.toNat (0, 0)).1
def okOr (c : List Opd) (n : Int) : Bool := decide (kndF c n = 3 ∨ kndF c n = 4)
def okDe (c : List Opd) (n : Int) : Bool := decide (0 ≤ n ∧ n ≤ c.length)
def okOu (c : List Opd) (k n : Int) : Bool := decide (kndF c n = k)
def okLo (c : List Opd) (x : Opn) : Bool := decide (kndF c x.1 = 5 ∨ kndF c x.1 = 6) && x.2.all (okOu c 9)
def okCa (c : List Opd) (x : Opn) : Bool := decide (x.1 = -1 ∨ kndF c x.1 = 10) && x.2.all (okOu c 3)
def frmD (d : Dft) : Bool := decide (d.code.length ≤ 256) && (d.origs.all (okOr d.code) && (d.dests.all (okDe d.code) && (d.loops.all (okLo d.code) && d.cases.all (okCa d.code))))
def putK (o : Opd) : Bool := decide (o.1 = 1 ∨ o.1 = 2 ∨ o.1 = 12 ∨ o.1 = 13)
/-- one instruction more -/
def putD (d : Dft) (o : Opd) : Dft × Int := if frmD d = false ∨ putK o = false then (nilD, 1) else if 256 ≤ d.code.length then (nilD, 3) else ({ d with code := d.code ++ [o] }, 0)
/-- what an act lays; 0: nothing -/
def ladF (act : Int) : Int :=
  if act = 1 ∨ act = 6 then 4 else if act = 2 ∨ act = 5 ∨ act = 14 then 3 else if act = 7 then 5 else if act = 8 then 6 else if act = 9 then 7 else if act = 10 then 8 else if act = 11 then 9 else if act = 13 then 10 else if act = 15 then 11 else 0
/-- the newest of what is open -/
def nwO (l : List Opn) : Opn := l.getD (l.length - 1) (0, [])
def nwI (l : List Int) : Int := l.getD (l.length - 1) 0
/-- there is nothing that the act asks for -/
def lakF (d : Dft) (act : Int) : Bool :=
  if act = 2 ∨ act = 3 then decide (d.origs = []) else if act = 5 ∨ act = 6 then decide (d.dests = []) else if act = 9 ∨ act = 10 ∨ act = 11 then decide (d.loops = [])
  else if act = 13 ∨ act = 15 then decide (d.cases = []) || decide (¬ (nwO d.cases).1 = -1) else if act = 14 then decide (d.cases = []) || decide ((nwO d.cases).1 = -1) else false
/-- the number of an instruction set -/
def setN (c : List Opd) (n to : Int) : List Opd := c.set n.toNat ((c.getD n.toNat (0, 0)).1, to)
def aimF (c : List Opd) (l : List Int) (to : Int) : List Opd := l.foldl (fun c n => setN c n to) c
/-- what an act builds, where there is all that it asks for; at: the instruction that is laid; here: behind it; k: its kind -/
def doD (d : Dft) (act : Int) (c : List Opd) (at' here k : Int) : Dft :=
  if act = 1 then { d with code := c, origs := d.origs ++ [at'] }
  else if act = 2 then { d with code := c, origs := d.origs.set (d.origs.length - 1) at' ++ [nwI d.origs] }
  else if act = 3 then { d with code := aimF c [nwI d.origs] here, origs := d.origs.take (d.origs.length - 1) }
  else if act = 4 then { d with code := c, dests := d.dests ++ [here] }
  else if act = 5 ∨ act = 6 then { d with code := setN c at' (nwI d.dests), dests := d.dests.take (d.dests.length - 1) }
  else if act = 7 ∨ act = 8 then { d with code := c, loops := d.loops ++ [(at', [])] }
  else if act = 9 ∨ act = 10 then { d with code := aimF (setN c at' ((nwO d.loops).1 + 1)) ((nwO d.loops).2 ++ [(nwO d.loops).1]) here, loops := d.loops.take (d.loops.length - 1) }
  else if act = 11 then { d with code := c, loops := d.loops.set (d.loops.length - 1) ((nwO d.loops).1, (nwO d.loops).2 ++ [at']) }
  else if act = 12 then { d with code := c, cases := d.cases ++ [(-1, [])] }
  else if act = 13 then { d with code := c, cases := d.cases.set (d.cases.length - 1) (at', (nwO d.cases).2) }
  else if act = 14 then { d with code := setN c (nwO d.cases).1 here, cases := d.cases.set (d.cases.length - 1) (-1, (nwO d.cases).2 ++ [at']) }
  else { d with code := aimF c (nwO d.cases).2 here, cases := d.cases.take (d.cases.length - 1) }
/-- the code with what an act lays -/
def layF (d : Dft) (act : Int) : List Opd := if ladF act = 0 then d.code else d.code ++ [(ladF act, 0)]
def actD (d : Dft) (act : Int) : Dft × Int :=
  if frmD d = false ∨ act < 1 ∨ 15 < act then (nilD, 1) else if lakF d act = true then (nilD, 13) else if ladF act ≠ 0 ∧ 256 ≤ d.code.length then (nilD, 3)
  else (doD d act (layF d act) d.code.length (layF d act).length (ladF act), 0)
def finD (d : Dft) : List Opd × Int := if frmD d = false then ([], 1) else if ¬ (d.origs = [] ∧ d.dests = [] ∧ d.loops = [] ∧ d.cases = []) then ([], 13) else (d.code, 0)

/-! kinds of instructions stand -/
theorem knd_at {c : List Opd} {n : Int} (h0 : 0 ≤ n) (h1 : n < c.length) : kndF c n = (c.getD n.toNat (0, 0)).1 := by
  unfold kndF
  rw [if_neg (by omega)]
theorem knd_lt {c : List Opd} {n : Int} (h : ¬ kndF c n = 0) : 0 ≤ n ∧ n < c.length := by
  unfold kndF at h
  by_cases g : n < 0 ∨ (c.length : Int) ≤ n
  · rw [if_pos g] at h
    exact absurd rfl h
  · omega
theorem knd_app {c : List Opd} (e : List Opd) {n : Int} (h : ¬ kndF c n = 0) : kndF (c ++ e) n = kndF c n := by
  obtain ⟨h0, h1⟩ := knd_lt h
  rw [knd_at h0 h1, knd_at h0 (by simp; omega), List.getD_eq_getElem?_getD, List.getD_eq_getElem?_getD, List.getElem?_append_left (by omega)]
theorem set_len (c : List Opd) (n to : Int) : (setN c n to).length = c.length := by simp [setN]
theorem knd_set (c : List Opd) (m to n : Int) : kndF (setN c m to) n = kndF c n := by
  unfold kndF
  rw [set_len]
  by_cases g : n < 0 ∨ (c.length : Int) ≤ n
  · rw [if_pos g, if_pos g]
  · rw [if_neg g, if_neg g]
    unfold setN
    rw [List.getD_eq_getElem?_getD, List.getD_eq_getElem?_getD, List.getD_eq_getElem?_getD]
    by_cases e : m.toNat = n.toNat
    · rw [e, List.getElem?_set_self (by omega)]
      rfl
    · rw [List.getElem?_set_ne e]
theorem aim_len (l : List Int) (to : Int) : ∀ c : List Opd, (aimF c l to).length = c.length := by
  induction l with
  | nil => intro c; rfl
  | cons n l ih =>
    intro c
    show (aimF (setN c n to) l to).length = _
    rw [ih, set_len]
theorem knd_aim (l : List Int) (to n : Int) : ∀ c : List Opd, kndF (aimF c l to) n = kndF c n := by
  induction l with
  | nil => intro c; rfl
  | cons m l ih =>
    intro c
    show kndF (aimF (setN c m to) l to) n = _
    rw [ih, knd_set]
/-- code with the same kinds, perhaps longer -/
def Mor (c e : List Opd) : Prop := c.length ≤ e.length ∧ ∀ n, ¬ kndF c n = 0 → kndF e n = kndF c n
theorem Mor.refl (c : List Opd) : Mor c c := ⟨Nat.le_refl _, fun _ _ => rfl⟩
theorem Mor.trans {a b c : List Opd} (h : Mor a b) (g : Mor b c) : Mor a c := ⟨Nat.le_trans h.1 g.1, fun n hn => by rw [g.2 n (by rw [h.2 n hn]; exact hn), h.2 n hn]⟩
theorem Mor.app (c e : List Opd) : Mor c (c ++ e) := ⟨by simp, fun n hn => knd_app e hn⟩
theorem Mor.set (c : List Opd) (m to : Int) : Mor c (setN c m to) := ⟨by rw [set_len]; exact Nat.le_refl _, fun n _ => knd_set c m to n⟩
theorem Mor.aim (c : List Opd) (l : List Int) (to : Int) : Mor c (aimF c l to) := ⟨by rw [aim_len]; exact Nat.le_refl _, fun n _ => knd_aim l to n c⟩
theorem Mor.or {c e : List Opd} (h : Mor c e) {n : Int} (g : okOr c n = true) : okOr e n = true := by
  unfold okOr at g ⊢
  rw [decide_eq_true_eq] at g ⊢
  rw [h.2 n (by omega)]
  exact g
theorem Mor.de {c e : List Opd} (h : Mor c e) {n : Int} (g : okDe c n = true) : okDe e n = true := by
  unfold okDe at g ⊢
  rw [decide_eq_true_eq] at g ⊢
  have := h.1
  omega
theorem Mor.ou {c e : List Opd} (h : Mor c e) {k n : Int} (hk : ¬ k = 0) (g : okOu c k n = true) : okOu e k n = true := by
  unfold okOu at g ⊢
  rw [decide_eq_true_eq] at g ⊢
  rw [h.2 n (by omega)]
  exact g
theorem Mor.ous {c e : List Opd} (h : Mor c e) {k : Int} (hk : ¬ k = 0) {l : List Int} (g : l.all (okOu c k) = true) : l.all (okOu e k) = true :=
  List.all_eq_true.2 fun n hn => h.ou hk (List.all_eq_true.1 g n hn)
theorem Mor.lo {c e : List Opd} (h : Mor c e) {x : Opn} (g : okLo c x = true) : okLo e x = true := by
  unfold okLo at g ⊢
  rw [Bool.and_eq_true, decide_eq_true_eq] at g ⊢
  exact ⟨by rw [h.2 x.1 (by omega)]; exact g.1, h.ous (by decide) g.2⟩
theorem Mor.ca {c e : List Opd} (h : Mor c e) {x : Opn} (g : okCa c x = true) : okCa e x = true := by
  unfold okCa at g ⊢
  rw [Bool.and_eq_true, decide_eq_true_eq] at g ⊢
  refine ⟨?_, h.ous (by decide) g.2⟩
  rcases g.1 with g1 | g1
  · exact Or.inl g1
  · right
    rw [h.2 x.1 (by omega)]
    exact g1
structure Frm (d : Dft) : Prop where
  len : d.code.length ≤ 256
  origs : ∀ n ∈ d.origs, okOr d.code n = true
  dests : ∀ n ∈ d.dests, okDe d.code n = true
  loops : ∀ x ∈ d.loops, okLo d.code x = true
  cases : ∀ x ∈ d.cases, okCa d.code x = true
theorem frm_iff (d : Dft) : frmD d = true ↔ Frm d := by
  unfold frmD
  simp only [Bool.and_eq_true, decide_eq_true_eq, List.all_eq_true]
  constructor
  · rintro ⟨a, b, c, e, f⟩
    exact ⟨a, b, c, e, f⟩
  · rintro ⟨a, b, c, e, f⟩
    exact ⟨a, b, c, e, f⟩
theorem frm_nil : frmD nilD = true := by decide
theorem put_ok {d : Dft} {o : Opd} (h : (putD d o).2 = 0) : frmD d = true ∧ putK o = true ∧ d.code.length < 256 ∧ putD d o = ({ d with code := d.code ++ [o] }, 0) := by
  unfold putD at h ⊢
  split at h
  · simp at h
  · rename_i c1
    split at h
    · simp at h
    · rename_i c2
      rw [if_neg c1, if_neg c2]
      simp only [not_or, Bool.not_eq_false] at c1
      exact ⟨c1.1, c1.2, by omega, rfl⟩
theorem Frm.more {d : Dft} (h : Frm d) {e : List Opd} (m : Mor d.code e) (hl : e.length ≤ 256) : Frm { d with code := e } :=
  ⟨hl, fun n hn => m.or (h.origs n hn), fun n hn => m.de (h.dests n hn), fun x hx => m.lo (h.loops x hx), fun x hx => m.ca (h.cases x hx)⟩
theorem put_formed {d : Dft} {o : Opd} (h : (putD d o).2 = 0) : frmD (putD d o).1 = true := by
  obtain ⟨h1, h2, h3, e⟩ := put_ok h
  rw [e, frm_iff]
  exact ((frm_iff d).1 h1).more (Mor.app _ _) (by simp; omega)
theorem act_ok {d : Dft} {a : Int} (h : (actD d a).2 = 0) : frmD d = true ∧ 1 ≤ a ∧ a ≤ 15 ∧ lakF d a = false ∧ (ladF a = 0 ∨ d.code.length < 256) ∧ actD d a = (doD d a (layF d a) d.code.length (layF d a).length (ladF a), 0) := by
  unfold actD at h ⊢
  split at h
  · simp at h
  · rename_i c1
    split at h
    · simp at h
    · rename_i c2
      split at h
      · simp at h
      · rename_i c3
        rw [if_neg c1, if_neg c2, if_neg c3]
        simp only [not_or, Bool.not_eq_false] at c1
        exact ⟨c1.1, by omega, by omega, by simpa using c2, by omega, rfl⟩
theorem lay_mor (d : Dft) (a : Int) : Mor d.code (layF d a) := by
  unfold layF
  split
  · exact Mor.refl _
  · exact Mor.app _ _
theorem lay_len {d : Dft} {a : Int} (hl : d.code.length ≤ 256) (h : ladF a = 0 ∨ d.code.length < 256) : (layF d a).length ≤ 256 ∧ d.code.length ≤ (layF d a).length := by
  unfold layF
  split
  · exact ⟨hl, Nat.le_refl _⟩
  · rename_i g
    have : d.code.length < 256 := by
      rcases h with h | h
      · exact absurd h g
      · exact h
    rw [List.length_append]
    exact ⟨by simp; omega, by simp⟩
theorem lay_knd {d : Dft} {a k : Int} (h : ladF a = k) (hk : ¬ k = 0) : kndF (layF d a) d.code.length = k := by
  unfold layF
  rw [h, if_neg hk, knd_at (by omega) (by simp; omega), List.getD_eq_getElem?_getD, Int.toNat_natCast, List.getElem?_append_right (Nat.le_refl _)]
  simp
theorem mem_take_ {α : Type} {l : List α} {n : Nat} {x : α} (h : x ∈ l.take n) : x ∈ l := List.mem_of_mem_take h
theorem nwO_mem {l : List Opn} (h : ¬ l = []) : nwO l ∈ l := by
  have hl : 0 < l.length := List.length_pos_iff.2 h
  unfold nwO
  rw [List.getD_eq_getElem?_getD, List.getElem?_eq_getElem (by omega)]
  exact List.getElem_mem _
theorem nwI_mem {l : List Int} (h : ¬ l = []) : nwI l ∈ l := by
  have hl : 0 < l.length := List.length_pos_iff.2 h
  unfold nwI
  rw [List.getD_eq_getElem?_getD, List.getElem?_eq_getElem (by omega)]
  exact List.getElem_mem _
theorem set_all {α : Type} {l : List α} {p : α → Prop} (h : ∀ x ∈ l, p x) (i : Nat) (y : α) (hy : p y) : ∀ x ∈ l.set i y, p x := by
  intro x hx
  rcases List.mem_or_eq_of_mem_set hx with hx | rfl
  · exact h x hx
  · exact hy
theorem app_all {α : Type} {l : List α} {p : α → Prop} (h : ∀ x ∈ l, p x) (y : α) (hy : p y) : ∀ x ∈ l ++ [y], p x := by
  intro x hx
  rcases List.mem_append.1 hx with hx | hx
  · exact h x hx
  · rw [List.mem_singleton] at hx
    subst hx
    exact hy
/-- what an act builds is formed -/
theorem act_formed {d : Dft} {a : Int} (h : (actD d a).2 = 0) : frmD (actD d a).1 = true := by
  obtain ⟨h1, h2, h3, h4, h5, e⟩ := act_ok h
  rw [e, frm_iff]
  have F := (frm_iff d).1 h1
  have M := lay_mor d a
  obtain ⟨L1, L2⟩ := lay_len F.len h5
  have G := F.more M L1
  have hk := fun k (hk : ladF a = k) (h0 : ¬ k = 0) => lay_knd (d := d) hk h0
  have hcs : a = 1 ∨ a = 2 ∨ a = 3 ∨ a = 4 ∨ a = 5 ∨ a = 6 ∨ a = 7 ∨ a = 8 ∨ a = 9 ∨ a = 10 ∨ a = 11 ∨ a = 12 ∨ a = 13 ∨ a = 14 ∨ a = 15 := by omega
  generalize layF d a = c at G L1 L2 M hk ⊢
  rcases hcs with rfl | rfl | rfl | rfl | rfl | rfl | rfl | rfl | rfl | rfl | rfl | rfl | rfl | rfl | rfl
  · exact ⟨G.len, app_all G.origs _ (by unfold okOr; rw [hk 4 rfl (by decide)]; decide), G.dests, G.loops, G.cases⟩
  · have hn : ¬ d.origs = [] := by simpa [lakF] using h4
    exact ⟨G.len, app_all (set_all G.origs _ _ (by unfold okOr; rw [hk 3 rfl (by decide)]; decide)) _ (G.origs _ (nwI_mem hn)), G.dests, G.loops, G.cases⟩
  · have G2 := G.more (Mor.aim c [nwI d.origs] c.length) (by rw [aim_len]; exact L1)
    exact ⟨G2.len, fun n hn => G2.origs n (mem_take_ hn), G2.dests, G2.loops, G2.cases⟩
  · exact ⟨G.len, G.origs, app_all G.dests _ (by unfold okDe; simp), G.loops, G.cases⟩
  · have G2 := G.more (Mor.set c d.code.length (nwI d.dests)) (by rw [set_len]; exact L1)
    exact ⟨G2.len, G2.origs, fun n hn => G2.dests n (mem_take_ hn), G2.loops, G2.cases⟩
  · have G2 := G.more (Mor.set c d.code.length (nwI d.dests)) (by rw [set_len]; exact L1)
    exact ⟨G2.len, G2.origs, fun n hn => G2.dests n (mem_take_ hn), G2.loops, G2.cases⟩
  · exact ⟨G.len, G.origs, G.dests, app_all G.loops _ (by unfold okLo; rw [hk 5 rfl (by decide)]; simp), G.cases⟩
  · exact ⟨G.len, G.origs, G.dests, app_all G.loops _ (by unfold okLo; rw [hk 6 rfl (by decide)]; simp), G.cases⟩
  · have G2 := (G.more (Mor.set c d.code.length ((nwO d.loops).1 + 1)) (by rw [set_len]; exact L1)).more (Mor.aim _ ((nwO d.loops).2 ++ [(nwO d.loops).1]) c.length) (by rw [aim_len, set_len]; exact L1)
    exact ⟨G2.len, G2.origs, G2.dests, fun n hn => G2.loops n (mem_take_ hn), G2.cases⟩
  · have G2 := (G.more (Mor.set c d.code.length ((nwO d.loops).1 + 1)) (by rw [set_len]; exact L1)).more (Mor.aim _ ((nwO d.loops).2 ++ [(nwO d.loops).1]) c.length) (by rw [aim_len, set_len]; exact L1)
    exact ⟨G2.len, G2.origs, G2.dests, fun n hn => G2.loops n (mem_take_ hn), G2.cases⟩
  · have hn : ¬ d.loops = [] := by simpa [lakF] using h4
    have hx := G.loops _ (nwO_mem hn)
    refine ⟨G.len, G.origs, G.dests, set_all G.loops _ _ ?_, G.cases⟩
    unfold okLo at hx ⊢
    rw [Bool.and_eq_true] at hx ⊢
    refine ⟨hx.1, ?_⟩
    rw [List.all_append, hx.2]
    simp only [List.all_cons, List.all_nil, Bool.and_true, Bool.true_and]
    unfold okOu
    rw [hk 9 rfl (by decide)]
    decide
  · exact ⟨G.len, G.origs, G.dests, G.loops, app_all G.cases _ (by unfold okCa; simp)⟩
  · have hn : ¬ d.cases = [] := by
      intro g
      simp [lakF, g] at h4
    have hx := G.cases _ (nwO_mem hn)
    refine ⟨G.len, G.origs, G.dests, G.loops, set_all G.cases _ _ ?_⟩
    unfold okCa at hx ⊢
    rw [Bool.and_eq_true] at hx ⊢
    refine ⟨?_, hx.2⟩
    rw [hk 10 rfl (by decide)]
    simp
  · have hn : ¬ d.cases = [] := by
      intro g
      simp [lakF, g] at h4
    have G2 := G.more (Mor.set c (nwO d.cases).1 c.length) (by rw [set_len]; exact L1)
    have hx := G2.cases _ (nwO_mem hn)
    refine ⟨G2.len, G2.origs, G2.dests, G2.loops, set_all G2.cases _ _ ?_⟩
    unfold okCa at hx ⊢
    rw [Bool.and_eq_true] at hx ⊢
    refine ⟨by simp, ?_⟩
    rw [List.all_append, hx.2]
    simp only [List.all_cons, List.all_nil, Bool.and_true, Bool.true_and]
    unfold okOu
    show decide (kndF (setN c (nwO d.cases).1 c.length) _ = 3) = true
    rw [knd_set, hk 3 rfl (by decide)]
    decide
  · have G2 := G.more (Mor.aim c (nwO d.cases).2 c.length) (by rw [aim_len]; exact L1)
    exact ⟨G2.len, G2.origs, G2.dests, G2.loops, fun n hn => G2.cases n (mem_take_ hn)⟩
end Go.Proofs.Ytfmpeminfcehaaa
