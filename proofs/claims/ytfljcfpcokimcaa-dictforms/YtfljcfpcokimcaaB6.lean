/-
  Texts of one proof, laid one behind the other: Pd1 Mch.
-/
import Derived.Test.YtfljcfpcokimcaaB5
namespace Go.Proofs.Ytfljcfpcokimcaa
open Go.ChangeShapes Go.WideShapes Go.ChangeAt Go.RowKit
set_option linter.unusedVariables false
set_option linter.unusedSimpArgs false

/-
  The dictionary and the machine, as plain functions: words, instructions, instances, what is formed, what is found.
-/
/-- an instruction: kind, number -/
abbrev Opd := Int × Int
/-- a word: name, device, kind, number, code -/
abbrev Wd := List Int × Int × Int × Int × List Opd
instance decWd : DecidableEq Wd := fun x y => @instDecidableEqProd _ _ _ (@instDecidableEqProd _ _ _ (@instDecidableEqProd _ _ _ inferInstance)) x y
/-- an instance: device, parent, arguments, cells -/
abbrev Iz := Int × Int × List Int × List Int
structure Mc where
  stack : List Int
  mem : List Int
  words : List Wd
  codes : List Int
  base : Int
  tree : List Nd
  node : Int
  insts : List Iz
  self : Int
  out : List Int
/-- the words that every dictionary begins with -/
def prmL : List (List Int × Int) := [([105], 25), ([106], 26), ([101, 120, 101, 99, 117, 116, 101], 29), ([43], 30), ([45], 31), ([42], 32), ([47], 33), ([109, 111, 100], 34), ([97, 110, 100], 35), ([111, 114], 36), ([120, 111, 114], 37), ([105, 110, 118, 101, 114, 116], 38), ([108, 115, 104, 105, 102, 116], 39), ([114, 115, 104, 105, 102, 116], 40), ([62, 62, 97], 41), ([47, 109, 111, 100], 42), ([117, 47, 109, 111, 100], 43), ([110, 101, 103, 97, 116, 101], 44), ([97, 98, 115], 45), ([109, 105, 110], 46), ([109, 97, 120], 47), ([62, 114], 48), ([114, 62], 49), ([114, 64], 50), ([48, 61], 52), ([48, 60, 62], 53), ([48, 60], 54), ([48, 60, 61], 55), ([48, 62], 56), ([48, 62, 61], 57), ([60], 58), ([62], 59), ([61], 60), ([60, 62], 61), ([117, 62], 62), ([117, 60, 61], 63), ([117, 60], 64), ([117, 62, 61], 65), ([62, 61], 66), ([60, 61], 67), ([100, 114, 111, 112], 70), ([100, 117, 112], 71), ([111, 118, 101, 114], 72), ([115, 119, 97, 112], 73), ([114, 111, 116], 74), ([45, 114, 111, 116], 75), ([116, 117, 99, 107], 76), ([110, 105, 112], 77), ([112, 105, 99, 107], 78), ([114, 111, 108, 108], 79), ([63, 100, 117, 112], 80), ([100, 101, 112, 116, 104], 81), ([50, 100, 114, 111, 112], 82), ([50, 100, 117, 112], 83), ([50, 111, 118, 101, 114], 84), ([50, 115, 119, 97, 112], 85), ([50, 114, 111, 116], 86), ([50, 47], 87), ([117, 50, 47], 88), ([50, 42], 89), ([43, 33], 108), ([64], 109), ([119, 64], 111), ([99, 64], 113), ([33], 114), ([119, 33], 116), ([99, 33], 117), ([109, 111, 118, 101], 120), ([102, 105, 108, 108], 121), ([99, 111, 109, 112], 122), ([108, 98, 115, 112, 108, 105, 116], 126), ([98, 108, 106, 111, 105, 110], 127), ([119, 98, 102, 108, 105, 112], 128), ([117, 112, 99], 129), ([108, 99, 99], 130), ([117, 110, 108, 111, 111, 112], 137), ([97, 108, 108, 111, 99, 45, 109, 101, 109], 139), ([101, 109, 105, 116], 143), ([116, 121, 112, 101], 144), ([99, 114], 146), ([117, 46], 155), ([46], 157), ([98, 97, 115, 101, 33], 160), ([45, 49], 164), ([48], 165), ([49], 166), ([50], 167), ([51], 168), ([98, 108], 169), ([104, 101, 114, 101], 173), ([117, 109, 42], 212), ([117, 109, 47, 109, 111, 100], 213), ([100, 43], 216), ([100, 45], 217), ([112, 114, 111, 112, 101, 114, 116, 121], 272), ([101, 110, 99, 111, 100, 101, 45, 105, 110, 116], 273), ([101, 110, 99, 111, 100, 101, 43], 274), ([101, 110, 99, 111, 100, 101, 45, 115, 116, 114, 105, 110, 103], 276), ([110, 101, 119, 45, 100, 101, 118, 105, 99, 101], 287), ([102, 105, 110, 105, 115, 104, 45, 100, 101, 118, 105, 99, 101], 295), ([115, 109, 47, 114, 101, 109], 469), ([109, 121, 45, 115, 101, 108, 102], 515), ([109, 121, 45, 112, 97, 114, 101, 110, 116], 522), ([36, 99, 97, 108, 108, 45, 109, 101, 116, 104, 111, 100], 526), ([99, 97, 116, 99, 104], 535), ([116, 104, 114, 111, 119], 536), ([103, 101, 116, 45, 109, 121, 45, 112, 114, 111, 112, 101, 114, 116, 121], 538), ([100, 101, 99, 111, 100, 101, 45, 105, 110, 116], 539), ([100, 101, 99, 111, 100, 101, 45, 115, 116, 114, 105, 110, 103], 540), ([100, 101, 108, 101, 116, 101, 45, 112, 114, 111, 112, 101, 114, 116, 121], 542), ([102, 109, 47, 109, 111, 100], 725)]
/-- a word's name -/
def okC (c : Int) : Bool := decide (33 ≤ c ∧ c ≤ 126 ∧ ¬ (65 ≤ c ∧ c ≤ 90))
def namF (s : List Int) : Bool := s.all okC && decide (1 ≤ s.length ∧ s.length ≤ 31)
/-- instructions are sound -/
def okO (len : Nat) (words : Int) (x : Opd) : Bool := decide (x.1 = 1 ∨ (x.1 = 2 ∨ x.1 = 13) ∧ x.2 < words ∨ (x.1 = 11 ∨ x.1 = 12) ∧ x.2 = 0 ∨ 3 ≤ x.1 ∧ x.1 ≤ 10 ∧ x.2 ≤ len)
def sndF (l : List Opd) (words : Int) : Bool := decide (l.length ≤ 256) && l.all (okO l.length words)
/-- a word is formed, among so many, over a tree -/
def wofF (w : Wd) (words : Int) (t : List Nd) : Bool :=
  decide (2 ≤ w.2.2.1 ∧ w.2.2.1 ≤ 7) && ((decide (w.1 = []) || namF w.1) && (decide (-1 ≤ w.2.1 ∧ w.2.1 < t.length) &&
  (if w.2.2.1 = 2 then decide (w.2.2.2.1 = 0) && sndF w.2.2.2.2 words
   else decide (w.2.2.1 = 6 → w.2.2.2.1 < words) && (decide (w.2.2.1 = 7 → 0 ≤ w.2.1 ∧ w.2.2.2.1 < (t.getD w.2.1.toNat ([], [], 0, [], [])).2.2.2.2.length) && decide (w.2.2.2.2 = [])))))
/-- there is such an instance -/
def alvF (l : List Iz) (n : Int) : Bool := decide (0 ≤ n ∧ n < l.length) && decide (0 ≤ (l.getD n.toNat (-1, -1, [], [])).1)
def okI (l : List Iz) (t : List Nd) (x : Iz) : Bool :=
  if x.1 = -1 then decide (x = (-1, -1, [], []))
  else decide (0 ≤ x.1 ∧ x.1 < t.length) && (decide (x.2.2.2.length = (t.getD x.1.toNat ([], [], 0, [], [])).2.2.2.2.length) && (decide (x.2.2.1.length ≤ 256) && (decide (¬ (47 : Int) ∈ x.2.2.1) && (decide (x.2.1 = -1) || alvF l x.2.1))))
/-- going from parent to parent ends -/
def chnF (l : List Iz) : Nat → Int → Bool
  | 0, a => decide (a < 0)
  | f + 1, a => decide (a < 0) || chnF l f (l.getD a.toNat (-1, -1, [], [])).2.1
def insF (l : List Iz) (t : List Nd) : Bool := decide (l.length ≤ 16) && (l.all (okI l t) && l.all (fun x => chnF l 17 x.2.1))
def prmW (p : List Int × Int) : Wd := (p.1, -1, 1, p.2, [])
/-- the words of a machine are formed -/
def wdsF (ws : List Wd) (t : List Nd) : Bool := decide (111 ≤ ws.length ∧ ws.length ≤ 640) && (decide (ws.take 111 = prmL.map prmW) && (ws.drop 111).all (fun w => wofF w ws.length t))
def cdsF (c : List Int) (n : Nat) : Bool := decide (c.length ≤ 2048) && c.all (fun x => decide (-1 ≤ x ∧ x < n))
def frmM (m : Mc) : Bool :=
  decide (m.stack.length ≤ 64 ∧ m.mem.length ≤ 4096 ∧ 2 ≤ m.base ∧ m.base ≤ 36 ∧ m.out.length ≤ 1024) && (frmT m.tree && (decide (-1 ≤ m.node ∧ m.node < m.tree.length) && (insF m.insts m.tree && ((decide (m.self = -1) || alvF m.insts m.self) && (wdsF m.words m.tree && cdsF m.codes m.words.length)))))
/-- the last place of which p is true -/
def lstF {α : Type} (p : α → Bool) : List α → Option Nat
  | [] => none
  | x :: r => match lstF p r with
    | some k => some (k + 1)
    | none => if p x then some 0 else none
theorem lst_snoc {α : Type} (p : α → Bool) (x : α) : ∀ l : List α, lstF p (l ++ [x]) = if p x = true then some l.length else lstF p l
  | [] => by simp [lstF]
  | y :: r => by
    simp only [List.cons_append, lstF, lst_snoc p x r]
    by_cases h : p x = true
    · simp [h]
    · simp only [h]
      cases lstF p r <;> simp
/-- found by its name; a device's -/
def fndF (ws : List Wd) (nm : List Int) : Option Nat := if nm = [] then none else lstF (fun w => decide (w.1 = nm)) ws
def mthF (ws : List Wd) (n : Int) (nm : List Int) : Option Nat := if nm = [] ∨ n < 0 then none else lstF (fun w => decide (w.1 = nm) && decide (w.2.1 = n)) ws
/-- the word of an FCode number -/
def codF (c : List Int) (n : Int) : Option Int :=
  if 2048 ≤ n then (match c[(n - 2048).toNat]? with | some x => if x = -1 then none else some x | none => none)
  else (prmL.findIdx? (fun p => decide (p.2 = n))).map (fun (k : Nat) => (k : Int))
def newM : Mc := { stack := [], mem := [], words := prmL.map prmW, codes := [], base := 16, tree := [([], [], -1, [], [])], node := -1, insts := [], self := -1, out := [] }
def nilM : Mc := { stack := [], mem := [], words := [], codes := [], base := 0, tree := [], node := 0, insts := [], self := 0, out := [] }
/-- one word more -/
def dfnF (m : Mc) (w : Wd) : Mc × Int × Int :=
  if frmM m = false ∨ wofF w (m.words.length + 1) m.tree = false then (nilM, 0, 1) else if 640 ≤ m.words.length then (nilM, 0, 22)
  else ({ m with words := m.words ++ [w] }, m.words.length, 0)
/-- filled up with -1, and set -/
def bdcF (c : List Int) (k : Nat) (x : Int) : List Int := (c ++ List.replicate (k + 1 - c.length) (-1)).set k x
def bndF (m : Mc) (code xt : Int) : Mc × Int :=
  if frmM m = false then (nilM, 1) else if code < 2048 ∨ 4095 < code then (nilM, 16) else if xt < 0 ∨ (m.words.length : Int) ≤ xt then (nilM, 2)
  else ({ m with codes := bdcF m.codes (code - 2048).toNat xt }, 0)

/-! what comes is formed -/
theorem prm_len : prmL.length = 111 := by decide +kernel
theorem okO_more {len : Nat} {a b : Int} (h : a ≤ b) {x : Opd} (hx : okO len a x = true) : okO len b x = true := by
  unfold okO at hx ⊢
  rw [decide_eq_true_eq] at hx ⊢
  omega
theorem snd_more {l : List Opd} {a b : Int} (h : a ≤ b) (hs : sndF l a = true) : sndF l b = true := by
  unfold sndF at hs ⊢
  simp only [Bool.and_eq_true, List.all_eq_true] at hs ⊢
  exact ⟨hs.1, fun x hx => okO_more h (hs.2 x hx)⟩
theorem wof_more {w : Wd} {a b : Int} (h : a ≤ b) {t : List Nd} (hw : wofF w a t = true) : wofF w b t = true := by
  unfold wofF at hw ⊢
  simp only [Bool.and_eq_true] at hw ⊢
  refine ⟨hw.1, hw.2.1, hw.2.2.1, ?_⟩
  have h4 := hw.2.2.2
  split at h4
  · rename_i c
    rw [if_pos c]
    simp only [Bool.and_eq_true] at h4 ⊢
    exact ⟨h4.1, snd_more h h4.2⟩
  · rename_i c
    rw [if_neg c]
    simp only [Bool.and_eq_true, decide_eq_true_eq] at h4 ⊢
    exact ⟨fun g => by have := h4.1 g; omega, h4.2⟩
theorem wds_more {ws : List Wd} {w : Wd} {t : List Nd} (h : wdsF ws t = true) (hw : wofF w (ws.length + 1) t = true) (hl : ws.length < 640) : wdsF (ws ++ [w]) t = true := by
  unfold wdsF at h ⊢
  simp only [Bool.and_eq_true, decide_eq_true_eq, List.all_eq_true] at h ⊢
  obtain ⟨⟨h1, h2⟩, h3, h4⟩ := h
  refine ⟨⟨by simp; omega, by simp; omega⟩, by rw [List.take_append_of_le_length h1]; exact h3, ?_⟩
  intro x hx
  rw [List.drop_append_of_le_length h1] at hx
  have e : (((ws ++ [w]).length : Nat) : Int) = (ws.length : Int) + 1 := by simp
  rw [e]
  rcases List.mem_append.1 hx with hx | hx
  · exact wof_more (by omega) (h4 x hx)
  · simp at hx
    subst hx
    exact hw
theorem cds_more {c : List Int} {n k : Nat} (h : cdsF c n = true) (hk : n ≤ k) : cdsF c k = true := by
  unfold cdsF at h ⊢
  simp only [Bool.and_eq_true, decide_eq_true_eq, List.all_eq_true] at h ⊢
  exact ⟨h.1, fun x hx => by have := h.2 x hx; omega⟩
theorem frm_parts {m : Mc} (h : frmM m = true) : m.stack.length ≤ 64 ∧ m.mem.length ≤ 4096 ∧ m.out.length ≤ 1024 ∧ frmT m.tree = true ∧ insF m.insts m.tree = true ∧ wdsF m.words m.tree = true ∧ cdsF m.codes m.words.length = true := by
  unfold frmM at h
  simp only [Bool.and_eq_true, decide_eq_true_eq] at h
  exact ⟨h.1.1, h.1.2.1, h.1.2.2.2.2, h.2.1, h.2.2.2.1, h.2.2.2.2.2.1, h.2.2.2.2.2.2⟩
theorem dfn_ok {m : Mc} {w : Wd} (h : (dfnF m w).2.2 = 0) : frmM m = true ∧ wofF w (m.words.length + 1) m.tree = true ∧ m.words.length < 640 ∧ dfnF m w = ({ m with words := m.words ++ [w] }, (m.words.length : Int), 0) := by
  unfold dfnF at h ⊢
  split at h
  · simp at h
  · rename_i c1
    split at h
    · simp at h
    · rename_i c2
      rw [if_neg c1, if_neg c2]
      simp only [not_or, Bool.not_eq_false] at c1
      exact ⟨c1.1, c1.2, by omega, rfl⟩
theorem dfn_formed {m : Mc} {w : Wd} (h : (dfnF m w).2.2 = 0) : frmM (dfnF m w).1 = true := by
  obtain ⟨h1, h2, h3, e⟩ := dfn_ok h
  rw [e]
  unfold frmM at h1 ⊢
  simp only [Bool.and_eq_true] at h1 ⊢
  obtain ⟨a1, a2, a3, a4, a5, a6, a7⟩ := h1
  exact ⟨a1, a2, a3, a4, a5, wds_more a6 h2 h3, cds_more a7 (by simp)⟩
theorem bnd_ok {m : Mc} {code xt : Int} (h : (bndF m code xt).2 = 0) : frmM m = true ∧ (2048 ≤ code ∧ code ≤ 4095) ∧ (0 ≤ xt ∧ xt < m.words.length) ∧ bndF m code xt = ({ m with codes := bdcF m.codes (code - 2048).toNat xt }, 0) := by
  unfold bndF at h ⊢
  split at h
  · simp at h
  · rename_i c1
    split at h
    · simp at h
    · rename_i c2
      split at h
      · simp at h
      · rename_i c3
        rw [if_neg c1, if_neg c2, if_neg c3]
        exact ⟨by simpa using c1, by omega, by omega, rfl⟩
theorem bdc_len (c : List Int) (k : Nat) (x : Int) : (bdcF c k x).length = max c.length (k + 1) := by
  unfold bdcF
  simp
  omega
theorem bdc_get (c : List Int) (k : Nat) (x : Int) (i : Nat) : (bdcF c k x)[i]? = if i = k then some x else if i < c.length then c[i]? else if i < k then some (-1) else none := by
  unfold bdcF
  rw [List.getElem?_set]
  by_cases h : k = i
  · subst h
    simp
    omega
  · rw [if_neg h, if_neg (by omega), List.getElem?_append]
    by_cases g : i < c.length
    · rw [if_pos g, if_pos g]
    · rw [if_neg g, if_neg g, List.getElem?_replicate]
      by_cases f : i < k
      · rw [if_pos (by omega), if_pos f]
      · rw [if_neg (by omega), if_neg f]
theorem bnd_formed {m : Mc} {code xt : Int} (h : (bndF m code xt).2 = 0) : frmM (bndF m code xt).1 = true := by
  obtain ⟨h1, h2, h3, e⟩ := bnd_ok h
  rw [e]
  unfold frmM at h1 ⊢
  simp only [Bool.and_eq_true] at h1 ⊢
  obtain ⟨a1, a2, a3, a4, a5, a6, a7⟩ := h1
  refine ⟨a1, a2, a3, a4, a5, a6, ?_⟩
  unfold cdsF at a7 ⊢
  simp only [Bool.and_eq_true, decide_eq_true_eq, List.all_eq_true] at a7 ⊢
  refine ⟨by rw [bdc_len]; omega, fun x hx => ?_⟩
  obtain ⟨i, hi⟩ := List.mem_iff_getElem?.1 hx
  rw [bdc_get] at hi
  split at hi
  · simp at hi; omega
  · split at hi
    · exact a7.2 x (List.mem_of_getElem? hi)
    · split at hi
      · simp at hi; omega
      · simp at hi
/-! the newest counts -/
theorem fnd_new {ws : List Wd} {w : Wd} (h : ¬ w.1 = []) : fndF (ws ++ [w]) w.1 = some ws.length := by
  unfold fndF
  rw [if_neg h, lst_snoc, if_pos (by simp)]
theorem fnd_nil (ws : List Wd) : fndF ws [] = none := by unfold fndF; rw [if_pos rfl]
theorem fnd_other {ws : List Wd} {w : Wd} {nm : List Int} (h : ¬ nm = w.1) : fndF (ws ++ [w]) nm = fndF ws nm := by
  unfold fndF
  rw [lst_snoc]
  split
  · rfl
  · rw [if_neg (by simp; exact fun g => h g.symm)]
theorem mth_other {ws : List Wd} {w : Wd} {n : Int} {nm : List Int} (h : ¬ nm = w.1) : mthF (ws ++ [w]) n nm = mthF ws n nm := by
  unfold mthF
  rw [lst_snoc]
  split
  · rfl
  · rw [if_neg (by simp; intro g; exact absurd g.symm h)]
theorem cod_bnd {m : Mc} {code xt : Int} (h : (bndF m code xt).2 = 0) : codF (bndF m code xt).1.codes code = some xt := by
  obtain ⟨h1, h2, h3, e⟩ := bnd_ok h
  rw [e]
  unfold codF
  rw [if_pos h2.1]
  simp only [bdc_get, if_true]
  rw [if_neg (by omega)]
theorem cod_other {m : Mc} {code xt o : Int} (h : (bndF m code xt).2 = 0) (ho : ¬ o = code) : codF (bndF m code xt).1.codes o = codF m.codes o := by
  obtain ⟨h1, h2, h3, e⟩ := bnd_ok h
  rw [e]
  unfold codF
  by_cases c : 2048 ≤ o
  · rw [if_pos c, if_pos c]
    simp only [bdc_get]
    rw [if_neg (by omega)]
    by_cases g : (o - 2048).toNat < m.codes.length
    · rw [if_pos g]
    · rw [if_neg g, List.getElem?_eq_none (by omega)]
      by_cases f : (o - 2048).toNat < (code - 2048).toNat
      · rw [if_pos f]; simp
      · rw [if_neg f]
  · rw [if_neg c, if_neg c]
/-- each word of the list is found by its name and by its number -/
theorem prm_all : (List.range 111).all (fun k => match prmL[k]? with
    | none => false
    | some p => decide (fndF (prmL.map prmW) p.1 = some k) && (decide (codF [] p.2 = some (k : Int)) && namF p.1)) = true := by decide +kernel
theorem prm_at {k : Nat} (h : k < prmL.length) : fndF newM.words prmL[k].1 = some k ∧ codF newM.codes prmL[k].2 = some (k : Int) ∧ namF prmL[k].1 = true := by
  have h1 := List.all_eq_true.1 prm_all k (by rw [List.mem_range, ← prm_len]; exact h)
  rw [List.getElem?_eq_getElem h] at h1
  simp only [Bool.and_eq_true, decide_eq_true_eq] at h1
  exact h1

/-
  Machines, words, instructions and instances in memory: what rows read as.
-/
def opR (w : World) (cs : List Value) (x : Opd) : Prop := cs = [.int .i64 x.1, .int .u32 x.2]
def prmR (w : World) (cs : List Value) (x : List Int × Int) : Prop := cs = [.string (strOfNums x.1), .int .i64 x.2]
def wrdR (w : World) (cs : List Value) (x : Wd) : Prop := ∃ vc, cs = [.string (strOfNums x.1), .int .i64 x.2.1, .int .i64 x.2.2.1, .int .u32 x.2.2.2.1, vc] ∧ SlR 2 opR w vc x.2.2.2.2
def insR (w : World) (cs : List Value) (x : Iz) : Prop := ∃ vc, cs = [.int .i64 x.1, .int .i64 x.2.1, .string (strOfNums x.2.2.1), vc] ∧ Rd .u32 w vc x.2.2.2
theorem opR_below {w w' : World} (g : Below w.heap.size w w') (cs : List Value) (x : Opd) (h : opR w cs x) : opR w' cs x := h
theorem prmR_below {w w' : World} (g : Below w.heap.size w w') (cs : List Value) (x : List Int × Int) (h : prmR w cs x) : prmR w' cs x := h
theorem wrdR_below {w w' : World} (g : Below w.heap.size w w') (cs : List Value) (x : Wd) (h : wrdR w cs x) : wrdR w' cs x := by
  obtain ⟨v, h1, h2⟩ := h
  exact ⟨v, h1, h2.below g (opR_below g)⟩
theorem insR_below {w w' : World} (g : Below w.heap.size w w') (cs : List Value) (x : Iz) (h : insR w cs x) : insR w' cs x := by
  obtain ⟨v, h1, h2⟩ := h
  exact ⟨v, h1, h2.below g⟩
/-- words, instances, read -/
def RdW (w : World) (v : Value) (l : List Wd) : Prop := SlR 5 wrdR w v l
def RdI (w : World) (v : Value) (l : List Iz) : Prop := SlR 4 insR w v l
def RdO (w : World) (v : Value) (l : List Opd) : Prop := SlR 2 opR w v l
theorem RdW.below {w w' : World} {v : Value} {l : List Wd} (h : RdW w v l) (g : Below w.heap.size w w') : RdW w' v l := SlR.below h g (wrdR_below g)
theorem RdI.below {w w' : World} {v : Value} {l : List Iz} (h : RdI w v l) (g : Below w.heap.size w w') : RdI w' v l := SlR.below h g (insR_below g)
theorem RdO.below {w w' : World} {v : Value} {l : List Opd} (h : RdO w v l) (g : Below w.heap.size w w') : RdO w' v l := SlR.below h g (opR_below g)
/-- a machine's ten cells -/
structure Mv where
  vs : Value
  vm : Value
  vw : Value
  vc : Value
  vt : Value
  vi : Value
def Mv.cs (v : Mv) (m : Mc) (o : ByteArray) : Array Value := #[v.vs, v.vm, v.vw, v.vc, .int .u32 m.base, v.vt, .int .i64 m.node, v.vi, .int .i64 m.self, .string o]
structure RdM (w : World) (v : Mv) (m : Mc) (o : ByteArray) : Prop where
  stack : Rd .u32 w v.vs m.stack
  mem : Rd .u8 w v.vm m.mem
  words : RdW w v.vw m.words
  codes : Rd .i64 w v.vc m.codes
  tree : RdT w v.vt m.tree
  insts : RdI w v.vi m.insts
  out : strOfNums m.out = o
theorem RdM.below {w w' : World} {v : Mv} {m : Mc} {o : ByteArray} (h : RdM w v m o) (g : Below w.heap.size w w') : RdM w' v m o :=
  ⟨h.stack.below g, h.mem.below g, h.words.below g, h.codes.below g, h.tree.below g, h.insts.below g, h.out⟩

theorem uW : Try.prog.underlying 26 = some (.slice (Try.prog.elem 26)) := by kernel_rfl
theorem eW : Try.prog.elem 26 = 51 := by kernel_rfl
theorem zW (w : World) : (sizeOf (Try.prog.elem 26)).run Try.prog w = .ok 5 w := by rw [eW]; exact Try.sizeOf51 w
theorem wrd_at {w : World} {v : Value} {l : List Wd} (h : RdW w v l) (i : Nat) (h1 : i < l.length) :
    ∃ (b o : Nat) (nm : ByteArray) (vc : Value), (∀ w', (Instr.indexAt 26 v (.int .i64 (i : Int))).run Try.prog w' = .ok (.pointer (some ⟨b, o, none⟩)) w') ∧ w.cell? ⟨b, o, none⟩ = some (.string nm) ∧ w.cell? ⟨b, o + 1, none⟩ = some (.int .i64 l[i].2.1) ∧ w.cell? ⟨b, o + 2, none⟩ = some (.int .i64 l[i].2.2.1) ∧ w.cell? ⟨b, o + 3, none⟩ = some (.int .u32 l[i].2.2.2.1) ∧ w.cell? ⟨b, o + 4, none⟩ = some vc ∧ strOfNums l[i].1 = nm ∧ RdO w vc l[i].2.2.2.2 := by
  obtain ⟨b, o, cs, r, hl, hc, vc, rfl, h2⟩ := slr_idxN h uW zW i h1
  exact ⟨b, o, _, vc, r, hc 0 (by omega), hc 1 (by omega), hc 2 (by omega), hc 3 (by omega), hc 4 (by omega), rfl, h2⟩

theorem uO : Try.prog.underlying 45 = some (.slice (Try.prog.elem 45)) := by kernel_rfl
theorem eO : Try.prog.elem 45 = 78 := by kernel_rfl
theorem zO (w : World) : (sizeOf (Try.prog.elem 45)).run Try.prog w = .ok 2 w := by rw [eO]; exact Try.sizeOf78 w
theorem op_at {w : World} {v : Value} {l : List Opd} (h : RdO w v l) (i : Nat) (h1 : i < l.length) :
    ∃ (b o : Nat), (∀ w', (Instr.indexAt 45 v (.int .i64 (i : Int))).run Try.prog w' = .ok (.pointer (some ⟨b, o, none⟩)) w') ∧ w.cell? ⟨b, o, none⟩ = some (.int .i64 l[i].1) ∧ w.cell? ⟨b, o + 1, none⟩ = some (.int .u32 l[i].2) := by
  obtain ⟨b, o, cs, r, hl, hc, h2⟩ := slr_idxN h uO zO i h1
  have h3 : cs = [.int .i64 l[i].1, .int .u32 l[i].2] := h2
  subst h3
  exact ⟨b, o, r, hc 0 (by omega), hc 1 (by omega)⟩

theorem uI : Try.prog.underlying 30 = some (.slice (Try.prog.elem 30)) := by kernel_rfl
theorem eI : Try.prog.elem 30 = 83 := by kernel_rfl
theorem zI (w : World) : (sizeOf (Try.prog.elem 30)).run Try.prog w = .ok 4 w := by rw [eI]; exact Try.sizeOf83 w
theorem ins_at {w : World} {v : Value} {l : List Iz} (h : RdI w v l) (i : Nat) (h1 : i < l.length) :
    ∃ (b o : Nat) (ar : ByteArray) (vc : Value), (∀ w', (Instr.indexAt 30 v (.int .i64 (i : Int))).run Try.prog w' = .ok (.pointer (some ⟨b, o, none⟩)) w') ∧ w.cell? ⟨b, o, none⟩ = some (.int .i64 l[i].1) ∧ w.cell? ⟨b, o + 1, none⟩ = some (.int .i64 l[i].2.1) ∧ w.cell? ⟨b, o + 2, none⟩ = some (.string ar) ∧ w.cell? ⟨b, o + 3, none⟩ = some vc ∧ strOfNums l[i].2.2.1 = ar ∧ Rd .u32 w vc l[i].2.2.2 := by
  obtain ⟨b, o, cs, r, hl, hc, vc, rfl, h2⟩ := slr_idxN h uI zI i h1
  exact ⟨b, o, _, vc, r, hc 0 (by omega), hc 1 (by omega), hc 2 (by omega), hc 3 (by omega), rfl, h2⟩

theorem uM : Try.prog.underlying 34 = some (.slice (Try.prog.elem 34)) := by kernel_rfl
theorem eM : Try.prog.elem 34 = 37 := by kernel_rfl
theorem zM (w : World) : (sizeOf (Try.prog.elem 34)).run Try.prog w = .ok 2 w := by rw [eM]; exact Try.sizeOf37 w
theorem prm_cell {w : World} {v : Value} {l : List (List Int × Int)} (h : SlR 2 prmR w v l) (i : Nat) (h1 : i < l.length) :
    ∃ (b o : Nat) (nm : ByteArray), (∀ w', (Instr.indexAt 34 v (.int .i64 (i : Int))).run Try.prog w' = .ok (.pointer (some ⟨b, o, none⟩)) w') ∧ w.cell? ⟨b, o, none⟩ = some (.string nm) ∧ w.cell? ⟨b, o + 1, none⟩ = some (.int .i64 l[i].2) ∧ strOfNums l[i].1 = nm := by
  obtain ⟨b, o, cs, r, hl, hc, h2⟩ := slr_idxN h uM zM i h1
  have h3 : cs = [.string (strOfNums l[i].1), .int .i64 l[i].2] := h2
  subst h3
  exact ⟨b, o, _, r, hc 0 (by omega), hc 1 (by omega), rfl⟩

end Go.Proofs.Ytfljcfpcokimcaa
