/-
  Texts of one proof, laid one behind the other: Pd1 Mch Mcp Mco Dgm Fni Rp1 Rmf Rp2 Rp3 Rp4 Plb Plp Rt1.
-/
import Derived.Test.YtfljcfpcokimcabB2
import Derived.Lib.Bytealg
import Derived.Lib.BytesEntry
import Derived.Lib.ConvBytes
import Derived.Lib.AtoiErrMem
import Derived.Lib.Slices
import Derived.Laws.Externs
import Derived.Lib.Strings
import Derived.Lib.Walk
import Derived.Lib.BufferWrite
import Derived.Lib.UnsafeStr
import Derived.Lib.IfaceEq
import Derived.Lib.Hide
import Derived.Laws.MakeOwn
import Derived.Laws.Strings3
import Derived.Laws.Closers25
import Derived.Laws.Closers25b
import Derived.BigCall
import Derived.BigGuard
namespace Go.Proofs.Ytfljcfpcokimcab
open Go.ChangeShapes Go.WideShapes Go.ChangeAt Go.RowKit
set_option linter.unusedVariables false
set_option linter.unusedSimpArgs false

/-
  The dictionary and the machine, as plain functions: words, instructions, instances, what is formed, what is found.
-/
/-- an instruction: kind, number -/
abbrev Opd := Int × Int
/-- a word: name, device, kind, number, code -/
abbrev Wd := List Int × Int × Int × Int × List Opd
instance decWd : DecidableEq Wd := fun x y => @instDecidableEqProd _ _ _ (@instDecidableEqProd _ _ _ (@instDecidableEqProd _ _ _ inferInstance)) x y
/-- an instance: device, parent, arguments, cells -/
abbrev Iz := Int × Int × List Int × List Int
structure Mc where
  stack : List Int
  mem : List Int
  words : List Wd
  codes : List Int
  base : Int
  tree : List Nd
  node : Int
  insts : List Iz
  self : Int
  out : List Int
/-- the words that every dictionary begins with -/
def prmL : List (List Int × Int) := [([105], 25), ([106], 26), ([101, 120, 101, 99, 117, 116, 101], 29), ([43], 30), ([45], 31), ([42], 32), ([47], 33), ([109, 111, 100], 34), ([97, 110, 100], 35), ([111, 114], 36), ([120, 111, 114], 37), ([105, 110, 118, 101, 114, 116], 38), ([108, 115, 104, 105, 102, 116], 39), ([114, 115, 104, 105, 102, 116], 40), ([62, 62, 97], 41), ([47, 109, 111, 100], 42), ([117, 47, 109, 111, 100], 43), ([110, 101, 103, 97, 116, 101], 44), ([97, 98, 115], 45), ([109, 105, 110], 46), ([109, 97, 120], 47), ([62, 114], 48), ([114, 62], 49), ([114, 64], 50), ([48, 61], 52), ([48, 60, 62], 53), ([48, 60], 54), ([48, 60, 61], 55), ([48, 62], 56), ([48, 62, 61], 57), ([60], 58), ([62], 59), ([61], 60), ([60, 62], 61), ([117, 62], 62), ([117, 60, 61], 63), ([117, 60], 64), ([117, 62, 61], 65), ([62, 61], 66), ([60, 61], 67), ([100, 114, 111, 112], 70), ([100, 117, 112], 71), ([111, 118, 101, 114], 72), ([115, 119, 97, 112], 73), ([114, 111, 116], 74), ([45, 114, 111, 116], 75), ([116, 117, 99, 107], 76), ([110, 105, 112], 77), ([112, 105, 99, 107], 78), ([114, 111, 108, 108], 79), ([63, 100, 117, 112], 80), ([100, 101, 112, 116, 104], 81), ([50, 100, 114, 111, 112], 82), ([50, 100, 117, 112], 83), ([50, 111, 118, 101, 114], 84), ([50, 115, 119, 97, 112], 85), ([50, 114, 111, 116], 86), ([50, 47], 87), ([117, 50, 47], 88), ([50, 42], 89), ([43, 33], 108), ([64], 109), ([119, 64], 111), ([99, 64], 113), ([33], 114), ([119, 33], 116), ([99, 33], 117), ([109, 111, 118, 101], 120), ([102, 105, 108, 108], 121), ([99, 111, 109, 112], 122), ([108, 98, 115, 112, 108, 105, 116], 126), ([98, 108, 106, 111, 105, 110], 127), ([119, 98, 102, 108, 105, 112], 128), ([117, 112, 99], 129), ([108, 99, 99], 130), ([117, 110, 108, 111, 111, 112], 137), ([97, 108, 108, 111, 99, 45, 109, 101, 109], 139), ([101, 109, 105, 116], 143), ([116, 121, 112, 101], 144), ([99, 114], 146), ([117, 46], 155), ([46], 157), ([98, 97, 115, 101, 33], 160), ([45, 49], 164), ([48], 165), ([49], 166), ([50], 167), ([51], 168), ([98, 108], 169), ([104, 101, 114, 101], 173), ([117, 109, 42], 212), ([117, 109, 47, 109, 111, 100], 213), ([100, 43], 216), ([100, 45], 217), ([112, 114, 111, 112, 101, 114, 116, 121], 272), ([101, 110, 99, 111, 100, 101, 45, 105, 110, 116], 273), ([101, 110, 99, 111, 100, 101, 43], 274), ([101, 110, 99, 111, 100, 101, 45, 115, 116, 114, 105, 110, 103], 276), ([110, 101, 119, 45, 100, 101, 118, 105, 99, 101], 287), ([102, 105, 110, 105, 115, 104, 45, 100, 101, 118, 105, 99, 101], 295), ([115, 109, 47, 114, 101, 109], 469), ([109, 121, 45, 115, 101, 108, 102], 515), ([109, 121, 45, 112, 97, 114, 101, 110, 116], 522), ([36, 99, 97, 108, 108, 45, 109, 101, 116, 104, 111, 100], 526), ([99, 97, 116, 99, 104], 535), ([116, 104, 114, 111, 119], 536), ([103, 101, 116, 45, 109, 121, 45, 112, 114, 111, 112, 101, 114, 116, 121], 538), ([100, 101, 99, 111, 100, 101, 45, 105, 110, 116], 539), ([100, 101, 99, 111, 100, 101, 45, 115, 116, 114, 105, 110, 103], 540), ([100, 101, 108, 101, 116, 101, 45, 112, 114, 111, 112, 101, 114, 116, 121], 542), ([102, 109, 47, 109, 111, 100], 725)]
/-- a word's name -/
def okC (c : Int) : Bool := decide (33 ≤ c ∧ c ≤ 126 ∧ ¬ (65 ≤ c ∧ c ≤ 90))
def namF (s : List Int) : Bool := s.all okC && decide (1 ≤ s.length ∧ s.length ≤ 31)
/-- instructions are sound -/
def okO (len : Nat) (words : Int) (x : Opd) : Bool := decide (x.1 = 1 ∨ (x.1 = 2 ∨ x.1 = 13) ∧ x.2 < words ∨ (x.1 = 11 ∨ x.1 = 12) ∧ x.2 = 0 ∨ 3 ≤ x.1 ∧ x.1 ≤ 10 ∧ x.2 ≤ len)
def sndF (l : List Opd) (words : Int) : Bool := decide (l.length ≤ 256) && l.all (okO l.length words)
/-- a word is formed, among so many, over a tree -/
def wofF (w : Wd) (words : Int) (t : List Nd) : Bool :=
  decide (2 ≤ w.2.2.1 ∧ w.2.2.1 ≤ 7) && ((decide (w.1 = []) || namF w.1) && (decide (-1 ≤ w.2.1 ∧ w.2.1 < t.length) &&
  (if w.2.2.1 = 2 then decide (w.2.2.2.1 = 0) && sndF w.2.2.2.2 words
   else decide (w.2.2.1 = 6 → w.2.2.2.1 < words) && (decide (w.2.2.1 = 7 → 0 ≤ w.2.1 ∧ w.2.2.2.1 < (t.getD w.2.1.toNat ([], [], 0, [], [])).2.2.2.2.length) && decide (w.2.2.2.2 = [])))))
/-- there is such an instance -/
def alvF (l : List Iz) (n : Int) : Bool := decide (0 ≤ n ∧ n < l.length) && decide (0 ≤ (l.getD n.toNat (-1, -1, [], [])).1)
def okI (l : List Iz) (t : List Nd) (x : Iz) : Bool :=
  if x.1 = -1 then decide (x = (-1, -1, [], []))
  else decide (0 ≤ x.1 ∧ x.1 < t.length) && (decide (x.2.2.2.length = (t.getD x.1.toNat ([], [], 0, [], [])).2.2.2.2.length) && (decide (x.2.2.1.length ≤ 256) && (decide (¬ (47 : Int) ∈ x.2.2.1) && (decide (x.2.1 = -1) || alvF l x.2.1))))
/-- going from parent to parent ends -/
def chnF (l : List Iz) : Nat → Int → Bool
  | 0, a => decide (a < 0)
  | f + 1, a => decide (a < 0) || chnF l f (l.getD a.toNat (-1, -1, [], [])).2.1
def insF (l : List Iz) (t : List Nd) : Bool := decide (l.length ≤ 16) && (l.all (okI l t) && l.all (fun x => chnF l 17 x.2.1))
def prmW (p : List Int × Int) : Wd := (p.1, -1, 1, p.2, [])
/-- the words of a machine are formed -/
def wdsF (ws : List Wd) (t : List Nd) : Bool := decide (111 ≤ ws.length ∧ ws.length ≤ 640) && (decide (ws.take 111 = prmL.map prmW) && (ws.drop 111).all (fun w => wofF w ws.length t))
def cdsF (c : List Int) (n : Nat) : Bool := decide (c.length ≤ 2048) && c.all (fun x => decide (-1 ≤ x ∧ x < n))
def frmM (m : Mc) : Bool :=
  decide (m.stack.length ≤ 64 ∧ m.mem.length ≤ 4096 ∧ 2 ≤ m.base ∧ m.base ≤ 36 ∧ m.out.length ≤ 1024) && (frmT m.tree && (decide (-1 ≤ m.node ∧ m.node < m.tree.length) && (insF m.insts m.tree && ((decide (m.self = -1) || alvF m.insts m.self) && (wdsF m.words m.tree && cdsF m.codes m.words.length)))))
/-- the last place of which p is true -/
def lstF {α : Type} (p : α → Bool) : List α → Option Nat
  | [] => none
  | x :: r => match lstF p r with
    | some k => some (k + 1)
    | none => if p x then some 0 else none
theorem lst_snoc {α : Type} (p : α → Bool) (x : α) : ∀ l : List α, lstF p (l ++ [x]) = if p x = true then some l.length else lstF p l
  | [] => by simp [lstF]
  | y :: r => by
    simp only [List.cons_append, lstF, lst_snoc p x r]
    by_cases h : p x = true
    · simp [h]
    · simp only [h]
      cases lstF p r <;> simp
/-- found by its name; a device's -/
def fndF (ws : List Wd) (nm : List Int) : Option Nat := if nm = [] then none else lstF (fun w => decide (w.1 = nm)) ws
def mthF (ws : List Wd) (n : Int) (nm : List Int) : Option Nat := if nm = [] ∨ n < 0 then none else lstF (fun w => decide (w.1 = nm) && decide (w.2.1 = n)) ws
/-- the word of an FCode number -/
def codF (c : List Int) (n : Int) : Option Int :=
  if 2048 ≤ n then (match c[(n - 2048).toNat]? with | some x => if x = -1 then none else some x | none => none)
  else (prmL.findIdx? (fun p => decide (p.2 = n))).map (fun (k : Nat) => (k : Int))
def newM : Mc := { stack := [], mem := [], words := prmL.map prmW, codes := [], base := 16, tree := [([], [], -1, [], [])], node := -1, insts := [], self := -1, out := [] }
def nilM : Mc := { stack := [], mem := [], words := [], codes := [], base := 0, tree := [], node := 0, insts := [], self := 0, out := [] }
/-- one word more -/
def dfnF (m : Mc) (w : Wd) : Mc × Int × Int :=
  if frmM m = false ∨ wofF w (m.words.length + 1) m.tree = false then (nilM, 0, 1) else if 640 ≤ m.words.length then (nilM, 0, 22)
  else ({ m with words := m.words ++ [w] }, m.words.length, 0)
/-- filled up with -1, and set -/
def bdcF (c : List Int) (k : Nat) (x : Int) : List Int := (c ++ List.replicate (k + 1 - c.length) (-1)).set k x
def bndF (m : Mc) (code xt : Int) : Mc × Int :=
  if frmM m = false then (nilM, 1) else if code < 2048 ∨ 4095 < code then (nilM, 16) else if xt < 0 ∨ (m.words.length : Int) ≤ xt then (nilM, 2)
  else ({ m with codes := bdcF m.codes (code - 2048).toNat xt }, 0)

/-! what comes is formed -/
theorem prm_len : prmL.length = 111 := by decide +kernel
theorem okO_more {len : Nat} {a b : Int} (h : a ≤ b) {x : Opd} (hx : okO len a x = true) : okO len b x = true := by
  unfold okO at hx ⊢
  rw [decide_eq_true_eq] at hx ⊢
  omega
theorem snd_more {l : List Opd} {a b : Int} (h : a ≤ b) (hs : sndF l a = true) : sndF l b = true := by
  unfold sndF at hs ⊢
  simp only [Bool.and_eq_true, List.all_eq_true] at hs ⊢
  exact ⟨hs.1, fun x hx => okO_more h (hs.2 x hx)⟩
theorem wof_more {w : Wd} {a b : Int} (h : a ≤ b) {t : List Nd} (hw : wofF w a t = true) : wofF w b t = true := by
  unfold wofF at hw ⊢
  simp only [Bool.and_eq_true] at hw ⊢
  refine ⟨hw.1, hw.2.1, hw.2.2.1, ?_⟩
  have h4 := hw.2.2.2
  split at h4
  · rename_i c
    rw [if_pos c]
    simp only [Bool.and_eq_true] at h4 ⊢
    exact ⟨h4.1, snd_more h h4.2⟩
  · rename_i c
    rw [if_neg c]
    simp only [Bool.and_eq_true, decide_eq_true_eq] at h4 ⊢
    exact ⟨fun g => by have := h4.1 g; omega, h4.2⟩
theorem wds_more {ws : List Wd} {w : Wd} {t : List Nd} (h : wdsF ws t = true) (hw : wofF w (ws.length + 1) t = true) (hl : ws.length < 640) : wdsF (ws ++ [w]) t = true := by
  unfold wdsF at h ⊢
  simp only [Bool.and_eq_true, decide_eq_true_eq, List.all_eq_true] at h ⊢
  obtain ⟨⟨h1, h2⟩, h3, h4⟩ := h
  refine ⟨⟨by simp; omega, by simp; omega⟩, by rw [List.take_append_of_le_length h1]; exact h3, ?_⟩
  intro x hx
  rw [List.drop_append_of_le_length h1] at hx
  have e : (((ws ++ [w]).length : Nat) : Int) = (ws.length : Int) + 1 := by simp
  rw [e]
  rcases List.mem_append.1 hx with hx | hx
  · exact wof_more (by omega) (h4 x hx)
  · simp at hx
    subst hx
    exact hw
theorem cds_more {c : List Int} {n k : Nat} (h : cdsF c n = true) (hk : n ≤ k) : cdsF c k = true := by
  unfold cdsF at h ⊢
  simp only [Bool.and_eq_true, decide_eq_true_eq, List.all_eq_true] at h ⊢
  exact ⟨h.1, fun x hx => by have := h.2 x hx; omega⟩
theorem frm_parts {m : Mc} (h : frmM m = true) : m.stack.length ≤ 64 ∧ m.mem.length ≤ 4096 ∧ m.out.length ≤ 1024 ∧ frmT m.tree = true ∧ insF m.insts m.tree = true ∧ wdsF m.words m.tree = true ∧ cdsF m.codes m.words.length = true := by
  unfold frmM at h
  simp only [Bool.and_eq_true, decide_eq_true_eq] at h
  exact ⟨h.1.1, h.1.2.1, h.1.2.2.2.2, h.2.1, h.2.2.2.1, h.2.2.2.2.2.1, h.2.2.2.2.2.2⟩
theorem dfn_ok {m : Mc} {w : Wd} (h : (dfnF m w).2.2 = 0) : frmM m = true ∧ wofF w (m.words.length + 1) m.tree = true ∧ m.words.length < 640 ∧ dfnF m w = ({ m with words := m.words ++ [w] }, (m.words.length : Int), 0) := by
  unfold dfnF at h ⊢
  split at h
  · simp at h
  · rename_i c1
    split at h
    · simp at h
    · rename_i c2
      rw [if_neg c1, if_neg c2]
      simp only [not_or, Bool.not_eq_false] at c1
      exact ⟨c1.1, c1.2, by omega, rfl⟩
theorem dfn_formed {m : Mc} {w : Wd} (h : (dfnF m w).2.2 = 0) : frmM (dfnF m w).1 = true := by
  obtain ⟨h1, h2, h3, e⟩ := dfn_ok h
  rw [e]
  unfold frmM at h1 ⊢
  simp only [Bool.and_eq_true] at h1 ⊢
  obtain ⟨a1, a2, a3, a4, a5, a6, a7⟩ := h1
  exact ⟨a1, a2, a3, a4, a5, wds_more a6 h2 h3, cds_more a7 (by simp)⟩
theorem bnd_ok {m : Mc} {code xt : Int} (h : (bndF m code xt).2 = 0) : frmM m = true ∧ (2048 ≤ code ∧ code ≤ 4095) ∧ (0 ≤ xt ∧ xt < m.words.length) ∧ bndF m code xt = ({ m with codes := bdcF m.codes (code - 2048).toNat xt }, 0) := by
  unfold bndF at h ⊢
  split at h
  · simp at h
  · rename_i c1
    split at h
    · simp at h
    · rename_i c2
      split at h
      · simp at h
      · rename_i c3
        rw [if_neg c1, if_neg c2, if_neg c3]
        exact ⟨by simpa using c1, by omega, by omega, rfl⟩
theorem bdc_len (c : List Int) (k : Nat) (x : Int) : (bdcF c k x).length = max c.length (k + 1) := by
  unfold bdcF
  simp
  omega
theorem bdc_get (c : List Int) (k : Nat) (x : Int) (i : Nat) : (bdcF c k x)[i]? = if i = k then some x else if i < c.length then c[i]? else if i < k then some (-1) else none := by
  unfold bdcF
  rw [List.getElem?_set]
  by_cases h : k = i
  · subst h
    simp
    omega
  · rw [if_neg h, if_neg (by omega), List.getElem?_append]
    by_cases g : i < c.length
    · rw [if_pos g, if_pos g]
    · rw [if_neg g, if_neg g, List.getElem?_replicate]
      by_cases f : i < k
      · rw [if_pos (by omega), if_pos f]
      · rw [if_neg (by omega), if_neg f]
theorem bnd_formed {m : Mc} {code xt : Int} (h : (bndF m code xt).2 = 0) : frmM (bndF m code xt).1 = true := by
  obtain ⟨h1, h2, h3, e⟩ := bnd_ok h
  rw [e]
  unfold frmM at h1 ⊢
  simp only [Bool.and_eq_true] at h1 ⊢
  obtain ⟨a1, a2, a3, a4, a5, a6, a7⟩ := h1
  refine ⟨a1, a2, a3, a4, a5, a6, ?_⟩
  unfold cdsF at a7 ⊢
  simp only [Bool.and_eq_true, decide_eq_true_eq, List.all_eq_true] at a7 ⊢
  refine ⟨by rw [bdc_len]; omega, fun x hx => ?_⟩
  obtain ⟨i, hi⟩ := List.mem_iff_getElem?.1 hx
  rw [bdc_get] at hi
  split at hi
  · simp at hi; omega
  · split at hi
    · exact a7.2 x (List.mem_of_getElem? hi)
    · split at hi
      · simp at hi; omega
      · simp at hi
/-! the newest counts -/
theorem fnd_new {ws : List Wd} {w : Wd} (h : ¬ w.1 = []) : fndF (ws ++ [w]) w.1 = some ws.length := by
  unfold fndF
  rw [if_neg h, lst_snoc, if_pos (by simp)]
theorem fnd_nil (ws : List Wd) : fndF ws [] = none := by unfold fndF; rw [if_pos rfl]
theorem fnd_other {ws : List Wd} {w : Wd} {nm : List Int} (h : ¬ nm = w.1) : fndF (ws ++ [w]) nm = fndF ws nm := by
  unfold fndF
  rw [lst_snoc]
  split
  · rfl
  · rw [if_neg (by simp; exact fun g => h g.symm)]
theorem mth_other {ws : List Wd} {w : Wd} {n : Int} {nm : List Int} (h : ¬ nm = w.1) : mthF (ws ++ [w]) n nm = mthF ws n nm := by
  unfold mthF
  rw [lst_snoc]
  split
  · rfl
  · rw [if_neg (by simp; intro g; exact absurd g.symm h)]
theorem cod_bnd {m : Mc} {code xt : Int} (h : (bndF m code xt).2 = 0) : codF (bndF m code xt).1.codes code = some xt := by
  obtain ⟨h1, h2, h3, e⟩ := bnd_ok h
  rw [e]
  unfold codF
  rw [if_pos h2.1]
  simp only [bdc_get, if_true]
  rw [if_neg (by omega)]
theorem cod_other {m : Mc} {code xt o : Int} (h : (bndF m code xt).2 = 0) (ho : ¬ o = code) : codF (bndF m code xt).1.codes o = codF m.codes o := by
  obtain ⟨h1, h2, h3, e⟩ := bnd_ok h
  rw [e]
  unfold codF
  by_cases c : 2048 ≤ o
  · rw [if_pos c, if_pos c]
    simp only [bdc_get]
    rw [if_neg (by omega)]
    by_cases g : (o - 2048).toNat < m.codes.length
    · rw [if_pos g]
    · rw [if_neg g, List.getElem?_eq_none (by omega)]
      by_cases f : (o - 2048).toNat < (code - 2048).toNat
      · rw [if_pos f]; simp
      · rw [if_neg f]
  · rw [if_neg c, if_neg c]
/-- each word of the list is found by its name and by its number -/
theorem prm_all : (List.range 111).all (fun k => match prmL[k]? with
    | none => false
    | some p => decide (fndF (prmL.map prmW) p.1 = some k) && (decide (codF [] p.2 = some (k : Int)) && namF p.1)) = true := by decide +kernel
theorem prm_at {k : Nat} (h : k < prmL.length) : fndF newM.words prmL[k].1 = some k ∧ codF newM.codes prmL[k].2 = some (k : Int) ∧ namF prmL[k].1 = true := by
  have h1 := List.all_eq_true.1 prm_all k (by rw [List.mem_range, ← prm_len]; exact h)
  rw [List.getElem?_eq_getElem h] at h1
  simp only [Bool.and_eq_true, decide_eq_true_eq] at h1
  exact h1

/-
  Machines, words, instructions and instances in memory: what rows read as.
-/
def opR (w : World) (cs : List Value) (x : Opd) : Prop := cs = [.int .i64 x.1, .int .u32 x.2]
def prmR (w : World) (cs : List Value) (x : List Int × Int) : Prop := cs = [.string (strOfNums x.1), .int .i64 x.2]
def wrdR (w : World) (cs : List Value) (x : Wd) : Prop := ∃ vc, cs = [.string (strOfNums x.1), .int .i64 x.2.1, .int .i64 x.2.2.1, .int .u32 x.2.2.2.1, vc] ∧ SlR 2 opR w vc x.2.2.2.2
def insR (w : World) (cs : List Value) (x : Iz) : Prop := ∃ vc, cs = [.int .i64 x.1, .int .i64 x.2.1, .string (strOfNums x.2.2.1), vc] ∧ Rd .u32 w vc x.2.2.2
theorem opR_below {w w' : World} (g : Below w.heap.size w w') (cs : List Value) (x : Opd) (h : opR w cs x) : opR w' cs x := h
theorem prmR_below {w w' : World} (g : Below w.heap.size w w') (cs : List Value) (x : List Int × Int) (h : prmR w cs x) : prmR w' cs x := h
theorem wrdR_below {w w' : World} (g : Below w.heap.size w w') (cs : List Value) (x : Wd) (h : wrdR w cs x) : wrdR w' cs x := by
  obtain ⟨v, h1, h2⟩ := h
  exact ⟨v, h1, h2.below g (opR_below g)⟩
theorem insR_below {w w' : World} (g : Below w.heap.size w w') (cs : List Value) (x : Iz) (h : insR w cs x) : insR w' cs x := by
  obtain ⟨v, h1, h2⟩ := h
  exact ⟨v, h1, h2.below g⟩
/-- words, instances, read -/
def RdW (w : World) (v : Value) (l : List Wd) : Prop := SlR 5 wrdR w v l
def RdI (w : World) (v : Value) (l : List Iz) : Prop := SlR 4 insR w v l
def RdO (w : World) (v : Value) (l : List Opd) : Prop := SlR 2 opR w v l
theorem RdW.below {w w' : World} {v : Value} {l : List Wd} (h : RdW w v l) (g : Below w.heap.size w w') : RdW w' v l := SlR.below h g (wrdR_below g)
theorem RdI.below {w w' : World} {v : Value} {l : List Iz} (h : RdI w v l) (g : Below w.heap.size w w') : RdI w' v l := SlR.below h g (insR_below g)
theorem RdO.below {w w' : World} {v : Value} {l : List Opd} (h : RdO w v l) (g : Below w.heap.size w w') : RdO w' v l := SlR.below h g (opR_below g)
/-- a machine's ten cells -/
structure Mv where
  vs : Value
  vm : Value
  vw : Value
  vc : Value
  vt : Value
  vi : Value
def Mv.cs (v : Mv) (m : Mc) (o : ByteArray) : Array Value := #[v.vs, v.vm, v.vw, v.vc, .int .u32 m.base, v.vt, .int .i64 m.node, v.vi, .int .i64 m.self, .string o]
structure RdM (w : World) (v : Mv) (m : Mc) (o : ByteArray) : Prop where
  stack : Rd .u32 w v.vs m.stack
  mem : Rd .u8 w v.vm m.mem
  words : RdW w v.vw m.words
  codes : Rd .i64 w v.vc m.codes
  tree : RdT w v.vt m.tree
  insts : RdI w v.vi m.insts
  out : strOfNums m.out = o
theorem RdM.below {w w' : World} {v : Mv} {m : Mc} {o : ByteArray} (h : RdM w v m o) (g : Below w.heap.size w w') : RdM w' v m o :=
  ⟨h.stack.below g, h.mem.below g, h.words.below g, h.codes.below g, h.tree.below g, h.insts.below g, h.out⟩

theorem uW : Try.prog.underlying 24 = some (.slice (Try.prog.elem 24)) := by kernel_rfl
theorem eW : Try.prog.elem 24 = 33 := by kernel_rfl
theorem zW (w : World) : (sizeOf (Try.prog.elem 24)).run Try.prog w = .ok 5 w := by rw [eW]; exact Try.sizeOf33 w
theorem wrd_at {w : World} {v : Value} {l : List Wd} (h : RdW w v l) (i : Nat) (h1 : i < l.length) :
    ∃ (b o : Nat) (nm : ByteArray) (vc : Value), (∀ w', (Instr.indexAt 24 v (.int .i64 (i : Int))).run Try.prog w' = .ok (.pointer (some ⟨b, o, none⟩)) w') ∧ w.cell? ⟨b, o, none⟩ = some (.string nm) ∧ w.cell? ⟨b, o + 1, none⟩ = some (.int .i64 l[i].2.1) ∧ w.cell? ⟨b, o + 2, none⟩ = some (.int .i64 l[i].2.2.1) ∧ w.cell? ⟨b, o + 3, none⟩ = some (.int .u32 l[i].2.2.2.1) ∧ w.cell? ⟨b, o + 4, none⟩ = some vc ∧ strOfNums l[i].1 = nm ∧ RdO w vc l[i].2.2.2.2 := by
  obtain ⟨b, o, cs, r, hl, hc, vc, rfl, h2⟩ := slr_idxN h uW zW i h1
  exact ⟨b, o, _, vc, r, hc 0 (by omega), hc 1 (by omega), hc 2 (by omega), hc 3 (by omega), hc 4 (by omega), rfl, h2⟩

theorem uO : Try.prog.underlying 31 = some (.slice (Try.prog.elem 31)) := by kernel_rfl
theorem eO : Try.prog.elem 31 = 49 := by kernel_rfl
theorem zO (w : World) : (sizeOf (Try.prog.elem 31)).run Try.prog w = .ok 2 w := by rw [eO]; exact Try.sizeOf49 w
theorem op_at {w : World} {v : Value} {l : List Opd} (h : RdO w v l) (i : Nat) (h1 : i < l.length) :
    ∃ (b o : Nat), (∀ w', (Instr.indexAt 31 v (.int .i64 (i : Int))).run Try.prog w' = .ok (.pointer (some ⟨b, o, none⟩)) w') ∧ w.cell? ⟨b, o, none⟩ = some (.int .i64 l[i].1) ∧ w.cell? ⟨b, o + 1, none⟩ = some (.int .u32 l[i].2) := by
  obtain ⟨b, o, cs, r, hl, hc, h2⟩ := slr_idxN h uO zO i h1
  have h3 : cs = [.int .i64 l[i].1, .int .u32 l[i].2] := h2
  subst h3
  exact ⟨b, o, r, hc 0 (by omega), hc 1 (by omega)⟩

theorem uI : Try.prog.underlying 28 = some (.slice (Try.prog.elem 28)) := by kernel_rfl
theorem eI : Try.prog.elem 28 = 78 := by kernel_rfl
theorem zI (w : World) : (sizeOf (Try.prog.elem 28)).run Try.prog w = .ok 4 w := by rw [eI]; exact Try.sizeOf78 w
theorem ins_at {w : World} {v : Value} {l : List Iz} (h : RdI w v l) (i : Nat) (h1 : i < l.length) :
    ∃ (b o : Nat) (ar : ByteArray) (vc : Value), (∀ w', (Instr.indexAt 28 v (.int .i64 (i : Int))).run Try.prog w' = .ok (.pointer (some ⟨b, o, none⟩)) w') ∧ w.cell? ⟨b, o, none⟩ = some (.int .i64 l[i].1) ∧ w.cell? ⟨b, o + 1, none⟩ = some (.int .i64 l[i].2.1) ∧ w.cell? ⟨b, o + 2, none⟩ = some (.string ar) ∧ w.cell? ⟨b, o + 3, none⟩ = some vc ∧ strOfNums l[i].2.2.1 = ar ∧ Rd .u32 w vc l[i].2.2.2 := by
  obtain ⟨b, o, cs, r, hl, hc, vc, rfl, h2⟩ := slr_idxN h uI zI i h1
  exact ⟨b, o, _, vc, r, hc 0 (by omega), hc 1 (by omega), hc 2 (by omega), hc 3 (by omega), rfl, h2⟩

theorem uM : Try.prog.underlying 53 = some (.slice (Try.prog.elem 53)) := by kernel_rfl
theorem eM : Try.prog.elem 53 = 56 := by kernel_rfl
theorem zM (w : World) : (sizeOf (Try.prog.elem 53)).run Try.prog w = .ok 2 w := by rw [eM]; exact Try.sizeOf56 w
theorem prm_cell {w : World} {v : Value} {l : List (List Int × Int)} (h : SlR 2 prmR w v l) (i : Nat) (h1 : i < l.length) :
    ∃ (b o : Nat) (nm : ByteArray), (∀ w', (Instr.indexAt 53 v (.int .i64 (i : Int))).run Try.prog w' = .ok (.pointer (some ⟨b, o, none⟩)) w') ∧ w.cell? ⟨b, o, none⟩ = some (.string nm) ∧ w.cell? ⟨b, o + 1, none⟩ = some (.int .i64 l[i].2) ∧ strOfNums l[i].1 = nm := by
  obtain ⟨b, o, cs, r, hl, hc, h2⟩ := slr_idxN h uM zM i h1
  have h3 : cs = [.string (strOfNums l[i].1), .int .i64 l[i].2] := h2
  subst h3
  exact ⟨b, o, _, r, hc 0 (by omega), hc 1 (by omega), rfl⟩

/-
  Machines and words that came in: what they read as, and how much they hold.
-/
set_option maxRecDepth 100000

/-- what is known of instructions, words, instances, machines that came in -/
def gO (y : Opd) : Prop := (Lit.int .i64 y.1).wf = true ∧ 0 ≤ y.2 ∧ y.2 < 4294967296
structure gW (x : Wd) : Prop where
  byt : bytesL x.1
  len : x.1.length ≤ maxLen
  node : (Lit.int .i64 x.2.1).wf = true
  kind : (Lit.int .i64 x.2.2.1).wf = true
  num : 0 ≤ x.2.2.2.1 ∧ x.2.2.2.1 < 4294967296
  ops : ∀ y ∈ x.2.2.2.2, gO y
  siz : x.2.2.2.2.length * 16 ≤ 140737488351232
structure gI (x : Iz) : Prop where
  node : (Lit.int .i64 x.1).wf = true
  par : (Lit.int .i64 x.2.1).wf = true
  byt : bytesL x.2.2.1
  len : x.2.2.1.length ≤ maxLen
  cel : cells x.2.2.2
  siz : x.2.2.2.length * 4 ≤ 140737488351232
structure gM (m : Mc) : Prop where
  stack : cells m.stack
  stackZ : m.stack.length * 4 ≤ 140737488351232
  mem : bytesL m.mem
  memZ : m.mem.length ≤ 140737488351232
  words : ∀ x ∈ m.words, gW x
  wordsZ : m.words.length * 64 ≤ 140737488351232
  codes : ∀ x ∈ m.codes, (Lit.int .i64 x).wf = true
  codesZ : m.codes.length * 8 ≤ 140737488351232
  base : 0 ≤ m.base ∧ m.base < 4294967296
  tree : ∀ x ∈ m.tree, goodN x
  treeZ : m.tree.length * 96 ≤ 140737488351232
  node : (Lit.int .i64 m.node).wf = true
  insts : ∀ x ∈ m.insts, gI x
  instsZ : m.insts.length * 56 ≤ 140737488351232
  self : (Lit.int .i64 m.self).wf = true
  out : bytesL m.out
  outZ : m.out.length ≤ 140737488351232
theorem op_str : Try.prog.underlying 49 = some (.struct (Try.prog.fieldsOf 49)) := by kernel_rfl
theorem opFs : (Try.prog.fieldsOf 49).toList.map (fun f => (f.type, f.offset)) = [(3, 0), (26, 1)] := by kernel_rfl
theorem wrd_str : Try.prog.underlying 33 = some (.struct (Try.prog.fieldsOf 33)) := by kernel_rfl
theorem wrdFs : (Try.prog.fieldsOf 33).toList.map (fun f => (f.type, f.offset)) = [(9, 0), (3, 1), (3, 2), (26, 3), (31, 4)] := by kernel_rfl
theorem ins_str : Try.prog.underlying 78 = some (.struct (Try.prog.fieldsOf 78)) := by kernel_rfl
theorem insFs : (Try.prog.fieldsOf 78).toList.map (fun f => (f.type, f.offset)) = [(3, 0), (3, 1), (9, 2), (22, 3)] := by kernel_rfl
theorem mch_str : Try.prog.underlying 30 = some (.struct (Try.prog.fieldsOf 30)) := by kernel_rfl
theorem mchFs : (Try.prog.fieldsOf 30).toList.map (fun f => (f.type, f.offset)) = [(22, 0), (23, 1), (24, 2), (25, 3), (26, 4), (27, 5), (3, 6), (28, 7), (3, 8), (9, 9)] := by kernel_rfl
theorem bytOp : Try.prog.bytesOf 49 = 16 := by kernel_rfl
theorem bytWd : Try.prog.bytesOf 33 = 64 := by kernel_rfl
theorem bytIz : Try.prog.bytesOf 78 = 56 := by kernel_rfl
theorem bytI64 : Try.prog.bytesOf 3 = 8 := by kernel_rfl

theorem op_trod {H : Type} {enc : TypeId × Value → H} {W : World} (fuel : Nat) (cs : List Value) (y : DataW H × List MemPlace) (h : DataW.trod enc Try.prog W 0 (fun _ => true) true fuel 49 cs = some y) (hw : ∀ n ∈ y.1.weights Try.prog 49, n ≤ reachBytes) :
    ∃ x : Opd, opR W cs x ∧ gO x := by
  obtain ⟨xs, n, _, rfl, hl, hlen, hf⟩ := DataW.trod_struct op_str h
  rw [show Try.prog.cellsOf 49 = 2 by kernel_rfl] at hl
  rw [show (Try.prog.fieldsOf 49).size = 2 by kernel_rfl] at hlen
  match cs, hl with
  | [c0, c1], _ =>
    have g0 := str_field op_str hf opFs hw 0 3 0 rfl (by kernel_rfl) (by omega)
    have g1 := str_field op_str hf opFs hw 1 26 1 rfl (by kernel_rfl) (by omega)
    obtain ⟨a, a1, a2, a3⟩ := DataW.trod_int Try.underlying3 g0.1
    obtain ⟨b, b1, b2, b3⟩ := DataW.trod_int Try.underlying26 g1.1
    simp at a1 b1
    subst a1 b1
    exact ⟨(a, b), rfl, a3, wf8 b3⟩
theorem wrd_trod {H : Type} {enc : TypeId × Value → H} {W : World} (fuel : Nat) (cs : List Value) (y : DataW H × List MemPlace) (h : DataW.trod enc Try.prog W 0 (fun _ => true) true fuel 33 cs = some y) (hw : ∀ n ∈ y.1.weights Try.prog 33, n ≤ reachBytes) :
    ∃ x : Wd, wrdR W cs x ∧ gW x := by
  obtain ⟨xs, n, _, rfl, hl, hlen, hf⟩ := DataW.trod_struct wrd_str h
  rw [show Try.prog.cellsOf 33 = 5 by kernel_rfl] at hl
  rw [show (Try.prog.fieldsOf 33).size = 5 by kernel_rfl] at hlen
  match cs, hl with
  | [c0, c1, c2, c3, c4], _ =>
    have g0 := str_field wrd_str hf wrdFs hw 0 9 0 rfl (by kernel_rfl) (by omega)
    have g1 := str_field wrd_str hf wrdFs hw 1 3 1 rfl (by kernel_rfl) (by omega)
    have g2 := str_field wrd_str hf wrdFs hw 2 3 2 rfl (by kernel_rfl) (by omega)
    have g3 := str_field wrd_str hf wrdFs hw 3 26 3 rfl (by kernel_rfl) (by omega)
    have g4 := str_field wrd_str hf wrdFs hw 4 31 4 rfl (by kernel_rfl) (by omega)
    obtain ⟨k, k1, k2, k3⟩ := DataW.trod_string Try.underlying9 g0.1
    obtain ⟨a, a1, a2, a3⟩ := DataW.trod_int Try.underlying3 g1.1
    obtain ⟨b, b1, b2, b3⟩ := DataW.trod_int Try.underlying3 g2.1
    obtain ⟨c, d1, d2, d3⟩ := DataW.trod_int Try.underlying26 g3.1
    obtain ⟨a4, l4, r4, q, e4, hq, hf4, hz4⟩ := slr_trod (sz := 2) opR gO Try.underlying31 (by kernel_rfl) (by omega) g4.1 g4.2 op_trod
    simp at k1 a1 b1 d1 e4
    subst k1 a1 b1 d1 e4
    rw [bytOp] at hz4
    unfold reachBytes at hz4
    exact ⟨(LB k, a, b, c, q), ⟨_, by simp [nums_LB], hq⟩, ⟨LB_bytes k, by rw [LB_len]; exact k3, a3, b3, wf8 d3, hf4, hz4⟩⟩
theorem ins_trod {H : Type} {enc : TypeId × Value → H} {W : World} (fuel : Nat) (cs : List Value) (y : DataW H × List MemPlace) (h : DataW.trod enc Try.prog W 0 (fun _ => true) true fuel 78 cs = some y) (hw : ∀ n ∈ y.1.weights Try.prog 78, n ≤ reachBytes) :
    ∃ x : Iz, insR W cs x ∧ gI x := by
  obtain ⟨xs, n, _, rfl, hl, hlen, hf⟩ := DataW.trod_struct ins_str h
  rw [show Try.prog.cellsOf 78 = 4 by kernel_rfl] at hl
  rw [show (Try.prog.fieldsOf 78).size = 4 by kernel_rfl] at hlen
  match cs, hl with
  | [c0, c1, c2, c3], _ =>
    have g0 := str_field ins_str hf insFs hw 0 3 0 rfl (by kernel_rfl) (by omega)
    have g1 := str_field ins_str hf insFs hw 1 3 1 rfl (by kernel_rfl) (by omega)
    have g2 := str_field ins_str hf insFs hw 2 9 2 rfl (by kernel_rfl) (by omega)
    have g3 := str_field ins_str hf insFs hw 3 22 3 rfl (by kernel_rfl) (by omega)
    obtain ⟨a, a1, a2, a3⟩ := DataW.trod_int Try.underlying3 g0.1
    obtain ⟨b, b1, b2, b3⟩ := DataW.trod_int Try.underlying3 g1.1
    obtain ⟨k, k1, k2, k3⟩ := DataW.trod_string Try.underlying9 g2.1
    obtain ⟨a4, l4, r4, u, e4, hu, hf4, hz4⟩ := rd_trod Try.underlying22 Try.underlying26 (by kernel_rfl) g3.1 g3.2
    simp at k1 a1 b1 e4
    subst k1 a1 b1 e4
    rw [bytI32] at hz4
    unfold reachBytes at hz4
    exact ⟨(a, b, LB k, u), ⟨_, by simp [nums_LB], hu⟩, ⟨a3, b3, LB_bytes k, by rw [LB_len]; exact k3, fun n hn => wf8 (hf4 n hn), hz4⟩⟩
/-- a machine as a parameter -/
theorem mch_open {H : Type} {enc : TypeId × Value → H} {W : World} {base : Nat} {v : Value} {d : DataW H} {ps : List MemPlace} (hok : Value.okWide Try.prog W .any base 30 v) (h : DataW.Trod enc Try.prog W 0 (fun _ => true) true 30 v d ps) (hw : ∀ n ∈ d.weights Try.prog 30, n ≤ reachBytes) :
    ∃ (mv : Mv) (m : Mc) (o : ByteArray), v = .agg (mv.cs m o) ∧ RdM W mv m o ∧ gM m ∧ o.size ≤ maxLen := by
  obtain ⟨cs0, rfl, _, _⟩ : ∃ cs, v = .agg cs ∧ cs.size = Try.prog.cellsOf 30 ∧ Row.okWide Try.prog W .any base 30 cs := by
    simpa [Value.okWide, mch_str] using hok
  obtain ⟨fuel, hf0⟩ := h
  have hf2 : DataW.trod enc Try.prog W 0 (fun _ => true) true fuel 30 cs0.toList = some (d, ps) := hf0
  obtain ⟨xs, n, _, hd, hl, hlen, hf⟩ := DataW.trod_struct mch_str hf2
  obtain ⟨rfl, _⟩ := Prod.mk.inj hd
  rw [show Try.prog.cellsOf 30 = 10 by kernel_rfl] at hl
  rw [show (Try.prog.fieldsOf 30).size = 10 by kernel_rfl] at hlen
  obtain ⟨cs⟩ := cs0
  match cs, hl with
  | [c0, c1, c2, c3, c4, c5, c6, c7, c8, c9], _ =>
    have g0 := str_field mch_str hf mchFs hw 0 22 0 rfl (by kernel_rfl) (by omega)
    have g1 := str_field mch_str hf mchFs hw 1 23 1 rfl (by kernel_rfl) (by omega)
    have g2 := str_field mch_str hf mchFs hw 2 24 2 rfl (by kernel_rfl) (by omega)
    have g3 := str_field mch_str hf mchFs hw 3 25 3 rfl (by kernel_rfl) (by omega)
    have g4 := str_field mch_str hf mchFs hw 4 26 4 rfl (by kernel_rfl) (by omega)
    have g5 := str_field mch_str hf mchFs hw 5 27 5 rfl (by kernel_rfl) (by omega)
    have g6 := str_field mch_str hf mchFs hw 6 3 6 rfl (by kernel_rfl) (by omega)
    have g7 := str_field mch_str hf mchFs hw 7 28 7 rfl (by kernel_rfl) (by omega)
    have g8 := str_field mch_str hf mchFs hw 8 3 8 rfl (by kernel_rfl) (by omega)
    have g9 := str_field mch_str hf mchFs hw 9 9 9 rfl (by kernel_rfl) (by omega)
    obtain ⟨a0, l0, r0, x0, e0, h0, w0, z0⟩ := rd_trod Try.underlying22 Try.underlying26 (by kernel_rfl) g0.1 g0.2
    obtain ⟨a1, l1, r1, x1, e1, h1, w1, z1⟩ := rd_trod Try.underlying23 Try.underlying5 (by kernel_rfl) g1.1 g1.2
    obtain ⟨a2, l2, r2, x2, e2, h2, w2, z2⟩ := slr_trod (sz := 5) wrdR gW Try.underlying24 (by kernel_rfl) (by omega) g2.1 g2.2 wrd_trod
    obtain ⟨a3, l3, r3, x3, e3, h3, w3, z3⟩ := rd_trod Try.underlying25 Try.underlying3 (by kernel_rfl) g3.1 g3.2
    obtain ⟨x4, e4, _, w4⟩ := DataW.trod_int Try.underlying26 g4.1
    obtain ⟨a5, l5, r5, x5, e5, h5, w5, z5⟩ := slr_trod (sz := 5) nodR goodN Try.underlying27 (by kernel_rfl) (by omega) g5.1 g5.2 nod_trod
    obtain ⟨x6, e6, _, w6⟩ := DataW.trod_int Try.underlying3 g6.1
    obtain ⟨a7, l7, r7, x7, e7, h7, w7, z7⟩ := slr_trod (sz := 4) insR gI Try.underlying28 (by kernel_rfl) (by omega) g7.1 g7.2 ins_trod
    obtain ⟨x8, e8, _, w8⟩ := DataW.trod_int Try.underlying3 g8.1
    obtain ⟨x9, e9, k9, w9⟩ := DataW.trod_string Try.underlying9 g9.1
    have z9 := g9.2
    rw [k9] at z9
    have z9' := z9 x9.data.toList.length (by simp [DataW.weights])
    simp at e0 e1 e2 e3 e4 e5 e6 e7 e8 e9
    subst e0 e1 e2 e3 e4 e5 e6 e7 e8 e9
    rw [bytI32] at z0
    rw [bytI8] at z1
    rw [bytWd] at z2
    rw [bytI64] at z3
    rw [bytNo] at z5
    rw [bytIz] at z7
    unfold reachBytes at z0 z1 z2 z3 z5 z7 z9'
    have s9 : x9.data.toList.length = x9.size := by simp
    exact ⟨⟨_, _, _, _, _, _⟩, ⟨x0, x1, x2, x3, x4, x5, x6, x7, x8, LB x9⟩, x9, rfl, ⟨h0, h1, h2, h3, h5, h7, nums_LB x9⟩, ⟨fun n hn => wf8 (w0 n hn), z0, wf_bytes w1, by simp only; omega, w2, z2, w3, z3, wf8 w4, w5, z5, w6, w7, z7, w8, LB_bytes x9, by simp only; rw [LB_len]; omega⟩, w9⟩
/-- a word as a parameter -/
theorem wrd_open {H : Type} {enc : TypeId × Value → H} {W : World} {base : Nat} {v : Value} {d : DataW H} {ps : List MemPlace} (hok : Value.okWide Try.prog W .any base 33 v) (h : DataW.Trod enc Try.prog W 0 (fun _ => true) true 33 v d ps) (hw : ∀ n ∈ d.weights Try.prog 33, n ≤ reachBytes) :
    ∃ (nm : ByteArray) (vc : Value) (x : Wd), v = .agg #[.string nm, .int .i64 x.2.1, .int .i64 x.2.2.1, .int .u32 x.2.2.2.1, vc] ∧ strOfNums x.1 = nm ∧ RdO W vc x.2.2.2.2 ∧ gW x := by
  obtain ⟨cs0, rfl, _, _⟩ : ∃ cs, v = .agg cs ∧ cs.size = Try.prog.cellsOf 33 ∧ Row.okWide Try.prog W .any base 33 cs := by
    simpa [Value.okWide, wrd_str] using hok
  obtain ⟨fuel, hf0⟩ := h
  obtain ⟨x, ⟨vc, h1, h2⟩, h3⟩ := wrd_trod fuel cs0.toList (d, ps) hf0 hw
  obtain ⟨cs⟩ := cs0
  simp only at h1
  subst h1
  exact ⟨_, vc, x, rfl, rfl, h2, h3⟩

/-
  Instructions that came in.
-/
theorem ops_open {H : Type} {enc : TypeId × Value → H} {W : World} {a : Option Addr} {len cap : Nat} {d : DataW H} {ps : List MemPlace} (h : DataW.Trod enc Try.prog W 0 (fun _ => true) true 31 (.slice a len cap) d ps) (hw : ∀ n ∈ d.weights Try.prog 31, n ≤ reachBytes) :
    ∃ t : List Opd, RdO W (.slice a len cap) t ∧ (∀ x ∈ t, gO x) ∧ t.length * 16 ≤ 140737488351232 := by
  obtain ⟨fuel, hf⟩ := h
  obtain ⟨a', l', c', xs, e, h1, h2, h3⟩ := slr_trod (y := (d, ps)) (sz := 2) opR gO Try.underlying31 (by kernel_rfl) (by omega) (show DataW.trod enc Try.prog W 0 (fun _ => true) true fuel 31 [.slice a len cap] = some (d, ps) from hf) hw op_trod
  simp at e
  obtain ⟨rfl, rfl, rfl⟩ := e
  rw [bytOp] at h3
  unfold reachBytes at h3
  exact ⟨xs, h1, h2, h3⟩

/-
  What is known of machines that came in, and of what is made of them.
-/
theorem nil_gM : gM nilM := by
  constructor <;> first | (intro x hx; simp [nilM] at hx) | (simp [nilM]; done) | (simp only [nilM]; decide)
theorem root_goodN : goodN ([], [], -1, [], []) := by
  refine ⟨⟨fun c hc => by simp at hc, fun p hp => by simp at hp⟩, ⟨by simp, fun p hp => by simp at hp⟩, ⟨by simp, by simp, by simp, fun p hp => by simp at hp⟩, fun c hc => by simp at hc, fun c hc => by simp at hc, by decide⟩
theorem prm_good : prmL.all (fun p => decide (0 ≤ p.2 ∧ p.2 < 4294967296) && (decide (p.1.length ≤ 31) && p.1.all (fun c => decide (0 ≤ c ∧ c < 256)))) = true := by decide +kernel
theorem new_gM : gM newM := by
  have hw : ∀ x ∈ newM.words, gW x := by
    intro x hx
    obtain ⟨p, hp, rfl⟩ := List.mem_map.1 (show x ∈ prmL.map prmW from hx)
    have h := List.all_eq_true.1 prm_good p hp
    simp only [Bool.and_eq_true, decide_eq_true_eq, List.all_eq_true] at h
    exact ⟨fun c hc => h.2.2 c hc, by unfold maxLen; have := h.2.1; show p.1.length ≤ _; omega, by show (Lit.int .i64 (-1)).wf = true; decide, by show (Lit.int .i64 1).wf = true; decide, h.1, fun y hy => by simp [prmW] at hy, by simp [prmW]⟩
  refine ⟨fun c hc => by simp [newM] at hc, by simp [newM], fun c hc => by simp [newM] at hc, by simp [newM], hw, ?_, fun c hc => by simp [newM] at hc, by simp [newM], by simp [newM], fun x hx => ?_, by simp [newM], by show (Lit.int .i64 (-1)).wf = true; decide, fun x hx => by simp [newM] at hx, by simp [newM], by show (Lit.int .i64 (-1)).wf = true; decide, fun c hc => by simp [newM] at hc, by simp [newM]⟩
  · show (prmL.map prmW).length * 64 ≤ _
    rw [List.length_map, prm_len]
    omega
  · have : x = ([], [], -1, [], []) := by simpa [newM] using hx
    subst this
    exact root_goodN
theorem dfn_gM {m : Mc} {x : Wd} (h : gM m) (hx : gW x) : gM (dfnF m x).1 := by
  unfold dfnF
  split
  · exact nil_gM
  · split
    · exact nil_gM
    · rename_i c1 c2
      refine ⟨h.stack, h.stackZ, h.mem, h.memZ, fun y hy => ?_, ?_, h.codes, h.codesZ, h.base, h.tree, h.treeZ, h.node, h.insts, h.instsZ, h.self, h.out, h.outZ⟩
      · rcases List.mem_append.1 hy with hy | hy
        · exact h.words y hy
        · rw [List.mem_singleton] at hy
          subst hy
          exact hx
      · show (m.words ++ [x]).length * 64 ≤ _
        rw [List.length_append, List.length_singleton]
        omega
theorem bnd_gM {m : Mc} {code xt : Int} (h : gM m) (hx : (Lit.int .i64 xt).wf = true) : gM (bndF m code xt).1 := by
  unfold bndF
  split
  · exact nil_gM
  · split
    · exact nil_gM
    · split
      · exact nil_gM
      · rename_i c1 c2 c3
        refine ⟨h.stack, h.stackZ, h.mem, h.memZ, h.words, h.wordsZ, fun y hy => ?_, ?_, h.base, h.tree, h.treeZ, h.node, h.insts, h.instsZ, h.self, h.out, h.outZ⟩
        · have hy' : y ∈ bdcF m.codes (code - 2048).toNat xt := hy
          unfold bdcF at hy'
          rcases List.mem_or_eq_of_mem_set hy' with hy' | rfl
          · rcases List.mem_append.1 hy' with hy' | hy'
            · exact h.codes y hy'
            · obtain ⟨_, rfl⟩ := List.mem_replicate.1 hy'
              decide
          · exact hx
        · show (bdcF m.codes (code - 2048).toNat xt).length * 8 ≤ _
          rw [bdc_len]
          have hh : frmM m = true := by simpa using c1
          unfold frmM cdsF at hh
          simp only [Bool.and_eq_true, decide_eq_true_eq] at hh
          omega

/-
  What is plain about looking for words, for the document's answer and for the package alike.
-/
/-- a place that was found, as a number -/
def fnI (r : Option Nat) : Int := match r with
  | some k => (k : Nat)
  | none => 0
theorem lst_take {α : Type} (p : α → Bool) (l : List α) (k : Nat) (h : k < l.length) (hp : p l[k] = false) : lstF p (l.take (k + 1)) = lstF p (l.take k) := by
  rw [List.take_succ_eq_append_getElem h, lst_snoc, if_neg (by simp [hp])]
theorem lst_hit {α : Type} (p : α → Bool) (l : List α) (k : Nat) (h : k < l.length) (hp : p l[k] = true) : lstF p (l.take (k + 1)) = some k := by
  rw [List.take_succ_eq_append_getElem h, lst_snoc, if_pos hp, List.length_take]
  congr 1
  omega
theorem L_nil {s : ByteArray} (h : L s = []) : s = ⟨#[]⟩ := by
  have h1 := nums_LB s
  rw [show LB s = [] from h] at h1
  rw [← h1]
  decide +kernel

theorem emp_no {s : ByteArray} (h : ¬ s = ⟨#[]⟩) : s.toList.isEmpty = false := by
  rw [Bool.eq_false_iff]
  intro g
  rw [List.isEmpty_iff, ByteArray.toList_eq] at g
  apply h
  obtain ⟨⟨l⟩⟩ := s
  simp at g
  subst g
  rfl

/-- a word that was found, as a number -/
def cdI (r : Option Int) : Int := match r with
  | some k => k
  | none => 0
theorem uJ : Try.prog.underlying 25 = some (.slice (Try.prog.elem 25)) := by kernel_rfl
theorem eJ : Try.prog.elem 25 = 3 := by kernel_rfl
theorem zJ (w : World) : (sizeOf (Try.prog.elem 25)).run Try.prog w = .ok 1 w := by rw [eJ]; exact Try.sizeOf3 w
theorem fix_take {α : Type} (p : α → Bool) (l : List α) (k : Nat) (h : k < l.length) (ha : (l.take k).findIdx? p = none) (hp : p l[k] = false) : (l.take (k + 1)).findIdx? p = none := by
  rw [List.findIdx?_eq_none_iff] at ha ⊢
  intro x hx
  rw [List.take_succ_eq_append_getElem h] at hx
  rcases List.mem_append.1 hx with hx | hx
  · exact ha x hx
  · simp at hx
    rw [hx]
    exact hp
theorem fix_hit {α : Type} (p : α → Bool) (l : List α) (k : Nat) (h : k < l.length) (ha : (l.take k).findIdx? p = none) (hp : p l[k] = true) : l.findIdx? p = some k := by
  rw [List.findIdx?_eq_some_iff_getElem]
  refine ⟨h, hp, fun j hj => ?_⟩
  rw [List.findIdx?_eq_none_iff] at ha
  have := ha l[j] (by rw [List.mem_take_iff_getElem]; exact ⟨j, by omega, rfl⟩)
  simp [this]

/-
  Named, EncodeInt, EncodeText of the document's answer for properties.
-/
theorem run_at {w : World} (s : ByteArray) (k : Nat) (h : k < s.size) (hm : s.size ≤ maxLen) : (Instr.index 9 (.string s) (.int .i64 (k : Int))).run Try.prog w = .ok (.int .u8 (s[k].toNat : Int)) w := by
  unfold maxLen at hm
  rw [run_index_string (h := Try.underlying9)]
  simp [h]

theorem run_bad (k : Nat) (hk : k < 6) (w : World) : (Instr.index 9 (.string ⟨#[47, 92, 58, 91, 93, 64]⟩) (.int .i64 (k : Int))).run Try.prog w = .ok (.int .u8 (([47, 92, 58, 91, 93, 64] : List Int).getD k 0)) w := by
  rw [run_at ⟨#[47, 92, 58, 91, 93, 64]⟩ k (show k < 6 from hk) (by decide)]
  have : k = 0 ∨ k = 1 ∨ k = 2 ∨ k = 3 ∨ k = 4 ∨ k = 5 := by omega
  rcases this with rfl | rfl | rfl | rfl | rfl | rfl <;> rfl

/-- one byte more on a row of bytes of the call's own -/
def Own8 (base : Nat) (w : World) (v : Value) (xs : List Int) : Prop := w.ownsRow base 5 1 v xs.length (xs.map (Value.int .u8))

theorem enc_at (n : Int) (h0 : 0 ≤ n) (k : Nat) (hk : k ≤ 3) : (beB 4 n).take (3 - k + 1) = (beB 4 n).take (3 - k) ++ [n / 2 ^ (8 * k) % 256] := by
  have e : beB 4 n = [n / 256 / 256 / 256 % 256, n / 256 / 256 % 256, n / 256 % 256, n % 256] := by simp [beB]
  rw [e]
  have : k = 0 ∨ k = 1 ∨ k = 2 ∨ k = 3 := by omega
  rcases this with rfl | rfl | rfl | rfl
  all_goals simp
  all_goals omega

/-
  Fetch and Text of the document's answer for a memory of bytes.
-/
/-- a byte of the memory: its address' rule, its cell, its bounds -/
theorem mem_at {w : World} {v : Value} {xs : List Int} (h : Rd .u8 w v xs) (hb : bytesL xs) (i : Int) (h0 : 0 ≤ i) (h1 : i < xs.length) :
    ∃ (ad : Addr) (b : Int), (∀ w', (Instr.indexAt 23 v (.int .i64 i)).run Try.prog w' = .ok (.pointer (some ad)) w') ∧ w.cell? ad = some (.int .u8 b) ∧ 0 ≤ b ∧ b < 256 ∧ xs.getD i.toNat 0 = b := by
  obtain ⟨ad, h2, h3⟩ := rd_idx h uB zB i h0 h1
  have hm : xs.getD i.toNat 0 ∈ xs := by
    rw [List.getD_eq_getElem?_getD, List.getElem?_eq_getElem (by omega)]
    simp
  exact ⟨ad, _, h2, h3, (hb _ hm).1, (hb _ hm).2, rfl⟩
theorem take_one (xs : List Int) (p : Nat) (h : p < xs.length) : (xs.drop p).take 1 = [xs.getD p 0] := by
  rw [List.drop_eq_getElem_cons h, List.getD_eq_getElem?_getD, List.getElem?_eq_getElem h]; rfl
theorem take_more (xs : List Int) (p n : Nat) (h : p < xs.length) : (xs.drop p).take (n + 1) = xs.getD p 0 :: (xs.drop (p + 1)).take n := by
  rw [List.drop_eq_getElem_cons h, List.getD_eq_getElem?_getD, List.getElem?_eq_getElem h]; rfl

/-
  EncodeText, DecodeInt, DecodeText, Join, Ints, Texts of the document's answer for properties.
-/
/-- append of one cell onto a row of the call's own -/
theorem wpList_append_one {P : Program} {w : World} {ops : Array Oper} {rest : List Oper} {o : Oper} {a : Act} {Q : Exit → Act → World → Prop} (hgd : o.guard = none) (s x : Operand) (t : TypeId)
    (ho : o.op = .call { callee := .builtin .append, args := #[s, x], argTypes := #[t, t] })
    (base : Nat) (e : TypeId) (i : TypeInfo) (z : Value) (bytes : Nat) (ht : P.underlying t = some (.slice e)) (hi : P.info? e = some i) (hz : i.zero = some z) (hsize : i.size = 1) (hby : i.bytes = bytes) (hz1 : z.cells = #[z])
    (v : Value) (cs : List Value) (hs : a.eval s = v) (hown : w.ownsRow base e 1 v cs.length cs)
    (b : Nat) (c : Value) (hx : a.eval x = .slice (some ⟨b, 0, none⟩) 1 1) (hc : w.cell? ⟨b, 0, none⟩ = some c) (hc1 : c.oneCell' = true)
    (h63 : cs.length + 1 ≤ maxLen) (hbytes : (cs.length + 1) * bytes ≤ 140737488355328) (hbase : base ≤ w.heap.size)
    (h : ∀ v' w', w'.ownsRow base e 1 v' (cs ++ [c]).length (cs ++ [c]) → w.grownBy w' v.ownBlock → wpList P ops Q rest (a.put o.dst v') w') : wpList P ops Q (o :: rest) a w := by
  refine wpList_plain hgd fun _ hK => ?_
  refine wp_append_own w s x t ho base e i z 1 bytes ht hi hz hsize hby (by rw [hz1]; rfl) (by decide) v cs.length _ hs hown ⟨b, 0, none⟩ 1 1 [c] hx (by simp) ?_ ?_ (by simpa using h63) (by simpa using hbytes) hbase ?_
  · intro j u hj
    have : j = 0 := by
      rcases Nat.eq_zero_or_pos j with h | h
      · exact h
      · rw [List.getElem?_eq_none (by simp; omega)] at hj; cases hj
    subst this
    simp at hj
    subst hj
    simpa [Addr.add] using hc
  · intro u hu
    simp at hu
    subst hu
    exact hc1
  · intro v' w' h2 h3 _
    exact hK _ _ (h v' w' (by simpa using h2) h3)

theorem enT_zero (l : List Int) (k : Nat) (h : k < l.length) (hz : l[k] = 0) : enTF l = ([], 15) := by
  unfold enTF
  rw [if_pos]
  rw [Bool.eq_false_iff]
  intro hall
  rw [List.all_eq_true] at hall
  have := hall l[k] (List.getElem_mem h)
  simp [hz] at this
theorem enT_long (l : List Int) (h : l.all (fun c => decide (¬ c = 0)) = true) (hl : 256 ≤ l.length) : enTF l = ([], 3) := by
  unfold enTF
  rw [h, if_neg (by decide), if_pos hl]
theorem enT_ok (l : List Int) (h : l.all (fun c => decide (¬ c = 0)) = true) (hl : ¬ 256 ≤ l.length) : enTF l = (l ++ [0], 0) := by
  unfold enTF
  rw [h, if_neg (by decide), if_neg hl]

theorem deT_hit (l : List Int) (i : Nat) (h : i < l.length) (hz : l[i] = 0) (inv : spl 0 [] l = spl 0 (l.take i) (l.drop i)) : deTF l = (l.take i, l.drop (i + 1), 0) := by
  have hl := spl_len 0 (l.drop (i + 1)) []
  unfold deTF
  rw [inv, List.drop_eq_getElem_cons h, spl, if_pos hz]
  cases hq : spl 0 [] (l.drop (i + 1)) with
  | nil => rw [hq] at hl; simp at hl
  | cons q r =>
    simp
    omega
theorem deT_miss (l : List Int) (inv : spl 0 [] l = spl 0 l []) : deTF l = ([], [], 2) := by
  unfold deTF
  rw [inv]
  rfl
theorem spl_step (l : List Int) (i : Nat) (h : i < l.length) (hz : ¬ l[i] = 0) (inv : spl 0 [] l = spl 0 (l.take i) (l.drop i)) : spl 0 [] l = spl 0 (l.take (i + 1)) (l.drop (i + 1)) := by
  rw [inv, List.drop_eq_getElem_cons h, spl, if_neg hz, List.take_succ_eq_append_getElem h]

/-
  Lists of texts compared; Join, Ints, Texts of the document's answer for properties.
-/
theorem sameS_take (xs ys : List ByteArray) (k : Nat) (h1 : k < xs.length) (h2 : k < ys.length) (h : xs.take k = ys.take k) (e : xs[k] = ys[k]) : xs.take (k + 1) = ys.take (k + 1) := by
  rw [List.take_succ_eq_append_getElem h1, List.take_succ_eq_append_getElem h2, h, e]

theorem joi_step (ps : List (List Int)) (k : Nat) (h : k < ps.length) : (ps.take (k + 1)).flatten = (ps.take k).flatten ++ ps[k] := by
  rw [List.take_succ_eq_append_getElem h, List.flatten_append, List.flatten_cons, List.flatten_nil, List.append_nil]
theorem joi_over (ps : List (List Int)) (k : Nat) (h : k < ps.length) (hl : 256 < (ps.take k).flatten.length + ps[k].length) : joiF ps = ([], 3) := by
  unfold joiF
  rw [if_pos]
  have : ps.flatten = (ps.take (k + 1)).flatten ++ (ps.drop (k + 1)).flatten := by rw [← List.flatten_append, List.take_append_drop]
  rw [this, joi_step ps k h]
  simp only [List.length_append]
  omega
theorem joi_all (ps : List (List Int)) (hl : ps.flatten.length ≤ 256) : joiF ps = (ps.flatten, 0) := by
  unfold joiF
  rw [if_neg (by omega)]

/-
  Ints and Texts of the document's answer for properties.
-/
theorem int_step (l : List Int) (h : 4 ≤ l.length) : intL l = beV (l.take 4) :: intL (l.drop 4) := by
  match l, h with
  | a :: b :: c :: d :: r, _ => simp [intL]
theorem int_none (l : List Int) (h : l.length < 4) : intL l = [] := by
  match l, h with
  | [], _ => rfl
  | [_], _ => rfl
  | [_, _], _ => rfl
  | [_, _, _], _ => rfl
theorem beV_u32 (l : List Int) (h : l.length = 4) (hb : bytesL l) : 0 ≤ beV l ∧ beV l < 4294967296 := by
  match l, h with
  | [a, b, c, d], _ =>
    have h1 := hb a (by simp)
    have h2 := hb b (by simp)
    have h3 := hb c (by simp)
    have h4 := hb d (by simp)
    simp [beV]
    omega

theorem spl_tex : ∀ (l cur : List Int),
    (spl 0 cur l = [cur ++ l] ∧ texL cur l = if cur ++ l = [] then some [] else none) ∨
    ∃ a b q r, l = a ++ 0 :: b ∧ spl 0 cur l = (cur ++ a) :: q :: r ∧ texL cur l = (texL [] b).map ((cur ++ a) :: ·)
  | [], cur => Or.inl ⟨by simp [spl], by simp [texL]⟩
  | c :: l, cur => by
    by_cases hc : c = 0
    · subst hc
      have hl := spl_len 0 l []
      cases hq : spl 0 [] l with
      | nil => rw [hq] at hl; simp at hl
      | cons q r => exact Or.inr ⟨[], l, q, r, rfl, by rw [spl, if_pos rfl, hq, List.append_nil], by rw [texL, if_pos rfl, List.append_nil]⟩
    · rcases spl_tex l (cur ++ [c]) with ⟨h1, h2⟩ | ⟨a, b, q, r, h1, h2, h3⟩
      · refine Or.inl ⟨?_, ?_⟩
        · rw [spl, if_neg hc, h1]; simp
        · rw [texL, if_neg hc, h2]; simp
      · refine Or.inr ⟨c :: a, b, q, r, by rw [h1]; rfl, ?_, ?_⟩
        · rw [spl, if_neg hc, h2]; simp
        · rw [texL, if_neg hc, h3]; simp
/-- taking the first text off, and what is read of all -/
theorem deT_tex (l : List Int) (h : l ≠ []) : (deTF l = ([], [], 2) ∧ texL [] l = none) ∨ ∃ p D, deTF l = (p, D, 0) ∧ texL [] l = (texL [] D).map (p :: ·) ∧ l = p ++ 0 :: D := by
  rcases spl_tex l [] with ⟨h1, h2⟩ | ⟨a, b, q, r, h1, h2, h3⟩
  · refine Or.inl ⟨?_, ?_⟩
    · unfold deTF; rw [h1]
    · rw [h2, List.nil_append, if_neg h]
  · refine Or.inr ⟨a, b, ?_, by simpa using h3, h1⟩
    unfold deTF
    rw [h2, h1]
    simp
theorem bytes_of_app {a b : List Int} {c : Int} (h : bytesL (a ++ c :: b)) : bytesL a ∧ bytesL b :=
  ⟨fun x hx => h x (by simp [hx]), fun x hx => h x (by simp [hx])⟩

/-
  The library's functions that package prop leans on, as plain functions of lists of numbers: IndexByte, Clone, Cut at a comma.
-/
/-- where c stands first: -1, or the place -/
def AtB (l : List Int) (c i : Int) : Prop := (i = -1 ∧ ∀ x ∈ l, ¬ x = c) ∨ ∃ k : Nat, i = k ∧ k < l.length ∧ l = l.take k ++ c :: l.drop (k + 1) ∧ ∀ x ∈ l.take k, ¬ x = c
theorem atB_index (u : UInt8) : ∀ l : List UInt8, AtB (l.map fun c => (c.toNat : Int)) u.toNat (Lib.indexByte l u)
  | [] => Or.inl ⟨rfl, fun x hx => by simp at hx⟩
  | b :: l => by
    unfold Lib.indexByte
    by_cases hb : b = u
    · subst hb
      simp only [beq_self_eq_true, if_true]
      exact Or.inr ⟨0, rfl, by simp, by simp, fun x hx => by simp at hx⟩
    · have hne : (b == u) = false := by simpa using hb
      have hni : ¬ (b.toNat : Int) = u.toNat := by
        intro h
        exact hb (UInt8.toNat_inj.1 (by omega))
      rw [hne]
      simp only [Bool.false_eq_true, if_false]
      rcases atB_index u l with ⟨h1, h2⟩ | ⟨k, h1, h2, h3, h4⟩
      · rw [h1]
        refine Or.inl ⟨rfl, fun x hx => ?_⟩
        simp only [List.map_cons, List.mem_cons] at hx
        rcases hx with rfl | hx
        · exact hni
        · exact h2 x hx
      · rw [h1]
        have : ((k : Int) == -1) = false := by rw [beq_eq_false_iff_ne]; omega
        rw [this]
        simp only [Bool.false_eq_true, if_false]
        refine Or.inr ⟨k + 1, by simp, by simp only [List.map_cons, List.length_cons]; omega, ?_, fun x hx => ?_⟩
        · simp only [List.map_cons, List.take_succ_cons, List.drop_succ_cons, List.cons_append]
          rw [← h3]
        · simp only [List.map_cons, List.take_succ_cons, List.mem_cons] at hx
          rcases hx with rfl | hx
          · exact hni
          · exact h4 x hx
theorem byte_of {c : Int} (h0 : 0 ≤ c) (h1 : c < 256) : ((c.toNat.toUInt8).toNat : Int) = c := by
  rw [UInt8.toNat_ofNat']
  omega
theorem bytes_map {xs : List Int} (hB : bytesL xs) : (Lib.bytesOf xs).map (fun c => (c.toNat : Int)) = xs := by
  unfold Lib.bytesOf
  rw [List.map_map]
  conv => rhs; rw [← List.map_id xs]
  apply List.map_congr_left
  intro x hx
  have := hB x hx
  simp only [Function.comp, id]
  exact byte_of this.1 this.2

set_option maxHeartbeats 1000000 in
set_option maxRecDepth 100000 in
theorem w_slib (s : ByteArray) (c : Int) (w : World) (h0 : 0 ≤ c) (h1 : c < 256) :
    Calls Try.prog 65 #[.string s, .int .u8 c] w fun e w' => ∃ i, e = .returned (.int .i64 i) ∧ AtB (L s) c i ∧ w' = w := by
  go_enter Try.func65, Try.ntmps65
  go_wp2
  rw [run_callFunc_extern Try.func69 (by kernel_rfl) (by kernel_rfl) (by kernel_rfl) (e := Extern.BytealgIndexByte.indexByte) (by kernel_rfl), Lib.run_indexByteString]
  simp only [Result.andThen]
  rw [Oper.upon_value]
  go_wp2
  go_ret
  refine ⟨_, rfl, ?_, rfl⟩
  have := atB_index c.toNat.toUInt8 s.data.toList
  rw [byte_of h0 h1] at this
  exact this

set_option maxHeartbeats 1000000 in
set_option maxRecDepth 100000 in
theorem w_sib (s : ByteArray) (c : Int) (w : World) (h0 : 0 ≤ c) (h1 : c < 256) :
    Calls Try.prog 63 #[.string s, .int .u8 c] w fun e w' => ∃ i, e = .returned (.int .i64 i) ∧ AtB (L s) c i ∧ w' = w := by
  go_enter Try.func63, Try.ntmps63
  go_wp2_with (go_at_call 65; refine (w_slib s c _ h0 h1).mono ?_; rintro e w1 ⟨i, rfl, hi, rfl⟩)
  go_ret
  exact ⟨i, rfl, hi, rfl⟩

theorem bib_run (v : Value) (xs : List Int) (c : Int) (w : World) (h : Rd .u8 w v xs) (hB : bytesL xs) (h0 : 0 ≤ c) (h1 : c < 256) : ∃ i, AtB xs c i ∧ (Extern.BytealgIndexByte.indexByte #[v, .int .u8 c]).run Try.prog w = .ok (.int .i64 i) w := by
  rcases h with ⟨ao, cap, rfl, hn, rfl⟩ | ⟨b, off, cap, rfl, hp, hc1, hc2, hc⟩
  · refine ⟨-1, Or.inl ⟨rfl, fun x hx => by simp at hx⟩, ?_⟩
    cases ao with
    | none => exact Lib.run_indexByteNil (P := Try.prog) (w := w) 0 cap c
    | some a => exact Lib.run_indexByteString (P := Try.prog) .empty c w
  · refine ⟨Lib.indexByte (Lib.bytesOf xs) c.toNat.toUInt8, ?_, Lib.run_indexByteSlice w b off xs.length cap xs rfl hc c⟩
    have := atB_index c.toNat.toUInt8 (Lib.bytesOf xs)
    rw [byte_of h0 h1, bytes_map hB] at this
    exact this

set_option maxHeartbeats 1000000 in
set_option maxRecDepth 100000 in
theorem w_bcl (v : Value) (xs : List Int) (w : World) (h : Rd .u8 w v xs) (hz : xs.length ≤ 140737488355328) :
    Calls Try.prog 31 #[v] w fun e w' => ∃ v', e = .returned v' ∧ Rd .u8 w' v' xs ∧ Below w.heap.size w w' := by
  obtain ⟨i0, hi, hz0, hz1, hz2⟩ := info_parts infoU8
  obtain ⟨ao, cap, rfl, hc, hn, hx⟩ := rd_form h
  cases ao with
  | none =>
    have hc0 := hn rfl
    have hl : xs = [] := List.eq_nil_of_length_eq_zero (by omega)
    subst hl
    subst hc0
    show Calls _ _ #[.slice none 0 0] _ _
    have q := Lib.run_eql_slice_nil (P := Try.prog) w 23 5 none 0 0 0 0 Try.underlying23
    go_enter Try.func31, Try.ntmps31
    go_wp2_with fail
    go_ret
    exact ⟨_, rfl, Rd_nil, Below.refl _ _⟩
  | some a =>
    have q := Lib.run_eql_slice_nil (P := Try.prog) w 23 5 (some a) xs.length cap 0 0 Try.underlying23
    have ha := h.below (box_below w (.cells #[] 5))
    go_enter Try.func31, Try.ntmps31
    go_wp2_with (at_builtin; refine wpList_append_rd (k := .u8) rfl _ _ 23 rfl w.heap.size 5 i0 1 Try.underlying23 hi hz0 hz1 hz2 _ [] rfl (World.ownsRow_made w #[] 0 (Nat.le_refl _) (Nat.zero_le _) rfl) _ xs rfl ha (by unfold maxLen; simp; omega) (by simp; omega) (by simp) ?_; intro v5 w5 ho5 hg5)
    go_ret
    refine ⟨v5, rfl, (Rd_own (by simpa using ho5)).1, below_grown (box_below w _) hg5 (fun k hk => by simp [Value.ownBlock, Act.eval] at hk; omega)⟩

set_option maxHeartbeats 1000000 in
set_option maxRecDepth 100000 in
theorem w_slix (s : ByteArray) (w : World) :
    Calls Try.prog 64 #[.string s, .string ⟨#[44]⟩] w fun e w' => ∃ i, e = .returned (.int .i64 i) ∧ AtB (L s) 44 i ∧ w' = w := by
  go_enter Try.func64, Try.ntmps64
  go_wp2_with (go_at_call 65; refine (w_slib s 44 _ (by decide) (by decide)).mono ?_; rintro e w1 ⟨i, rfl, hi, rfl⟩)
  · have h : ([44] == s.toList) = true := by assumption
    go_ret
    have e : s.data.toList = [44] := by rw [← ByteArray.toList_eq]; exact (beq_iff_eq.1 h).symm
    refine ⟨_, rfl, Or.inr ⟨0, rfl, ?_, ?_, fun x hx => by simp at hx⟩, rfl⟩
    · simp [L, e]
    · simp [L, e]
  · go_ret
    exact ⟨i, rfl, hi, rfl⟩

/-- what Cut at a comma answers -/
def CutC (l : List Int) (A B : ByteArray) (f : Bool) : Prop := (f = false ∧ L A = l ∧ ∀ x ∈ l, ¬ x = 44) ∨ (f = true ∧ l = L A ++ 44 :: L B ∧ ∀ x ∈ L A, ¬ x = 44)

/-
  No variable is listed for these statements: what the tables hold is not asked.
-/
def Tab (w : World) : Prop := True
theorem Tab.below {w w' : World} (h : Tab w) (g : Below w.heap.size w w') : Tab w' := trivial
theorem L_getD (s : ByteArray) (k : Nat) (h : k < s.size) : ((s.data.toList.getD k 0).toNat : Int) = (s[k].toNat : Int) := by
  rw [List.getD_eq_getElem?_getD, List.getElem?_eq_getElem (by simpa using h)]
  rfl

/-
  SameNode and Same of the document's answer for trees.
-/
/-- two devices, two trees are one -/
def decN (x y : Nd) : Decidable (x = y) := @instDecidableEqProd _ _ _ (@instDecidableEqProd _ _ _ inferInstance) x y
def eqN (x y : Nd) : Bool := @decide (x = y) (decN x y)
theorem eqN_of {x y : Nd} (h : x = y) : eqN x y = true := @decide_eq_true _ (decN x y) h
theorem eqN_not {x y : Nd} (h : ¬ x = y) : eqN x y = false := @decide_eq_false _ (decN x y) h
def decT (a b : List Nd) : Decidable (a = b) := letI := decN; inferInstance
def eqT (a b : List Nd) : Bool := @decide (a = b) (decT a b)
theorem eqT_of {a b : List Nd} (h : a = b) : eqT a b = true := @decide_eq_true _ (decT a b) h
theorem eqT_not {a b : List Nd} (h : ¬ a = b) : eqT a b = false := @decide_eq_false _ (decT a b) h
theorem two_boxes (w : World) (a b : Array Value) (T : TypeId) : Stands ((w.alloc (.cells a T)).alloc (.cells b T)) w.heap.size a T ∧ Stands ((w.alloc (.cells a T)).alloc (.cells b T)) (w.heap.size + 1) b T ∧ Below w.heap.size w ((w.alloc (.cells a T)).alloc (.cells b T)) := by
  refine ⟨(stands_new w a T).below (box_below _ _), ?_, below_trans (box_below w _) (box_below _ _)⟩
  have := stands_new (w.alloc (.cells a T)) b T
  rwa [size_al] at this
theorem str_eq8 (A B : ByteArray) (a b : List Int) (ha : bytesL a) (hb : bytesL b) (h1 : strOfNums a = A) (h2 : strOfNums b = B) : (A.toList == B.toList) = decide (a = b) := by
  rw [str_beq, ← h1, ← h2]
  simp only [nums_eq a b ha hb]
theorem nd_ext (x y : Nd) (h1 : x.1 = y.1) (h2 : x.2.1 = y.2.1) (h3 : x.2.2.1 = y.2.2.1) (h4 : x.2.2.2.1 = y.2.2.2.1) (h5 : x.2.2.2.2 = y.2.2.2.2) : x = y := Prod.ext h1 (Prod.ext h2 (Prod.ext h3 (Prod.ext h4 h5)))

end Go.Proofs.Ytfljcfpcokimcab
