/-
  The words that turn a stack, as plain functions of lists. No Go text in sight.
-/
import Derived.Test.YtefiohepglggdaaDoorSl
namespace Go.Proofs.YtefiohepglggdaaDoor
set_option linter.unusedVariables false
set_option linter.unusedSimpArgs false

/-- how many cells a word of the table takes, and which of them (by letters, a the lowest; a blank: none) it leaves -/
def effT (op : Int) : Int :=
  if op = 70 then 1 else if op = 71 then 1 else if op = 72 then 2 else if op = 73 then 2 else if op = 74 then 3 else if op = 75 then 3 else if op = 76 then 2 else if op = 77 then 2 else
  if op = 82 then 2 else if op = 83 then 2 else if op = 84 then 4 else if op = 85 then 4 else if op = 86 then 6 else 0
def effS (op : Int) : ByteArray :=
  if op = 70 then ⟨#[32]⟩ else if op = 71 then ⟨#[97, 97]⟩ else if op = 72 then ⟨#[97, 98, 97]⟩ else if op = 73 then ⟨#[98, 97]⟩ else if op = 74 then ⟨#[98, 99, 97]⟩ else if op = 75 then ⟨#[99, 97, 98]⟩ else
  if op = 76 then ⟨#[98, 97, 98]⟩ else if op = 77 then ⟨#[98]⟩ else if op = 82 then ⟨#[32]⟩ else if op = 83 then ⟨#[97, 98, 97, 98]⟩ else if op = 84 then ⟨#[97, 98, 99, 100, 97, 98]⟩ else
  if op = 85 then ⟨#[99, 100, 97, 98]⟩ else if op = 86 then ⟨#[99, 100, 101, 102, 97, 98]⟩ else ⟨#[]⟩
/-- a word of the table -/
def isT (op : Int) : Bool := decide ((70 ≤ op ∧ op ≤ 77) ∨ (82 ≤ op ∧ op ≤ 86))
/-- a text's bytes as numbers -/
def LB (s : ByteArray) : List Int := s.data.toList.map fun c => (c.toNat : Int)
/-- what is left of the cells from place p on, by letters -/
def pickL (xs : List Int) (p : Nat) (ls : List Int) : List Int := (ls.filter fun c => decide (c ≠ 32)).map fun c => xs.getD (p + (c - 97).toNat) 0
/-- no more than a stack holds -/
def fits (out : List Int) : List Int × Int := if 64 < out.length then ([], 6) else (out, 0)
def doT (xs : List Int) (t : Int) (ls : List Int) : List Int × Int :=
  if (xs.length : Int) < t then ([], 5) else fits (xs.take (xs.length - t.toNat) ++ pickL xs (xs.length - t.toNat) ls)
/-- ?dup -/
def doQ (xs : List Int) : List Int × Int :=
  if (xs.length : Int) < 1 then ([], 5) else fits (xs ++ if xs.getD (xs.length - 1) 0 = 0 then [] else [xs.getD (xs.length - 1) 0])
/-- pick and roll: the cell's place -/
def plc (xs : List Int) : Nat := xs.length - 2 - (xs.getD (xs.length - 1) 0).toNat
def far (xs : List Int) : Bool := decide ((xs.length : Int) < 1 ∨ (xs.length : Int) - 1 ≤ xs.getD (xs.length - 1) 0)
def doP (xs : List Int) : List Int × Int := if far xs = true then ([], 5) else fits (xs.take (xs.length - 1) ++ [xs.getD (plc xs) 0])
def doR (xs : List Int) : List Int × Int := if far xs = true then ([], 5) else fits (xs.take (plc xs) ++ (xs.drop (plc xs + 1)).take (xs.length - 2 - plc xs) ++ [xs.getD (plc xs) 0])
/-- what Do answers -/
def doF (op : Int) (xs : List Int) : List Int × Int :=
  if 64 < xs.length then ([], 1) else if isT op = true then doT xs (effT op) (LB (effS op)) else if op = 80 then doQ xs else if op = 81 then fits (xs ++ [(xs.length : Int)]) else
  if op = 78 then doP xs else if op = 79 then doR xs else ([], 2)

theorem LB_len (s : ByteArray) : (LB s).length = s.size := by simp [LB]
theorem LB_take (s : ByteArray) (k : Nat) (h : k < s.size) : (LB s).take (k + 1) = (LB s).take k ++ [(s[k].toNat : Int)] := by
  rw [List.take_succ_eq_append_getElem (by rw [LB_len]; exact h)]
  simp [LB]
  rfl
theorem LB_mem (s : ByteArray) (k : Nat) (h : k < s.size) : (s[k].toNat : Int) ∈ LB s := by
  unfold LB
  rw [List.mem_map]
  exact ⟨s[k], by rw [show s[k] = s.data[k] from rfl, ← Array.getElem_toList]; exact List.getElem_mem _, rfl⟩
theorem pickL_blank (xs : List Int) (p : Nat) (l : List Int) : pickL xs p (l ++ [32]) = pickL xs p l := by simp [pickL]
theorem pickL_snoc (xs : List Int) (p : Nat) (l : List Int) (c : Int) (h : ¬ c = 32) : pickL xs p (l ++ [c]) = pickL xs p l ++ [xs.getD (p + (c - 97).toNat) 0] := by simp [pickL, h]
theorem pickL_len (xs : List Int) (p : Nat) (l : List Int) : (pickL xs p l).length ≤ l.length := by
  simp [pickL]; exact List.length_filter_le _ _
/-- the table's words, one by one -/
theorem isT_cases (op : Int) (h : isT op = true) : op = 70 ∨ op = 71 ∨ op = 72 ∨ op = 73 ∨ op = 74 ∨ op = 75 ∨ op = 76 ∨ op = 77 ∨ op = 82 ∨ op = 83 ∨ op = 84 ∨ op = 85 ∨ op = 86 := by
  unfold isT at h; simp at h; omega
theorem eff_letters (op : Int) (h : isT op = true) : (∀ c ∈ LB (effS op), c = 32 ∨ (97 ≤ c ∧ c < 97 + effT op)) ∧ (LB (effS op)).length ≤ 6 ∧ 0 < (effS op).size ∧ 1 ≤ effT op ∧ effT op ≤ 6 := by
  rcases isT_cases op h with rfl | rfl | rfl | rfl | rfl | rfl | rfl | rfl | rfl | rfl | rfl | rfl | rfl <;> decide
theorem eff_none (op : Int) (h : isT op = false) : effS op = ⟨#[]⟩ ∧ effT op = 0 := by
  unfold isT at h; simp at h
  constructor
  · unfold effS
    repeat rw [if_neg (by omega)]
  · unfold effT
    repeat rw [if_neg (by omega)]
end Go.Proofs.YtefiohepglggdaaDoor
