/-
  Right and Literal of the document's answer return the plain functions, for all texts.
-/
import Derived.Test.YtaiimfdcbdfbdaaDoorRpa
import Derived.Test.YtaiimfdcbdfbdaaDoorDsh
namespace Go.Proofs.YtaiimfdcbdfbdaaDoor
open Go.ChangeShapes Go.WideShapes Go.ChangeAt Go.RowKit
set_option linter.unusedVariables false
set_option linter.unusedSimpArgs false

/-- blanks ahead -/
def rgL (l : List Int) (width : Int) : List Int := List.replicate (width.toNat - l.length) 32 ++ l
def rgT (s : ByteArray) (width : Int) : ByteArray := if 255 < width then ⟨#[]⟩ else toB (rgL (L s) width)
def rgE (width : Int) : Int := if 255 < width then 1 else 0
theorem blank_L : L ⟨#[32]⟩ = [32] := by decide
theorem rg_step (t : ByteArray) (j : Nat) (h : L t = List.replicate j 32) : L (t ++ ⟨#[32]⟩) = List.replicate (j + 1) 32 := by
  rw [L_app, h, blank_L, List.replicate_succ']
theorem rg_size (t : ByteArray) (j : Nat) (h : L t = List.replicate j 32) : t.size = j := by
  rw [← L_len, h]; simp
theorem rg_end (s t : ByteArray) (j : Nat) (width : Int) (h : L t = List.replicate j 32) (hj : j = width.toNat - s.size) : t ++ s = toB (rgL (L s) width) := by
  apply L_eq
  rw [L_app, h, hj]
  unfold rgL
  rw [L_len]

/-- the base of a letter ahead of the number sign; 0 where there is none -/
def litB (c : Int) : Int := if sm c = 104 then 16 else if sm c = 111 then 8 else if sm c = 98 then 2 else if sm c = 100 then 10 else 0
/-- what Literal answers -/
def litR (l : List Int) (b : Int) : Int × Bool := ((prs l b).1, (prs l b).2 == 0)
def lit (l : List Int) : Int × Bool :=
  if 2 < l.length ∧ l[1]? = some 35 then (if litB (l.headD 0) = 0 then (0, false) else litR (l.drop 2) (litB (l.headD 0))) else litR l 10
theorem lit_plain (s : ByteArray) (h : ¬ (2 < s.size ∧ (L s)[1]? = some 35)) : lit (L s) = litR (L s) 10 := by
  unfold lit; rw [L_len, if_neg h]
theorem lit_sign (s : ByteArray) (h : 2 < s.size) (h1 : (s[1].toNat : Int) = 35) : lit (L s) = if litB (s[0].toNat : Int) = 0 then (0, false) else litR ((L s).drop 2) (litB (s[0].toNat : Int)) := by
  have e1 : (L s)[1]? = some 35 := by rw [List.getElem?_eq_getElem (by rw [L_len]; omega), L_get s 1 (by omega), h1]
  have e0 : (L s).headD 0 = (s[0].toNat : Int) := by
    rw [List.headD_eq_head?_getD, List.head?_eq_getElem?, List.getElem?_eq_getElem (by rw [L_len]; omega), L_get s 0 (by omega)]; rfl
  unfold lit; rw [L_len, if_pos ⟨h, e1⟩, e0]

end Go.Proofs.YtaiimfdcbdfbdaaDoor
