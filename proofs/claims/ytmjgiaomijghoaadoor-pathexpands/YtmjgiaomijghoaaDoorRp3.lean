/-
  Lists of texts compared; Join, Ints, Texts of the document's answer for properties.
-/
import Derived.Test.YtmjgiaomijghoaaDoorRp2
import Derived.Test.YtmjgiaomijghoaaDoorR3s
namespace Go.Proofs.YtmjgiaomijghoaaDoor
open Go.ChangeShapes Go.WideShapes Go.ChangeAt Go.RowKit
set_option linter.unusedVariables false
set_option linter.unusedSimpArgs false

theorem uS : Tryd.prog.underlying 43 = some (.slice (Tryd.prog.elem 43)) := by kernel_rfl
theorem eS : Tryd.prog.elem 43 = 9 := by kernel_rfl
theorem zS (w : World) : (sizeOf (Tryd.prog.elem 43)).run Tryd.prog w = .ok 1 w := by rw [eS]; exact Tryd.sizeOf9 w
theorem infoStr : (Tryd.prog.info? 9).map (fun i => (i.zero, i.size, i.bytes)) = some (some (.string ⟨#[]⟩), 1, 16) := by kernel_rfl
theorem str_at {w : World} {v : Value} {xs : List ByteArray} (h : SlR 1 strR w v xs) (i : Nat) (h1 : i < xs.length) :
    ∃ (ad : Addr) (s : ByteArray), (∀ w', (Instr.indexAt 43 v (.int .i64 (i : Int))).run Tryd.prog w' = .ok (.pointer (some ad)) w') ∧ w.cell? ad = some (.string s) ∧ s.size ≤ maxLen ∧ xs[i] = s := by
  obtain ⟨ad, c, h2, h3, h4, h5⟩ := slr_idx h uS zS i (by omega) (by omega)
  simp at h4
  exact ⟨ad, _, h2, by rw [h3, h4]; rfl, h5, rfl⟩
theorem strR_below {w w' : World} (cs : List Value) (s : ByteArray) (h : strR w cs s) : strR w' cs s := h

theorem sameS_take (xs ys : List ByteArray) (k : Nat) (h1 : k < xs.length) (h2 : k < ys.length) (h : xs.take k = ys.take k) (e : xs[k] = ys[k]) : xs.take (k + 1) = ys.take (k + 1) := by
  rw [List.take_succ_eq_append_getElem h1, List.take_succ_eq_append_getElem h2, h, e]

theorem joi_step (ps : List (List Int)) (k : Nat) (h : k < ps.length) : (ps.take (k + 1)).flatten = (ps.take k).flatten ++ ps[k] := by
  rw [List.take_succ_eq_append_getElem h, List.flatten_append, List.flatten_cons, List.flatten_nil, List.append_nil]
theorem joi_over (ps : List (List Int)) (k : Nat) (h : k < ps.length) (hl : 256 < (ps.take k).flatten.length + ps[k].length) : joiF ps = ([], 3) := by
  unfold joiF
  rw [if_pos]
  have : ps.flatten = (ps.take (k + 1)).flatten ++ (ps.drop (k + 1)).flatten := by rw [← List.flatten_append, List.take_append_drop]
  rw [this, joi_step ps k h]
  simp only [List.length_append]
  omega
theorem joi_all (ps : List (List Int)) (hl : ps.flatten.length ≤ 256) : joiF ps = (ps.flatten, 0) := by
  unfold joiF
  rw [if_neg (by omega)]
end Go.Proofs.YtmjgiaomijghoaaDoor
