/-
  Slices of aliases that came in: what they read as.
-/
import Derived.Test.YtmjgiaomijghoaaDoorRows
import Derived.Test.YtmjgiaomijghoaaDoorRa1
import Derived.Test.YtmjgiaomijghoaaDoorSg
import Derived.Test.YtmjgiaomijghoaaDoorBk
import Derived.ChangeSame
namespace Go.Proofs.YtmjgiaomijghoaaDoor
open Go.ChangeShapes Go.WideShapes Go.ChangeAt Go.RowKit
set_option linter.unusedVariables false
set_option linter.unusedSimpArgs false

/-- an alias: its name and its path -/
abbrev Al := List Int × List Int
def aliR (_ : World) (cs : List Value) (x : Al) : Prop := cs = [.string (strOfNums x.1), .string (strOfNums x.2)]
theorem aliR_below {w w' : World} (cs : List Value) (x : Al) (h : aliR w cs x) : aliR w' cs x := h
theorem ali_str : Tryd.prog.underlying 66 = some (.struct (Tryd.prog.fieldsOf 66)) := by kernel_rfl
theorem aliF0 : (Tryd.prog.fieldsOf 66)[0]?.map (fun f => (f.type, f.offset)) = some (9, 0) := by kernel_rfl
theorem aliF1 : (Tryd.prog.fieldsOf 66)[1]?.map (fun f => (f.type, f.offset)) = some (9, 1) := by kernel_rfl
theorem aliFs : (Tryd.prog.fieldsOf 66).size = 2 := by kernel_rfl
set_option maxRecDepth 100000 in
theorem ali_trod {H : Type} {enc : TypeId × Value → H} {W : World} {fuel : Nat} {cs : List Value} {y : DataW H × List MemPlace} (h : DataW.trod enc Tryd.prog W 0 (fun _ => true) true fuel 66 cs = some y) :
    ∃ x : Al, aliR W cs x ∧ bytesL x.1 ∧ bytesL x.2 ∧ x.1.length ≤ maxLen ∧ x.2.length ≤ maxLen ∧ x.1.length + x.2.length ≤ Rows.uptoBulk y.1 := by
  obtain ⟨xs, n, _, rfl, hl, hlen, hf⟩ := DataW.trod_struct ali_str h
  rw [show Tryd.prog.cellsOf 66 = 2 by kernel_rfl] at hl
  rw [aliFs] at hlen
  match cs, hl with
  | [c0, c1], _ =>
    match xs, hlen with
    | [y0, y1], _ =>
      obtain ⟨f0, g0, e0⟩ := Option.map_eq_some_iff.1 aliF0
      obtain ⟨f1, g1, e1⟩ := Option.map_eq_some_iff.1 aliF1
      obtain ⟨a0, b0⟩ := Prod.mk.inj e0
      obtain ⟨a1, b1⟩ := Prod.mk.inj e1
      have h0 := hf 0 f0 g0
      have h1 := hf 1 f1 g1
      rw [a0, b0, show Tryd.prog.cellsOf 9 = 1 by kernel_rfl] at h0
      rw [a1, b1, show Tryd.prog.cellsOf 9 = 1 by kernel_rfl] at h1
      simp at h0 h1
      obtain ⟨k, k1, k2, k3⟩ := DataW.trod_string Tryd.underlying9 h0
      obtain ⟨p, p1, p2, p3⟩ := DataW.trod_string Tryd.underlying9 h1
      simp at k1 p1
      subst k1 p1 k2 p2
      refine ⟨(LB k, LB p), by simp [aliR, nums_LB], LB_bytes k, LB_bytes p, by rw [LB_len]; exact k3, by rw [LB_len]; exact p3, ?_⟩
      have e1 : k.data.toList.length = k.size := by simp
      have e2 : p.data.toList.length = p.size := by simp
      simp only [List.map_cons, List.map_nil, Rows.uptoBulk, Rows.uptoBulkAll, LB_len]
      omega
theorem ali_open {H : Type} {enc : TypeId × Value → H} {W : World} {a : Option Addr} {len cap : Nat} {d : DataW H} {ps : List MemPlace} (h : DataW.Trod enc Tryd.prog W 0 (fun _ => true) true 32 (.slice a len cap) d ps) :
    ∃ xs : List Al, SlR 2 aliR W (.slice a len cap) xs ∧ (∀ x ∈ xs, bytesL x.1 ∧ bytesL x.2) ∧ (∀ x ∈ xs, x.1.length ≤ maxLen ∧ x.2.length ≤ maxLen) ∧ (∀ x ∈ xs, x.1.length + x.2.length ≤ Rows.uptoBulk d) := by
  obtain ⟨fuel, hf⟩ := h
  obtain ⟨rows, h1, h2, h3⟩ := slc_open (e := 66) Tryd.underlying32 (show Tryd.prog.cellsOf 66 = 2 by kernel_rfl) (by omega) (show DataW.trod enc Tryd.prog W 0 (fun _ => true) true fuel 32 [.slice a len cap] = some (d, ps) from hf)
  obtain ⟨xs, hx1, hx2⟩ := choose_list rows (fun r (x : Al) => aliR W r x ∧ (bytesL x.1 ∧ bytesL x.2) ∧ (x.1.length ≤ maxLen ∧ x.2.length ≤ maxLen) ∧ x.1.length + x.2.length ≤ Rows.uptoBulk d) (fun r hr => by
    obtain ⟨i, hi, rfl⟩ := List.getElem_of_mem hr
    rcases h3 with ⟨_, rfl⟩ | ⟨ds, zs, hds, hdl, h3⟩
    · simp at hi
    · obtain ⟨n, y, g, g2⟩ := h3 i hi
      rw [List.getD_eq_getElem?_getD, List.getElem?_eq_getElem hi] at g
      obtain ⟨x, k1, k2, k3, k4, k5, k6⟩ := ali_trod g
      refine ⟨x, k1, ⟨k2, k3⟩, ⟨k4, k5⟩, ?_⟩
      have hm := bk_mem (List.mem_of_getElem? g2)
      rw [hds]
      simp only [Rows.uptoBulk]
      omega)
  refine ⟨xs, ⟨rows, h1, hx1.symm, fun i hi => ?_⟩, fun x hx => ?_, fun x hx => ?_, fun x hx => ?_⟩
  · rw [List.getD_eq_getElem?_getD, List.getElem?_eq_getElem (by omega)]
    exact (hx2 i (by omega) hi).1
  · obtain ⟨i, hi, rfl⟩ := List.getElem_of_mem hx
    exact (hx2 i (by omega) hi).2.1
  · obtain ⟨i, hi, rfl⟩ := List.getElem_of_mem hx
    exact (hx2 i (by omega) hi).2.2.1
  · obtain ⟨i, hi, rfl⟩ := List.getElem_of_mem hx
    exact (hx2 i (by omega) hi).2.2.2
end Go.Proofs.YtmjgiaomijghoaaDoor
