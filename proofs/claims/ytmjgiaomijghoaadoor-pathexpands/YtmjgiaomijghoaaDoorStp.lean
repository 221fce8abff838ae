/-
  Slices of steps that came in: what they read as, and how much they hold.
-/
import Derived.Test.YtmjgiaomijghoaaDoorRows
import Derived.Test.YtmjgiaomijghoaaDoorBk
import Derived.Test.YtmjgiaomijghoaaDoorRa3
import Derived.ChangeSame
namespace Go.Proofs.YtmjgiaomijghoaaDoor
open Go.ChangeShapes Go.WideShapes Go.ChangeAt Go.RowKit
set_option linter.unusedVariables false
set_option linter.unusedSimpArgs false

theorem wf7 {n : Int} (h : (Lit.int .u32 n).wf = true) : 0 ≤ n ∧ n < 4294967296 := by
  simp [Lit.wf, IntKind.min, IntKind.max, IntKind.bits, IntKind.signed] at h
  omega
/-- how much steps hold -/
def wtS : List Sp → Nat
  | [] => 0
  | x :: r => x.1.length + x.2.1.length + x.2.2.length + 1 + wtS r
theorem wtS_mem {x : Sp} : ∀ {l : List Sp}, x ∈ l → x.1.length + x.2.1.length + x.2.2.length + 1 ≤ wtS l
  | y :: r, h => by
    simp only [wtS]
    rcases List.mem_cons.1 h with rfl | h
    · omega
    · have := wtS_mem h
      omega
theorem wtS_bulk {H : Type} : ∀ (xs : List Sp) (ds : List (DataW H)), xs.length = ds.length → (∀ i (h : i < xs.length) (g : i < ds.length), xs[i].1.length + xs[i].2.1.length + xs[i].2.2.length + 1 ≤ Rows.uptoBulk ds[i]) → wtS xs ≤ Rows.uptoBulkAll ds
  | [], _, _, _ => by simp [wtS]
  | x :: xs, [], h, _ => by simp at h
  | x :: xs, d :: ds, h, hb => by
    have h1 := hb 0 (by simp) (by simp)
    have h2 := wtS_bulk xs ds (by simpa using h) (fun i hi hg => hb (i + 1) (by simpa using hi) (by simpa using hg))
    simp at h1
    simp only [wtS, Rows.uptoBulkAll]
    omega
theorem stp_str : Tryd.prog.underlying 40 = some (.struct (Tryd.prog.fieldsOf 40)) := by kernel_rfl
theorem stpF0 : (Tryd.prog.fieldsOf 40)[0]?.map (fun f => (f.type, f.offset)) = some (9, 0) := by kernel_rfl
theorem stpF1 : (Tryd.prog.fieldsOf 40)[1]?.map (fun f => (f.type, f.offset)) = some (38, 1) := by kernel_rfl
theorem stpF2 : (Tryd.prog.fieldsOf 40)[2]?.map (fun f => (f.type, f.offset)) = some (9, 2) := by kernel_rfl
theorem stpFs : (Tryd.prog.fieldsOf 40).size = 3 := by kernel_rfl
set_option maxRecDepth 100000 in
/-- one step's cells -/
theorem stp_trod {H : Type} {enc : TypeId × Value → H} {W : World} {fuel : Nat} {cs : List Value} {y : DataW H × List MemPlace} (h : DataW.trod enc Tryd.prog W 0 (fun _ => true) true fuel 40 cs = some y) :
    ∃ x : Sp, stpR W cs x ∧ bytesL x.1 ∧ bytesL x.2.2 ∧ (∀ n ∈ x.2.1, (Lit.int .u32 n).wf = true) ∧ x.1.length ≤ maxLen ∧ x.2.2.length ≤ maxLen ∧ x.1.length + x.2.1.length + x.2.2.length + 1 ≤ Rows.uptoBulk y.1 := by
  obtain ⟨xs, n, _, rfl, hl, hlen, hf⟩ := DataW.trod_struct stp_str h
  rw [show Tryd.prog.cellsOf 40 = 3 by kernel_rfl] at hl
  rw [stpFs] at hlen
  match cs, hl with
  | [c0, c1, c2], _ =>
    match xs, hlen with
    | [y0, y1, y2], _ =>
      obtain ⟨f0, g0, e0⟩ := Option.map_eq_some_iff.1 stpF0
      obtain ⟨f1, g1, e1⟩ := Option.map_eq_some_iff.1 stpF1
      obtain ⟨f2, g2, e2⟩ := Option.map_eq_some_iff.1 stpF2
      obtain ⟨a0, b0⟩ := Prod.mk.inj e0
      obtain ⟨a1, b1⟩ := Prod.mk.inj e1
      obtain ⟨a2, b2⟩ := Prod.mk.inj e2
      have h0 := hf 0 f0 g0
      have h1 := hf 1 f1 g1
      have h2 := hf 2 f2 g2
      rw [a0, b0, show Tryd.prog.cellsOf 9 = 1 by kernel_rfl] at h0
      rw [a1, b1, show Tryd.prog.cellsOf 38 = 1 by kernel_rfl] at h1
      rw [a2, b2, show Tryd.prog.cellsOf 9 = 1 by kernel_rfl] at h2
      simp at h0 h1 h2
      obtain ⟨k, k1, k2, k3⟩ := DataW.trod_string Tryd.underlying9 h0
      obtain ⟨p, p1, p2, p3⟩ := DataW.trod_string Tryd.underlying9 h2
      have g' : ∃ x l c, c1 = .slice x l c := by
        rcases DataW.trod_slice Tryd.underlying38 h1 with ⟨h0, _⟩ | ⟨x, l, c, _, _, _, _, h0, _⟩
        · simp at h0; exact ⟨none, 0, 0, h0⟩
        · simp at h0; exact ⟨some x, l, c, h0⟩
      obtain ⟨x, l, c, rfl⟩ := g'
      obtain ⟨u, hu, hw, hd⟩ := rd_open (k := .u32) (d := y1.1) (ps := y1.2) Tryd.underlying38 Tryd.underlying37 (by kernel_rfl) ⟨_, h1⟩
      simp at k1 p1
      subst k1 p1 k2 p2
      refine ⟨(LB k, u, LB p), ⟨_, by simp [nums_LB], hu⟩, LB_bytes k, LB_bytes p, hw, by rw [LB_len]; exact k3, by rw [LB_len]; exact p3, ?_⟩
      have e1 : k.data.toList.length = k.size := by simp
      have e2 : p.data.toList.length = p.size := by simp
      have e3 : u.length ≤ Rows.uptoBulk y1.1 := by
        rcases hd with rfl | ⟨ys, zs, hd, hle⟩
        · simp
        · rw [hd]
          exact Nat.le_trans hle (bk_slice ys zs)
      simp only [List.map_cons, List.map_nil, Rows.uptoBulk, Rows.uptoBulkAll, LB_len]
      omega
theorem stp_open {H : Type} {enc : TypeId × Value → H} {W : World} {a : Option Addr} {len cap : Nat} {d : DataW H} {ps : List MemPlace} (h : DataW.Trod enc Tryd.prog W 0 (fun _ => true) true 23 (.slice a len cap) d ps) :
    ∃ xs : List Sp, SlR 3 stpR W (.slice a len cap) xs ∧ (∀ x ∈ xs, bytesL x.1 ∧ bytesL x.2.2) ∧ (∀ x ∈ xs, cells x.2.1) ∧ (∀ x ∈ xs, x.1.length ≤ maxLen ∧ x.2.2.length ≤ maxLen) ∧ wtS xs ≤ Rows.uptoBulk d := by
  obtain ⟨fuel, hf⟩ := h
  obtain ⟨rows, h1, h2, h3⟩ := slc_open (e := 40) Tryd.underlying23 (show Tryd.prog.cellsOf 40 = 3 by kernel_rfl) (by omega) (show DataW.trod enc Tryd.prog W 0 (fun _ => true) true fuel 23 [.slice a len cap] = some (d, ps) from hf)
  rcases h3 with ⟨rfl, rfl⟩ | ⟨ds, zs, rfl, hl, h3⟩
  · exact ⟨[], ⟨[], h1, rfl, fun i hi => by simp at hi⟩, fun x hx => by simp at hx, fun x hx => by simp at hx, fun x hx => by simp at hx, by simp [wtS]⟩
  · obtain ⟨xs, hx1, hx2⟩ := choose_list (rows.zip ds) (fun (r : List Value × DataW H) (x : Sp) => stpR W r.1 x ∧ (bytesL x.1 ∧ bytesL x.2.2) ∧ (∀ n ∈ x.2.1, (Lit.int .u32 n).wf = true) ∧ (x.1.length ≤ maxLen ∧ x.2.2.length ≤ maxLen) ∧ x.1.length + x.2.1.length + x.2.2.length + 1 ≤ Rows.uptoBulk r.2) (fun r hr => by
      obtain ⟨i, hi, rfl⟩ := List.getElem_of_mem hr
      have hi2 : i < rows.length := by simp at hi; omega
      obtain ⟨n, y, g, g2⟩ := h3 i hi2
      rw [List.getD_eq_getElem?_getD, List.getElem?_eq_getElem hi2] at g
      rw [List.getElem?_eq_getElem (by omega)] at g2
      obtain ⟨x, k1, k2, k3, k4, k5, k6, k7⟩ := stp_trod g
      refine ⟨x, ?_, ⟨k2, k3⟩, k4, ⟨k5, k6⟩, ?_⟩
      · rw [List.getElem_zip]; exact k1
      · rw [List.getElem_zip]
        have := Option.some.inj g2
        rw [this]
        exact k7)
    have hzl : (rows.zip ds).length = rows.length := by simp [hl]
    refine ⟨xs, ⟨rows, h1, by omega, fun i hi => ?_⟩, fun x hx => ?_, fun x hx => ?_, fun x hx => ?_, ?_⟩
    · have := (hx2 i (by omega) hi).1
      rw [List.getElem_zip] at this
      rw [List.getD_eq_getElem?_getD, List.getElem?_eq_getElem (by omega)]
      exact this
    · obtain ⟨i, hi, rfl⟩ := List.getElem_of_mem hx
      exact (hx2 i (by omega) hi).2.1
    · obtain ⟨i, hi, rfl⟩ := List.getElem_of_mem hx
      exact fun n hn => wf7 ((hx2 i (by omega) hi).2.2.1 n hn)
    · obtain ⟨i, hi, rfl⟩ := List.getElem_of_mem hx
      exact (hx2 i (by omega) hi).2.2.2.1
    · have := wtS_bulk xs ds (by omega) (fun i hi hg => by
        have := (hx2 i (by omega) hi).2.2.2.2
        rw [List.getElem_zip] at this
        exact this)
      simp only [Rows.uptoBulk]
      omega
end Go.Proofs.YtmjgiaomijghoaaDoor
