/-
  A slice of tokens that came in: what it reads as, and how much text it holds; one that is written out; its first ones.
-/
import Derived.Test.YtpjkjkjoaapdiaaDoorRows
import Derived.Test.YtpjkjkjoaapdiaaDoorBk
import Derived.Test.YtpjkjkjoaapdiaaDoorRs5
import Derived.Test.YtpjkjkjoaapdiaaDoorPsw
import Derived.ChangeSame
namespace Go.Proofs.YtpjkjkjoaapdiaaDoor
open Go.ChangeShapes Go.WideShapes Go.ChangeAt Go.RowKit
set_option linter.unusedVariables false
set_option linter.unusedSimpArgs false

theorem wt_bulk {H : Type} : ∀ (xs : List Tk) (ds : List (DataW H)), xs.length = ds.length → (∀ i (h : i < xs.length) (g : i < ds.length), xs[i].2.1.length + 1 ≤ Rows.uptoBulk ds[i]) → wt xs ≤ Rows.uptoBulkAll ds
  | [], _, _, _ => by simp [wt]
  | x :: xs, [], h, _ => by simp at h
  | x :: xs, d :: ds, h, hb => by
    have h1 := hb 0 (by simp) (by simp)
    have h2 := wt_bulk xs ds (by simpa using h) (fun i hi hg => hb (i + 1) (by simpa using hi) (by simpa using hg))
    simp at h1
    simp only [wt, Rows.uptoBulkAll]
    omega
theorem tokF0 : (Tryd.prog.fieldsOf 33)[0]?.map (fun f => (f.type, f.offset)) = some (3, 0) := by kernel_rfl
theorem tokF1 : (Tryd.prog.fieldsOf 33)[1]?.map (fun f => (f.type, f.offset)) = some (9, 1) := by kernel_rfl
theorem tokF2 : (Tryd.prog.fieldsOf 33)[2]?.map (fun f => (f.type, f.offset)) = some (3, 2) := by kernel_rfl
theorem tokFs : (Tryd.prog.fieldsOf 33).size = 3 := by kernel_rfl
/-- one token's cells -/
theorem tok_trod {H : Type} {enc : TypeId × Value → H} {W : World} {fuel : Nat} {cs : List Value} {y : DataW H × List MemPlace} (h : DataW.trod enc Tryd.prog W 0 (fun _ => true) true fuel 33 cs = some y) :
    ∃ x : Tk, cs = tkC x ∧ bytesL x.2.1 ∧ x.2.1.length ≤ maxLen ∧ x.2.1.length + 1 ≤ Rows.uptoBulk y.1 := by
  obtain ⟨xs, n, _, rfl, hl, hlen, hf⟩ := DataW.trod_struct tok_str h
  rw [show Tryd.prog.cellsOf 33 = 3 by kernel_rfl] at hl
  rw [tokFs] at hlen
  match cs, hl with
  | [c0, c1, c2], _ =>
    match xs, hlen with
    | [y0, y1, y2], _ =>
      obtain ⟨f0, g0, e0⟩ := Option.map_eq_some_iff.1 tokF0
      obtain ⟨f1, g1, e1⟩ := Option.map_eq_some_iff.1 tokF1
      obtain ⟨f2, g2, e2⟩ := Option.map_eq_some_iff.1 tokF2
      obtain ⟨a0, b0⟩ := Prod.mk.inj e0
      obtain ⟨a1, b1⟩ := Prod.mk.inj e1
      obtain ⟨a2, b2⟩ := Prod.mk.inj e2
      have h0 := hf 0 f0 g0
      have h1 := hf 1 f1 g1
      have h2 := hf 2 f2 g2
      rw [a0, b0, show Tryd.prog.cellsOf 3 = 1 by kernel_rfl] at h0
      rw [a1, b1, show Tryd.prog.cellsOf 9 = 1 by kernel_rfl] at h1
      rw [a2, b2, show Tryd.prog.cellsOf 3 = 1 by kernel_rfl] at h2
      simp at h0 h1 h2
      obtain ⟨k, k1, k2, k3⟩ := DataW.trod_int Tryd.underlying3 h0
      obtain ⟨t, t1, t2, t3⟩ := DataW.trod_string Tryd.underlying9 h1
      obtain ⟨p, p1, p2, p3⟩ := DataW.trod_int Tryd.underlying3 h2
      simp at k1 t1 p1
      subst k1 t1 p1 k2 t2 p2
      refine ⟨(k, LB t, p), by simp [tkC, nums_LB], LB_bytes t, by rw [LB_len]; exact t3, ?_⟩
      rw [LB_len]
      have : t.data.toList.length = t.size := by simp
      simp only [List.map_cons, List.map_nil, Rows.uptoBulk, Rows.uptoBulkAll]
      omega
theorem tok_open {H : Type} {enc : TypeId × Value → H} {W : World} {a : Option Addr} {len cap : Nat} {d : DataW H} {ps : List MemPlace} (h : DataW.Trod enc Tryd.prog W 0 (fun _ => true) true 23 (.slice a len cap) d ps) :
    ∃ xs : List Tk, SlR 3 tokR W (.slice a len cap) xs ∧ (∀ x ∈ xs, bytesL x.2.1) ∧ (∀ x ∈ xs, x.2.1.length ≤ maxLen) ∧ wt xs ≤ Rows.uptoBulk d := by
  obtain ⟨fuel, hf⟩ := h
  obtain ⟨rows, h1, h2, h3⟩ := slc_open (e := 33) Tryd.underlying23 (show Tryd.prog.cellsOf 33 = 3 by kernel_rfl) (by omega) (show DataW.trod enc Tryd.prog W 0 (fun _ => true) true fuel 23 [.slice a len cap] = some (d, ps) from hf)
  rcases h3 with ⟨rfl, rfl⟩ | ⟨ds, zs, rfl, hl, h3⟩
  · exact ⟨[], ⟨[], h1, rfl, fun i hi => by simp at hi⟩, fun x hx => by simp at hx, fun x hx => by simp at hx, by simp [wt]⟩
  · obtain ⟨xs, hx1, hx2⟩ := choose_list (rows.zip ds) (fun (r : List Value × DataW H) (x : Tk) => r.1 = tkC x ∧ bytesL x.2.1 ∧ x.2.1.length ≤ maxLen ∧ x.2.1.length + 1 ≤ Rows.uptoBulk r.2) (fun r hr => by
      obtain ⟨i, hi, rfl⟩ := List.getElem_of_mem hr
      have hi2 : i < rows.length := by simp at hi; omega
      obtain ⟨n, y, g, g2⟩ := h3 i hi2
      rw [List.getD_eq_getElem?_getD, List.getElem?_eq_getElem hi2] at g
      rw [List.getElem?_eq_getElem (by omega)] at g2
      obtain ⟨x, k1, k2, k3, k4⟩ := tok_trod g
      refine ⟨x, ?_, k2, k3, ?_⟩
      · rw [List.getElem_zip]; exact k1
      · rw [List.getElem_zip]
        have := Option.some.inj g2
        rw [this]
        exact k4)
    have hzl : (rows.zip ds).length = rows.length := by simp [hl]
    refine ⟨xs, ⟨rows, h1, by omega, fun i hi => ?_⟩, fun x hx => ?_, fun x hx => ?_, ?_⟩
    · have := (hx2 i (by omega) hi).1
      rw [List.getElem_zip] at this
      rw [List.getD_eq_getElem?_getD, List.getElem?_eq_getElem (by omega)]
      exact this
    · obtain ⟨i, hi, rfl⟩ := List.getElem_of_mem hx
      exact (hx2 i (by omega) hi).2.1
    · obtain ⟨i, hi, rfl⟩ := List.getElem_of_mem hx
      exact (hx2 i (by omega) hi).2.2.1
    · have := wt_bulk xs ds (by omega) (fun i hi hg => by
        have := (hx2 i (by omega) hi).2.2.2
        rw [List.getElem_zip] at this
        exact this)
      simp only [Rows.uptoBulk]
      omega
/-- tokens that are written out -/
theorem tok_lit (w : World) (xs : List Tk) (T : TypeId) (h0 : 0 < xs.length) (h1 : xs.length ≤ maxLen) : SlR 3 tokR (w.alloc (.cells (xs.flatMap tkC).toArray T)) (.slice (some ⟨w.heap.size, 0, none⟩) xs.length xs.length) xs := by
  refine ⟨xs.map tkC, Or.inr ⟨w.heap.size, 0, xs.length, by simp, by simpa using h0, by simp, h1, fun i hi => ?_⟩, by simp, fun i hi => ?_⟩
  · have hi2 : i < xs.length := by simpa using hi
    have e : (xs.map tkC).getD i [] = tkC xs[i] := by simp [List.getD_eq_getElem?_getD, List.getElem?_eq_getElem hi2]
    rw [e]
    refine ⟨rfl, fun j hj => ?_⟩
    rw [World.cell?_alloc_new]
    have : ∀ (l : List Tk) (i j : Nat) (h : i < l.length), j < 3 → (l.flatMap tkC)[i * 3 + j]? = (tkC l[i])[j]? := by
      intro l
      induction l with
      | nil => intro i j h; simp at h
      | cons x l ih =>
        intro i j h hj
        cases i with
        | zero =>
          rw [List.flatMap_cons, List.getElem?_append_left (by simp [tkC]; omega)]
          simp
        | succ i =>
          rw [List.flatMap_cons, List.getElem?_append_right (by simp [tkC]; omega)]
          have := ih i j (by simpa using h) hj
          simp only [List.getElem_cons_succ]
          rw [← this]
          congr 1
          simp [tkC]
          omega
    have := this xs i j hi2 hj
    simpa using this
  · simp [tokR, List.getD_eq_getElem?_getD, List.getElem?_eq_getElem hi]
/-- the first ones of a slice -/
theorem slr_take {α : Type} {P : Program} {R : World → List Value → α → Prop} {w : World} {v : Value} {xs : List α} {sz : Nat} (h : SlR sz R w v xs) {t : TypeId} (ht : P.underlying t = some (.slice (P.elem t))) (hs : ∀ w, (sizeOf (P.elem t)).run P w = .ok sz w) (n : Nat) (hn : n ≤ xs.length) :
    ∃ v', (∀ w', (Instr.slice t v none (some (.int .i64 (n : Int))) none).run P w' = .ok v' w') ∧ SlR sz R w v' (xs.take n) := by
  obtain ⟨rows, h1, h2, h3⟩ := h
  obtain ⟨ao, cap, rfl, hc, hno, hx⟩ := h1.form
  refine ⟨sliced ao 0 n cap sz, fun w' => ?_, rows.take n, ?_, by simp [h2], fun i hi => ?_⟩
  · rw [run_slice_h w' t ao rows.length cap ht .i64 (n : Int) (by omega) (by omega), hs]
    simp [Result.andThen]
  · rcases Nat.eq_zero_or_pos n with h0 | h0
    · subst h0
      refine Or.inl ⟨if cap = 0 then ao else ao.map (·.add (0 * sz)), cap, by simp [sliced], ?_, by simp⟩
      intro he
      by_cases hc0 : cap = 0
      · exact hc0
      · rw [if_neg hc0] at he
        cases ao with
        | none => exact hno rfl
        | some a => cases he
    · obtain ⟨hm, b, off, rfl, hcell⟩ := hx (by omega)
      have hl : (rows.take n).length = n := by simp; omega
      refine Or.inr ⟨b, off, cap, ?_, by omega, by omega, hm, fun i hi => ?_⟩
      · rw [sliced, hl, if_neg (by omega)]
        simp [Addr.add]
      · rw [hl] at hi
        have e : (rows.take n).getD i [] = rows.getD i [] := by
          rw [List.getD_eq_getElem?_getD, List.getD_eq_getElem?_getD, List.getElem?_take, if_pos hi]
        rw [e]
        exact hcell i (by omega)
  · have hi2 : i < n := by simp at hi; omega
    have e : (rows.take n).getD i [] = rows.getD i [] := by
      rw [List.getD_eq_getElem?_getD, List.getD_eq_getElem?_getD, List.getElem?_take, if_pos hi2]
    rw [e, List.getElem_take]
    exact h3 i (by simp at hi; omega)
end Go.Proofs.YtpjkjkjoaapdiaaDoor
