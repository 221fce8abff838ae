/-
  Texts of one proof, laid one behind the other: Stp Pax Rt1 Rt2 Ow2 Plb Plp Tf0 Stc Tf1 Rnq Rt3.
-/
import Derived.Test.YtkdaimagdmbnfaaDoorB1
import Derived.Test.YtkdaimagdmbnfaaDoorRows
import Derived.ChangeSame
import Derived.Deep.RegionLaw
import Derived.Lib.Bytealg
import Derived.Lib.BytesEntry
import Derived.Lib.ConvBytes
import Derived.Lib.AtoiErrMem
import Derived.Lib.Slices
import Derived.Laws.Externs
import Derived.Lib.Strings
import Derived.Lib.Walk
import Derived.Lib.BufferWrite
import Derived.Lib.UnsafeStr
import Derived.Lib.Hide
import Derived.Lib.IfaceEq
import Derived.Laws.MakeOwn
import Derived.Laws.Strings3
import Derived.Laws.Closers25
import Derived.Laws.Closers25b
import Derived.BigCall
import Derived.BigGuard
import Derived.Shelf.Abstract
namespace Go.Proofs.YtkdaimagdmbnfaaDoor
open Go.ChangeShapes Go.WideShapes Go.ChangeAt Go.RowKit
set_option linter.unusedVariables false
set_option linter.unusedSimpArgs false

/-
  Slices of steps that came in: what they read as, and how much they hold.
-/
theorem wf7 {n : Int} (h : (Lit.int .u32 n).wf = true) : 0 ≤ n ∧ n < 4294967296 := by
  simp [Lit.wf, IntKind.min, IntKind.max, IntKind.bits, IntKind.signed] at h
  omega
/-- how much steps hold -/
def wtS : List Sp → Nat
  | [] => 0
  | x :: r => x.1.length + x.2.1.length + x.2.2.length + 1 + wtS r
theorem wtS_mem {x : Sp} : ∀ {l : List Sp}, x ∈ l → x.1.length + x.2.1.length + x.2.2.length + 1 ≤ wtS l
  | y :: r, h => by
    simp only [wtS]
    rcases List.mem_cons.1 h with rfl | h
    · omega
    · have := wtS_mem h
      omega
theorem wtS_bulk {H : Type} : ∀ (xs : List Sp) (ds : List (DataW H)), xs.length = ds.length → (∀ i (h : i < xs.length) (g : i < ds.length), xs[i].1.length + xs[i].2.1.length + xs[i].2.2.length + 1 ≤ Rows.uptoBulk ds[i]) → wtS xs ≤ Rows.uptoBulkAll ds
  | [], _, _, _ => by simp [wtS]
  | x :: xs, [], h, _ => by simp at h
  | x :: xs, d :: ds, h, hb => by
    have h1 := hb 0 (by simp) (by simp)
    have h2 := wtS_bulk xs ds (by simpa using h) (fun i hi hg => hb (i + 1) (by simpa using hi) (by simpa using hg))
    simp at h1
    simp only [wtS, Rows.uptoBulkAll]
    omega
theorem stp_str : Tryd.prog.underlying 78 = some (.struct (Tryd.prog.fieldsOf 78)) := by kernel_rfl
theorem stpF0 : (Tryd.prog.fieldsOf 78)[0]?.map (fun f => (f.type, f.offset)) = some (9, 0) := by kernel_rfl
theorem stpF1 : (Tryd.prog.fieldsOf 78)[1]?.map (fun f => (f.type, f.offset)) = some (31, 1) := by kernel_rfl
theorem stpF2 : (Tryd.prog.fieldsOf 78)[2]?.map (fun f => (f.type, f.offset)) = some (9, 2) := by kernel_rfl
theorem stpFs : (Tryd.prog.fieldsOf 78).size = 3 := by kernel_rfl
set_option maxRecDepth 100000 in
/-- one step's cells -/
theorem stp_trod {H : Type} {enc : TypeId × Value → H} {W : World} {fuel : Nat} {cs : List Value} {y : DataW H × List MemPlace} (h : DataW.trod enc Tryd.prog W 0 (fun _ => true) true fuel 78 cs = some y) :
    ∃ x : Sp, stpR W cs x ∧ bytesL x.1 ∧ bytesL x.2.2 ∧ (∀ n ∈ x.2.1, (Lit.int .u32 n).wf = true) ∧ x.1.length ≤ maxLen ∧ x.2.2.length ≤ maxLen ∧ x.1.length + x.2.1.length + x.2.2.length + 1 ≤ Rows.uptoBulk y.1 := by
  obtain ⟨xs, n, _, rfl, hl, hlen, hf⟩ := DataW.trod_struct stp_str h
  rw [show Tryd.prog.cellsOf 78 = 3 by kernel_rfl] at hl
  rw [stpFs] at hlen
  match cs, hl with
  | [c0, c1, c2], _ =>
    match xs, hlen with
    | [y0, y1, y2], _ =>
      obtain ⟨f0, g0, e0⟩ := Option.map_eq_some_iff.1 stpF0
      obtain ⟨f1, g1, e1⟩ := Option.map_eq_some_iff.1 stpF1
      obtain ⟨f2, g2, e2⟩ := Option.map_eq_some_iff.1 stpF2
      obtain ⟨a0, b0⟩ := Prod.mk.inj e0
      obtain ⟨a1, b1⟩ := Prod.mk.inj e1
      obtain ⟨a2, b2⟩ := Prod.mk.inj e2
      have h0 := hf 0 f0 g0
      have h1 := hf 1 f1 g1
      have h2 := hf 2 f2 g2
      rw [a0, b0, show Tryd.prog.cellsOf 9 = 1 by kernel_rfl] at h0
      rw [a1, b1, show Tryd.prog.cellsOf 31 = 1 by kernel_rfl] at h1
      rw [a2, b2, show Tryd.prog.cellsOf 9 = 1 by kernel_rfl] at h2
      simp at h0 h1 h2
      obtain ⟨k, k1, k2, k3⟩ := DataW.trod_string Tryd.underlying9 h0
      obtain ⟨p, p1, p2, p3⟩ := DataW.trod_string Tryd.underlying9 h2
      have g' : ∃ x l c, c1 = .slice x l c := by
        rcases DataW.trod_slice Tryd.underlying31 h1 with ⟨h0, _⟩ | ⟨x, l, c, _, _, _, _, h0, _⟩
        · simp at h0; exact ⟨none, 0, 0, h0⟩
        · simp at h0; exact ⟨some x, l, c, h0⟩
      obtain ⟨x, l, c, rfl⟩ := g'
      obtain ⟨u, hu, hw, hd⟩ := rd_open (k := .u32) (d := y1.1) (ps := y1.2) Tryd.underlying31 Tryd.underlying58 (by kernel_rfl) ⟨_, h1⟩
      simp at k1 p1
      subst k1 p1 k2 p2
      refine ⟨(LB k, u, LB p), ⟨_, by simp [nums_LB], hu⟩, LB_bytes k, LB_bytes p, hw, by rw [LB_len]; exact k3, by rw [LB_len]; exact p3, ?_⟩
      have e1 : k.data.toList.length = k.size := by simp
      have e2 : p.data.toList.length = p.size := by simp
      have e3 : u.length ≤ Rows.uptoBulk y1.1 := by
        rcases hd with rfl | ⟨ys, zs, hd, hle⟩
        · simp
        · rw [hd]
          exact Nat.le_trans hle (bk_slice ys zs)
      simp only [List.map_cons, List.map_nil, Rows.uptoBulk, Rows.uptoBulkAll, LB_len]
      omega
theorem stp_open {H : Type} {enc : TypeId × Value → H} {W : World} {a : Option Addr} {len cap : Nat} {d : DataW H} {ps : List MemPlace} (h : DataW.Trod enc Tryd.prog W 0 (fun _ => true) true 48 (.slice a len cap) d ps) :
    ∃ xs : List Sp, SlR 3 stpR W (.slice a len cap) xs ∧ (∀ x ∈ xs, bytesL x.1 ∧ bytesL x.2.2) ∧ (∀ x ∈ xs, cells x.2.1) ∧ (∀ x ∈ xs, x.1.length ≤ maxLen ∧ x.2.2.length ≤ maxLen) ∧ wtS xs ≤ Rows.uptoBulk d := by
  obtain ⟨fuel, hf⟩ := h
  obtain ⟨rows, h1, h2, h3⟩ := slc_open (e := 78) Tryd.underlying48 (show Tryd.prog.cellsOf 78 = 3 by kernel_rfl) (by omega) (show DataW.trod enc Tryd.prog W 0 (fun _ => true) true fuel 48 [.slice a len cap] = some (d, ps) from hf)
  rcases h3 with ⟨rfl, rfl⟩ | ⟨ds, zs, rfl, hl, h3⟩
  · exact ⟨[], ⟨[], h1, rfl, fun i hi => by simp at hi⟩, fun x hx => by simp at hx, fun x hx => by simp at hx, fun x hx => by simp at hx, by simp [wtS]⟩
  · obtain ⟨xs, hx1, hx2⟩ := choose_list (rows.zip ds) (fun (r : List Value × DataW H) (x : Sp) => stpR W r.1 x ∧ (bytesL x.1 ∧ bytesL x.2.2) ∧ (∀ n ∈ x.2.1, (Lit.int .u32 n).wf = true) ∧ (x.1.length ≤ maxLen ∧ x.2.2.length ≤ maxLen) ∧ x.1.length + x.2.1.length + x.2.2.length + 1 ≤ Rows.uptoBulk r.2) (fun r hr => by
      obtain ⟨i, hi, rfl⟩ := List.getElem_of_mem hr
      have hi2 : i < rows.length := by simp at hi; omega
      obtain ⟨n, y, g, g2⟩ := h3 i hi2
      rw [List.getD_eq_getElem?_getD, List.getElem?_eq_getElem hi2] at g
      rw [List.getElem?_eq_getElem (by omega)] at g2
      obtain ⟨x, k1, k2, k3, k4, k5, k6, k7⟩ := stp_trod g
      refine ⟨x, ?_, ⟨k2, k3⟩, k4, ⟨k5, k6⟩, ?_⟩
      · rw [List.getElem_zip]; exact k1
      · rw [List.getElem_zip]
        have := Option.some.inj g2
        rw [this]
        exact k7)
    have hzl : (rows.zip ds).length = rows.length := by simp [hl]
    refine ⟨xs, ⟨rows, h1, by omega, fun i hi => ?_⟩, fun x hx => ?_, fun x hx => ?_, fun x hx => ?_, ?_⟩
    · have := (hx2 i (by omega) hi).1
      rw [List.getElem_zip] at this
      rw [List.getD_eq_getElem?_getD, List.getElem?_eq_getElem (by omega)]
      exact this
    · obtain ⟨i, hi, rfl⟩ := List.getElem_of_mem hx
      exact (hx2 i (by omega) hi).2.1
    · obtain ⟨i, hi, rfl⟩ := List.getElem_of_mem hx
      exact fun n hn => wf7 ((hx2 i (by omega) hi).2.2.1 n hn)
    · obtain ⟨i, hi, rfl⟩ := List.getElem_of_mem hx
      exact (hx2 i (by omega) hi).2.2.2.1
    · have := wtS_bulk xs ds (by omega) (fun i hi hg => by
        have := (hx2 i (by omega) hi).2.2.2.2
        rw [List.getElem_zip] at this
        exact this)
      simp only [Rows.uptoBulk]
      omega

/-
  What the statements of layer 7 want of paths. No Go text in sight.
-/
theorem par_bytes (X : List Int) (hb : bytesL X) : ∀ x ∈ (parF X).1, bytesL x.1 ∧ bytesL x.2.2 := by
  intro x hx
  by_cases h : (parF X).2 = 0
  · obtain ⟨_, _, h1, h2⟩ := (par_ok X hb h).1 x hx
    exact ⟨h1, h2⟩
  · rw [par_err X h] at hx
    simp at hx
theorem shoF_len (l : List Int) (h : cells l) : (shoF l).length ≤ 9 * l.length := by
  have := shoT_len l h
  unfold shoF
  rw [List.length_drop]
  omega
theorem shp_wt (l : List Sp) (hc : ∀ x ∈ l, cells x.2.1) : (shpT l).length ≤ 10 * wtS l := by
  induction l with
  | nil => simp [shpT, wtS]
  | cons x l ih =>
    have h1 := ih (fun y hy => hc y (by simp [hy]))
    have h2 := shoF_len x.2.1 (hc x (by simp))
    have h3 : (bodT x).length ≤ x.1.length + (1 + 9 * x.2.1.length) + (1 + x.2.2.length) := by
      unfold bodT
      simp only [List.length_append]
      split <;> split <;> simp <;> omega
    simp only [shpT, wtS, List.length_cons, List.length_append]
    omega
/-- what is shown is parsed as the same steps -/
theorem shp_back (l : List Sp) (hc : ∀ x ∈ l, cells x.2.1) (h : (shpF l).2 = 0) : parF (shpF l).1 = (l, 0) := by
  unfold shpF at h ⊢
  split at h
  · simp at h
  · rename_i h1
    split at h
    · rename_i h2
      rw [if_neg h1, if_pos h2, h2]
      rfl
    · rename_i h2
      split at h
      · simp at h
      · rename_i h3
        rw [if_neg h1, if_neg h2, if_neg h3]
        exact par_back l (by simpa using h1) hc (by omega) h2
theorem shp_err (l : List Sp) : (shpF l).2 = 0 ∨ (shpF l).1 = [] ∧ ((shpF l).2 = 1 ∨ (shpF l).2 = 3) := by
  unfold shpF
  split
  · right; simp
  · split
    · left; rfl
    · split
      · right; simp
      · left; rfl
theorem shp_bytes (l : List Sp) (hb : ∀ x ∈ l, bytesL x.1 ∧ bytesL x.2.2) (hc : ∀ x ∈ l, cells x.2.1) : bytesL (shpF l).1 := by
  have key : ∀ l : List Sp, (∀ x ∈ l, bytesL x.1 ∧ bytesL x.2.2) → (∀ x ∈ l, cells x.2.1) → bytesL (shpT l) := by
    intro l
    induction l with
    | nil => intro _ _ x hx; simp [shpT] at hx
    | cons y l ih =>
      intro hb hc x hx
      have h1 := hb y (by simp)
      simp only [shpT, List.mem_cons, List.mem_append, bodT] at hx
      rcases hx with rfl | (hx | hx | hx) | hx
      · omega
      · exact h1.1 x hx
      · split at hx
        · simp at hx
        · simp only [List.mem_cons] at hx
          rcases hx with rfl | hx
          · omega
          · exact shoF_bytes y.2.1 (hc y (by simp)) x hx
      · split at hx
        · simp at hx
        · simp only [List.mem_cons] at hx
          rcases hx with rfl | hx
          · omega
          · exact h1.2 x hx
      · exact ih (fun z hz => hb z (by simp [hz])) (fun z hz => hc z (by simp [hz])) x hx
  unfold shpF
  split
  · intro x hx; simp at hx
  · split
    · intro x hx; simp at hx; omega
    · split
      · intro x hx; simp at hx
      · exact key l hb hc
/-- what is parsed is shown in no more bytes -/
theorem par_shp (X : List Int) (hb : bytesL X) (h : (parF X).2 = 0) : (shpF (parF X).1).2 = 0 ∧ (shpF (parF X).1).1.length ≤ X.length := by
  obtain ⟨h1, h2, h3, h4⟩ := par_ok X hb h
  have hall : ¬ (parF X).1.all okS = false := by
    have : (parF X).1.all okS = true := by
      rw [List.all_eq_true]
      intro x hx
      exact (h1 x hx).1
    rw [this]
    decide
  unfold shpF
  rw [if_neg hall]
  split
  · rename_i h5
    rw [h4 h5]
    simp
  · rw [if_neg (by omega)]
    exact ⟨rfl, h2⟩

/-
  SameNode and Same of the document's answer for trees.
-/
/-- two devices, two trees are one -/
def decN (x y : Nd) : Decidable (x = y) := @instDecidableEqProd _ _ _ (@instDecidableEqProd _ _ _ inferInstance) x y
def eqN (x y : Nd) : Bool := @decide (x = y) (decN x y)
theorem eqN_of {x y : Nd} (h : x = y) : eqN x y = true := @decide_eq_true _ (decN x y) h
theorem eqN_not {x y : Nd} (h : ¬ x = y) : eqN x y = false := @decide_eq_false _ (decN x y) h
def decT (a b : List Nd) : Decidable (a = b) := letI := decN; inferInstance
def eqT (a b : List Nd) : Bool := @decide (a = b) (decT a b)
theorem eqT_of {a b : List Nd} (h : a = b) : eqT a b = true := @decide_eq_true _ (decT a b) h
theorem eqT_not {a b : List Nd} (h : ¬ a = b) : eqT a b = false := @decide_eq_false _ (decT a b) h
theorem two_boxes (w : World) (a b : Array Value) (T : TypeId) : Stands ((w.alloc (.cells a T)).alloc (.cells b T)) w.heap.size a T ∧ Stands ((w.alloc (.cells a T)).alloc (.cells b T)) (w.heap.size + 1) b T ∧ Below w.heap.size w ((w.alloc (.cells a T)).alloc (.cells b T)) := by
  refine ⟨(stands_new w a T).below (box_below _ _), ?_, below_trans (box_below w _) (box_below _ _)⟩
  have := stands_new (w.alloc (.cells a T)) b T
  rwa [size_al] at this
theorem str_eq8 (A B : ByteArray) (a b : List Int) (ha : bytesL a) (hb : bytesL b) (h1 : strOfNums a = A) (h2 : strOfNums b = B) : (A.toList == B.toList) = decide (a = b) := by
  rw [str_beq, ← h1, ← h2]
  simp only [nums_eq a b ha hb]
theorem nd_ext (x y : Nd) (h1 : x.1 = y.1) (h2 : x.2.1 = y.2.1) (h3 : x.2.2.1 = y.2.2.1) (h4 : x.2.2.2.1 = y.2.2.2.1) (h5 : x.2.2.2.2 = y.2.2.2.2) : x = y := Prod.ext h1 (Prod.ext h2 (Prod.ext h3 (Prod.ext h4 h5)))

set_option maxHeartbeats 4000000 in
set_option maxRecDepth 100000 in
theorem w_r8node (x y : Nd) (n1 n2 : ByteArray) (u1 p1 c1 u2 p2 c2 : Value) (w : World) (e1 : strOfNums x.1 = n1) (e2 : strOfNums y.1 = n2) (hu1 : Rd .u32 w u1 x.2.1) (hu2 : Rd .u32 w u2 y.2.1) (hp1 : SlR 2 propR w p1 x.2.2.2.1) (hp2 : SlR 2 propR w p2 y.2.2.2.1) (hc1 : Rd .u32 w c1 x.2.2.2.2) (hc2 : Rd .u32 w c2 y.2.2.2.2) (bx : bytN x) (by' : bytN y) :
    Calls Tryd.prog 35 #[.agg #[.string n1, u1, .int .i64 x.2.2.1, p1, c1], .agg #[.string n2, u2, .int .i64 y.2.2.1, p2, c2]] w fun e w' => e = .returned (.bool (eqN x y)) ∧ Below w.heap.size w w' := by
  obtain ⟨a1, q1, rfl⟩ := rd_slice hu1
  obtain ⟨a2, q2, rfl⟩ := rd_slice hu2
  obtain ⟨a3, q3, rfl⟩ := rd_slice hc1
  obtain ⟨a4, q4, rfl⟩ := rd_slice hc2
  obtain ⟨a5, q5, rfl⟩ := slr_slice hp1
  obtain ⟨a6, q6, rfl⟩ := slr_slice hp2
  obtain ⟨X, hX⟩ : ∃ X, x.2.2.1 = X := ⟨_, rfl⟩
  obtain ⟨Y, hY⟩ : ∃ Y, y.2.2.1 = Y := ⟨_, rfl⟩
  rw [hX, hY]
  obtain ⟨s1, s2, bw⟩ := two_boxes w #[.string n1, .slice a1 x.2.1.length q1, .int .i64 X, .slice a5 x.2.2.2.1.length q5, .slice a3 x.2.2.2.2.length q3] #[.string n2, .slice a2 y.2.1.length q2, .int .i64 Y, .slice a6 y.2.2.2.1.length q6, .slice a4 y.2.2.2.2.length q4] 56
  have x0 := s1.cell 0 _ rfl
  have x1 := s1.cell 1 _ rfl
  have x2 := s1.cell 2 _ rfl
  have x3 := s1.cell 3 _ rfl
  have x4 := s1.cell 4 _ rfl
  have y0 := s2.cell 0 _ rfl
  have y1 := s2.cell 1 _ rfl
  have y2 := s2.cell 2 _ rfl
  have y3 := s2.cell 3 _ rfl
  have y4 := s2.cell 4 _ rfl
  have hN := str_eq8 n1 n2 _ _ bx.1 by'.1 e1 e2
  have hf : ¬ x = y → Hid (eqN x y = false) := fun h => eqN_not h
  have cu := w_r3sameQ _ _ _ _ _ (hu1.below bw) (hu2.below bw)
  by_cases h1 : x.1 = y.1
  · rw [decide_eq_true h1] at hN
    have hN2 : (n1.toList != n2.toList) = false := by simp [bne, hN]
    by_cases h2 : x.2.2.1 = y.2.2.1
    · have hP : (X != Y) = false := by rw [← hX, ← hY, h2]; simp
      by_cases h3 : x.2.1 = y.2.1
      · rw [decide_eq_true h3] at cu
        have cc := fun W (g : Below w.heap.size w W) => w_r3sameQ _ _ _ _ W (hc1.below g) (hc2.below g)
        by_cases h4 : x.2.2.2.2 = y.2.2.2.2
        · simp only [decide_eq_true h4] at cc
          by_cases h5 : x.2.2.2.1.length = y.2.2.2.1.length
          · have hl : ((x.2.2.2.1.length : Int) != (y.2.2.2.1.length : Int)) = false := by simp [h5]
            have hf3 : ¬ x.2.2.2.1 = y.2.2.2.1 → Hid (eqN x y = false) := fun h => eqN_not (fun g => h (by rw [g]))
            have ht3 : x.2.2.2.1 = y.2.2.2.1 → Hid (eqN x y = true) := fun h => eqN_of (nd_ext x y h1 h3 h2 h h4)
            have HL := hid h5
            have hm1 := slr_max hp1
            unfold maxLen at hm1
            have Hf3 := hid hf3
            have Ht3 := hid ht3
            clear hf h1 h2 h3 h4 h5 e1 e2 hX hY hf3 ht3
            go_enter Tryd.func35, Tryd.ntmps35
            go_wp2_with (first | (go_at_call_of 58 (Value.slice a1 x.2.1.length q1); refine cu.mono ?_; rintro e r1 ⟨rfl, d1⟩; have bw1 := below_trans bw (dr_below d1); have s1' := s1.below (dr_below d1); have s2' := s2.below (dr_below d1); have x3' := s1'.cell 3 _ rfl; have x4' := s1'.cell 4 _ rfl; have y3' := s2'.cell 3 _ rfl; have y4' := s2'.cell 4 _ rfl) | (go_at_call_of 58 (Value.slice a3 x.2.2.2.2.length q3); refine (cc _ bw1).mono ?_; rintro e r2 ⟨rfl, d2⟩; have bw2 := below_trans bw1 (dr_below d2); have s1'' := s1'.below (dr_below d2); have s2'' := s2'.below (dr_below d2); have z3 := s1''.cell 3 _ rfl; have w3 := s2''.cell 3 _ rfl))
            go_loopw [5] (fun I wx => ∃ k : Nat, (k : Int) ≤ x.2.2.2.1.length ∧ I = .int .i64 k ∧ Hid (x.2.2.2.1.take k = y.2.2.2.1.take k) ∧ Below r2.heap.size r2 wx) (fun I _ => (x.2.2.2.1.length - intOf I).toNat)
            case atStart => exact ⟨0, by omega, rfl, hid (by simp), Below.refl _ _⟩
            case round =>
              obtain ⟨k, hk, rfl, ht, hg⟩ := hrel
              have bwk := below_trans bw2 hg
              have t1 := s1''.below hg
              have t2 := s2''.below hg
              have m3 := t1.cell 3 _ rfl
              have m3' := t2.cell 3 _ rfl
              by_cases hlt : (k : Int) < x.2.2.2.1.length
              · have hka : k < x.2.2.2.1.length := by omega
                have hkb : k < y.2.2.2.1.length := by have := HL.out; omega
                obtain ⟨b1, o1, N1, D1, i1, f0, f1, g0, g1⟩ := prp_at8 (hp1.below bwk (propR_below bwk)) k hka
                obtain ⟨b2, o2, N2, D2, i2, j0, j1, l0, l1⟩ := prp_at8 (hp2.below bwk (propR_below bwk)) k hkb
                obtain ⟨d1', dq1, rfl⟩ := rd_slice g1
                obtain ⟨d2', dq2, rfl⟩ := rd_slice l1
                have hN9 := str_eq8 N1 N2 _ _ (bx.2 _ (List.getElem_mem hka)).1 (by'.2 _ (List.getElem_mem hkb)).1 g0 l0
                have cd := fun W (g : Below wr.heap.size wr W) => w_rsame _ _ _ _ W (g1.below g) (l1.below g) (bx.2 _ (List.getElem_mem hka)).2 (by'.2 _ (List.getElem_mem hkb)).2
                by_cases e1 : x.2.2.2.1[k].1 = y.2.2.2.1[k].1
                · rw [decide_eq_true e1] at hN9
                  have hN8 : (N1.toList != N2.toList) = false := by simp [bne, hN9]
                  by_cases e2 : x.2.2.2.1[k].2 = y.2.2.2.1[k].2
                  · have ht2 : Hid (x.2.2.2.1.take (k + 1) = y.2.2.2.1.take (k + 1)) := by
                      show _ = _
                      rw [List.take_succ_eq_append_getElem hka, List.take_succ_eq_append_getElem hkb, ht.out]
                      congr 2
                      exact Prod.ext e1 e2
                    simp only [decide_eq_true e2] at cd
                    clear e1 e2 g0 l0
                    go_wp2_with fail
                    go_quiet (first | (go_at_call 27; exact Calls.quiet_of_same (cd _ (below_drewN (Below.refl _ _) _))))
                    go_wp2_with fail
                    go_roundw
                    case rel => exact ⟨k + 1, by omega, by go_num, ht2, below_drewN hg _⟩
                    case measure => simp [intOf]; omega
                  · have hf4 := Hf3.out (fun h => e2 (by simp only [h]))
                    simp only [decide_eq_false e2] at cd
                    clear e1 e2 g0 l0
                    go_wp2_with fail
                    go_quiet (first | (go_at_call 27; exact Calls.quiet_of_same (cd _ (below_drewN (Below.refl _ _) _))))
                    go_wp2_with fail
                    go_ret
                    exact ⟨ret_b hf4.out.symm, below_drewN bwk _⟩
                · rw [decide_eq_false e1] at hN9
                  have hN8 : (N1.toList != N2.toList) = true := by simp [bne, hN9]
                  have hf4 := Hf3.out (fun h => e1 (by simp only [h]))
                  clear e1 g0 l0 cd
                  go_wp2_with fail
                  go_quiet (fail)
                  go_wp2_with fail
                  go_ret
                  exact ⟨ret_b hf4.out.symm, below_drewN bwk _⟩
              · have hf4 := Ht3.out (by
                  have := ht.out
                  rwa [List.take_of_length_le (by omega), List.take_of_length_le (by have := HL.out; omega)] at this)
                go_wp2_with fail
                go_ret
                exact ⟨ret_b hf4.out.symm, bwk⟩
          · have hl : ((x.2.2.2.1.length : Int) != (y.2.2.2.1.length : Int)) = true := by simp; omega
            have hf2 := hf (fun h => h5 (by rw [h]))
            clear hf h1 h2 h3 h4 h5 e1 e2 hX hY
            go_enter Tryd.func35, Tryd.ntmps35
            go_wp2_with (first | (go_at_call_of 58 (Value.slice a1 x.2.1.length q1); refine cu.mono ?_; rintro e r1 ⟨rfl, d1⟩; have bw1 := below_trans bw (dr_below d1); have s1' := s1.below (dr_below d1); have s2' := s2.below (dr_below d1); have x3' := s1'.cell 3 _ rfl; have x4' := s1'.cell 4 _ rfl; have y3' := s2'.cell 3 _ rfl; have y4' := s2'.cell 4 _ rfl) | (go_at_call_of 58 (Value.slice a3 x.2.2.2.2.length q3); refine (cc _ bw1).mono ?_; rintro e r2 ⟨rfl, d2⟩; have bw2 := below_trans bw1 (dr_below d2); have s1'' := s1'.below (dr_below d2); have s2'' := s2'.below (dr_below d2); have z3 := s1''.cell 3 _ rfl; have w3 := s2''.cell 3 _ rfl))
            go_ret
            exact ⟨ret_b hf2.out.symm, bw2⟩
        · have hf2 := hf (fun h => h4 (by rw [h]))
          simp only [decide_eq_false h4] at cc
          clear hf h1 h2 h3 h4 e1 e2 hX hY
          go_enter Tryd.func35, Tryd.ntmps35
          go_wp2_with (first | (go_at_call_of 58 (Value.slice a1 x.2.1.length q1); refine cu.mono ?_; rintro e r1 ⟨rfl, d1⟩; have bw1 := below_trans bw (dr_below d1); have s1' := s1.below (dr_below d1); have s2' := s2.below (dr_below d1); have x3' := s1'.cell 3 _ rfl; have x4' := s1'.cell 4 _ rfl; have y3' := s2'.cell 3 _ rfl; have y4' := s2'.cell 4 _ rfl) | (go_at_call_of 58 (Value.slice a3 x.2.2.2.2.length q3); refine (cc _ bw1).mono ?_; rintro e r2 ⟨rfl, d2⟩; have bw2 := below_trans bw1 (dr_below d2); have s1'' := s1'.below (dr_below d2); have s2'' := s2'.below (dr_below d2); have z3 := s1''.cell 3 _ rfl; have w3 := s2''.cell 3 _ rfl))
          go_ret
          exact ⟨ret_b hf2.out.symm, bw2⟩
      · have hf2 := hf (fun h => h3 (by rw [h]))
        rw [decide_eq_false h3] at cu
        clear hf h1 h2 h3 e1 e2 hX hY
        go_enter Tryd.func35, Tryd.ntmps35
        go_wp2_with (go_at_call 58; refine cu.mono ?_; rintro e r1 ⟨rfl, d1⟩)
        go_ret
        exact ⟨ret_b hf2.out.symm, below_trans bw (dr_below d1)⟩
    · have hP : (X != Y) = true := by rw [← hX, ← hY]; simpa using h2
      have hf2 := hf (fun h => h2 (by rw [h]))
      clear hf h1 h2 e1 e2 cu hX hY
      go_enter Tryd.func35, Tryd.ntmps35
      go_wp2_with fail
      go_ret
      exact ⟨ret_b hf2.out.symm, bw⟩
  · rw [decide_eq_false h1] at hN
    have hN2 : (n1.toList != n2.toList) = true := by simp [bne, hN]
    have hf2 := hf (fun h => h1 (by rw [h]))
    clear hf h1 e1 e2 cu hX hY
    go_enter Tryd.func35, Tryd.ntmps35
    go_wp2_with fail
    go_ret
    exact ⟨ret_b hf2.out.symm, bw⟩

/-
  Same, find and twin of the document's answer for trees.
-/
set_option maxHeartbeats 2000000 in
set_option maxRecDepth 100000 in
theorem w_r8same (va vb : Value) (xs ys : List Nd) (w : World) (ha : RdT w va xs) (hb : RdT w vb ys) (bx : ∀ x ∈ xs, bytN x) (by' : ∀ x ∈ ys, bytN x) :
    Calls Tryd.prog 12 #[va, vb] w fun e w' => e = .returned (.bool (eqT xs ys)) ∧ Below w.heap.size w w' := by
  have hla := slr_len ha uN (P := Tryd.prog)
  have hlb := slr_len hb uN (P := Tryd.prog)
  have hma := slr_max ha
  have hmb := slr_max hb
  unfold maxLen at hma hmb
  by_cases hl : xs.length = ys.length
  · have hn : ((xs.length : Int) != (ys.length : Int)) = false := by simp [hl]
    have Hl := hid hl
    clear hl
    go_enter Tryd.func12, Tryd.ntmps12
    go_wp2_with fail
    go_loopw [5] (fun i wx => ∃ k : Nat, (k : Int) ≤ xs.length ∧ i = .int .i64 k ∧ Hid (xs.take k = ys.take k) ∧ Below w.heap.size w wx) (fun i _ => (xs.length - intOf i).toNat)
    case atStart => exact ⟨0, by omega, rfl, hid (by simp), Below.refl _ _⟩
    case round =>
      obtain ⟨j, hj, rfl, ht, hg⟩ := hrel
      by_cases hlt : (j : Int) < xs.length
      · have hka : j < xs.length := by omega
        have hkb : j < ys.length := by have := Hl.out; omega
        obtain ⟨b1, o1, N1, u1, p1, c1, r1, f0, f1, f2, f3, f4, e1, hu1, hp1, hc1⟩ := nod_at (ha.below hg) j hka
        obtain ⟨b2, o2, N2, u2, p2, c2, r2, g0, g1, g2, g3, g4, e2, hu2, hp2, hc2⟩ := nod_at (hb.below hg) j hkb
        have cs := fun W (g : Below wr.heap.size wr W) => w_r8node xs[j] ys[j] N1 N2 u1 p1 c1 u2 p2 c2 W e1 e2 (hu1.below g) (hu2.below g) (hp1.below g (propR_below g)) (hp2.below g (propR_below g)) (hc1.below g) (hc2.below g) (bx _ (List.getElem_mem hka)) (by' _ (List.getElem_mem hkb))
        obtain ⟨X, hX⟩ : ∃ X, xs[j].2.2.1 = X := ⟨_, rfl⟩
        obtain ⟨Y, hY⟩ : ∃ Y, ys[j].2.2.1 = Y := ⟨_, rfl⟩
        rw [hX] at f2
        rw [hY] at g2
        simp only [hX, hY] at cs
        by_cases hxy : xs[j] = ys[j]
        · have ht2 : Hid (xs.take (j + 1) = ys.take (j + 1)) := by
            show _ = _
            rw [List.take_succ_eq_append_getElem hka, List.take_succ_eq_append_getElem hkb, ht.out, hxy]
          simp only [eqN_of hxy] at cs
          clear hxy e1 e2 hX hY
          go_wp2_with fail
          go_region_with (go_at_call 35; refine (cs _ (below_drewN (Below.refl _ _) 1)).mono ?_; rintro e q1 ⟨rfl, b1⟩; have bb := below_trans (show Below w.heap.size w wr.drew from below_drewN hg 1) b1)
          all_goals (
            go_wp2_with fail
            go_roundw
            case rel => exact ⟨j + 1, by omega, by go_num, ht2, by first | exact bb | exact below_drewN bb _⟩
            case measure => simp [intOf]; omega)
        · have hf : Hid (eqT xs ys = false) := by
            show _ = _
            apply eqT_not
            intro h
            subst h
            exact hxy rfl
          simp only [eqN_not hxy] at cs
          clear hxy e1 e2 hX hY
          go_wp2_with fail
          go_region_with (go_at_call 35; refine (cs _ (below_drewN (Below.refl _ _) 1)).mono ?_; rintro e q1 ⟨rfl, b1⟩; have bb := below_trans (show Below w.heap.size w wr.drew from below_drewN hg 1) b1)
          all_goals (
            go_wp2_with fail
            go_ret
            exact ⟨ret_b hf.out.symm, by first | exact bb | exact below_drewN bb _⟩)
      · have hf : Hid (eqT xs ys = true) := by
          show _ = _
          apply eqT_of
          have := ht.out
          rwa [List.take_of_length_le (by omega), List.take_of_length_le (by have := Hl.out; omega)] at this
        go_wp2_with fail
        go_ret
        exact ⟨ret_b hf.out.symm, hg⟩
  · have hf : Hid (eqT xs ys = false) := eqT_not (fun h => hl (by rw [h]))
    have hn : ((xs.length : Int) != (ys.length : Int)) = true := by simp; omega
    clear hl
    go_enter Tryd.func12, Tryd.ntmps12
    go_wp2_with fail
    go_ret
    exact ⟨ret_b hf.out.symm, Below.refl _ _⟩

/-- the number of a property, or -1 -/
def fdI (o : Option Nat) : Int := match o with
  | none => -1
  | some k => (k : Nat)

set_option maxHeartbeats 1000000 in
theorem w_r8find (v : Value) (l : List Pp) (s : ByteArray) (w : World) (h : SlR 2 propR w v l) (bl : ∀ x ∈ l, bytesL x.1) :
    Calls Tryd.prog 41 #[v, .string s] w fun e w' => e = .returned (.int .i64 (fdI (pfF l (L s)))) ∧ w' = w := by
  have hl := slr_len h uR (P := Tryd.prog)
  have hm := slr_max h
  unfold maxLen at hm
  obtain ⟨R, hR⟩ : ∃ R, fdI (pfF l (L s)) = R := ⟨_, rfl⟩
  rw [hR]
  have HR := hid hR
  clear hR
  go_enter Tryd.func41, Tryd.ntmps41
  go_wp2_with fail
  go_loop [5] (fun I => ∃ k : Nat, (k : Int) ≤ l.length ∧ I = .int .i64 k ∧ Hid (∀ j (hj : j < k) (g : j < l.length), ¬ l[j].1 = L s)) (fun I => (l.length - intOf I).toNat)
  case atStart => exact ⟨0, by omega, rfl, hid (fun j hj => by omega)⟩
  case round =>
    obtain ⟨k, hk, rfl, hp⟩ := hrel
    by_cases hlt : (k : Int) < l.length
    · have hkl : k < l.length := by omega
      obtain ⟨b, o, nm, vd, r, f0, f1, e0, _⟩ := prp_at8 h k hkl
      have hq := str_eq8 nm s _ (L s) (bl _ (List.getElem_mem hkl)) (LB_bytes s) e0 (nums_LB s)
      by_cases hx : l[k].1 = L s
      · have hf : Hid (R = k) := by
          show _ = _
          rw [← HR.out, pf_hit hkl hx (fun j hj => hp.out j hj (by omega))]
          rfl
        rw [decide_eq_true hx] at hq
        clear hx e0
        go_wp2_with fail
        go_ret
        rw [hf.out]
        exact ⟨rfl, rfl⟩
      · rw [decide_eq_false hx] at hq
        have hp2 : Hid (∀ j (hj : j < k + 1) (g : j < l.length), ¬ l[j].1 = L s) := by
          show ∀ j _ _, _
          intro j hj g
          by_cases hjk : j < k
          · exact hp.out j hjk g
          · have : j = k := by omega
            subst this
            exact hx
        clear hx e0
        go_wp2_with fail
        exact ⟨⟨k + 1, by omega, by go_num, hp2⟩, by simp [intOf]; omega⟩
    · have hf : Hid (R = -1) := by
        show _ = _
        have : pfF l (L s) = none := by
          rw [pf_none]
          intro x hx
          obtain ⟨j, hj, rfl⟩ := List.getElem_of_mem hx
          exact hp.out j (by omega) hj
        rw [← HR.out, this]
        rfl
      go_wp2_with fail
      go_ret
      rw [hf.out]
      exact ⟨rfl, rfl⟩

set_option maxHeartbeats 2000000 in
set_option maxRecDepth 100000 in
theorem w_r8twin (v : Value) (t : List Nd) (c : Nat) (p : Int) (s : ByteArray) (vu : Value) (un : List Int) (w : World) (h : RdT w v t) (hu : Rd .u32 w vu un) (bt : ∀ x ∈ t, bytN x) (hc : c ≤ t.length) :
    Calls Tryd.prog 40 #[v, .int .i64 c, .int .i64 p, .string s, vu] w fun e w' => e = .returned (.bool (twF (t.take c) p (L s) un)) ∧ Dr w w' := by
  have hm := slr_max h
  unfold maxLen at hm
  obtain ⟨R, hR⟩ : ∃ R, twF (t.take c) p (L s) un = R := ⟨_, rfl⟩
  rw [hR]
  have HR := hid hR
  clear hR
  go_enter Tryd.func40, Tryd.ntmps40
  go_wp2_with fail
  go_loopw [11] (fun I wx => ∃ k : Nat, (k : Int) ≤ c ∧ I = .int .i64 k ∧ Hid (twF (t.take k) p (L s) un = false) ∧ Dr w wx) (fun I _ => (c - intOf I).toNat)
  case atStart => exact ⟨0, by omega, rfl, hid rfl, dr_refl _⟩
  case round =>
    obtain ⟨k, hk, rfl, hp, hg⟩ := hrel
    by_cases hlt : (k : Int) < c
    · have hkl : k < t.length := by omega
      obtain ⟨b1, o1, N1, u1, p1, c1, r1, f0, f1, f2, f3, f4, e1, hu1, hp1, hc1⟩ := nod_at (h.below (dr_below hg)) k hkl
      obtain ⟨ua, uq, rfl⟩ := rd_slice hu1
      have hq := str_eq8 N1 s _ (L s) (bt _ (List.getElem_mem hkl)).1 (LB_bytes s) e1 (nums_LB s)
      have cu := w_r3sameQ _ _ _ _ wr hu1 (hu.below (dr_below hg))
      have hsn : twF (t.take (k + 1)) p (L s) un = (twF (t.take k) p (L s) un || (decide (t[k].2.2.1 = p) && (decide (t[k].1 = L s) && decide (t[k].2.1 = un)))) := by
        rw [List.take_succ_eq_append_getElem hkl]
        unfold twF
        rw [List.any_append]
        simp
      have yes : (t[k].2.2.1 = p ∧ t[k].1 = L s ∧ t[k].2.1 = un) → Hid (R = true) := by
        rintro ⟨g1, g2, g3⟩
        show _ = _
        rw [← HR.out]
        unfold twF
        rw [List.any_eq_true]
        exact ⟨t[k], by rw [List.mem_take_iff_getElem]; exact ⟨k, by omega, rfl⟩, by simp [g1, g2, g3]⟩
      have no : ¬ (t[k].2.2.1 = p ∧ t[k].1 = L s ∧ t[k].2.1 = un) → Hid (twF (t.take (k + 1)) p (L s) un = false) := by
        intro g
        show _ = _
        rw [hsn, hp.out, Bool.false_or, Bool.eq_false_iff]
        intro hh
        simp only [Bool.and_eq_true, decide_eq_true_eq] at hh
        exact g hh
      obtain ⟨X, hX⟩ : ∃ X, t[k].2.2.1 = X := ⟨_, rfl⟩
      rw [hX] at f2
      by_cases h1 : t[k].2.2.1 = p
      · have q1 : (X == p) = true := by rw [← hX]; simpa using h1
        by_cases h2 : t[k].1 = L s
        · rw [decide_eq_true h2] at hq
          by_cases h3 : t[k].2.1 = un
          · rw [decide_eq_true h3] at cu
            have hf := yes ⟨h1, h2, h3⟩
            clear h1 h2 h3 yes no hsn e1 hX
            go_wp2_with (go_at_call 58; refine cu.mono ?_; rintro e r9 ⟨rfl, d9⟩)
            go_ret
            obtain ⟨m, rfl⟩ := d9
            exact ⟨ret_b hf.out.symm, dr_more hg m⟩
          · rw [decide_eq_false h3] at cu
            have hf := no (fun g => h3 g.2.2)
            clear h1 h2 h3 yes no hsn e1 hX
            go_wp2_with (go_at_call 58; refine cu.mono ?_; rintro e r9 ⟨rfl, d9⟩)
            obtain ⟨m, rfl⟩ := d9
            go_roundw
            case rel => exact ⟨k + 1, by omega, by go_num, hf, dr_more hg m⟩
            case measure => simp [intOf]; omega
        · rw [decide_eq_false h2] at hq
          have hf := no (fun g => h2 g.2.1)
          clear h1 h2 yes no hsn e1 hX cu
          go_wp2_with fail
          go_roundw
          case rel => exact ⟨k + 1, by omega, by go_num, hf, hg⟩
          case measure => simp [intOf]; omega
      · have q1 : (X == p) = false := by rw [← hX]; simpa using h1
        have hf := no (fun g => h1 g.1)
        clear h1 yes no hsn e1 hX cu
        go_wp2_with fail
        go_roundw
        case rel => exact ⟨k + 1, by omega, by go_num, hf, hg⟩
        case measure => simp [intOf]; omega
    · have hf : Hid (R = false) := by
        show _ = _
        rw [← HR.out, ← hp.out, show k = c by omega]
      go_wp2_with fail
      go_ret
      exact ⟨ret_b hf.out.symm, hg⟩

/-
  Slices of rows appended to rows of the call's own. No Go text in sight.
-/
theorem flat_get {α : Type} : ∀ (rows : List (List α)) (sz i j : Nat), (∀ r ∈ rows, r.length = sz) → i < rows.length → j < sz → rows.flatten[i * sz + j]? = (rows.getD i [])[j]?
  | [], sz, i, j, _, hi, _ => by simp at hi
  | r :: rows, sz, 0, j, h, hi, hj => by
    have hr := h r (by simp)
    simp only [List.flatten_cons, Nat.zero_mul, Nat.zero_add, List.getD_cons_zero]
    rw [List.getElem?_append_left (by omega)]
  | r :: rows, sz, i + 1, j, h, hi, hj => by
    have hr := h r (by simp)
    have ih := flat_get rows sz i j (fun x hx => h x (by simp [hx])) (by simpa using hi) hj
    simp only [List.flatten_cons, List.getD_cons_succ]
    rw [List.getElem?_append_right (by rw [hr, Nat.add_mul]; omega), hr, show (i + 1) * sz + j - sz = i * sz + j by rw [Nat.add_mul]; omega, ih]
theorem flat_len {α : Type} (rows : List (List α)) (sz : Nat) (h : ∀ r ∈ rows, r.length = sz) : rows.flatten.length = rows.length * sz := by
  induction rows with
  | nil => simp
  | cons r rows ih =>
    rw [List.flatten_cons, List.length_append, ih (fun x hx => h x (by simp [hx])), h r (by simp), List.length_cons, Nat.add_mul]
    omega
/-- append of a slice of rows onto a row of the call's own -/
theorem wp_append_rows {P : Program} {w : World} {o : Oper} {a : Act} {K : Act → World → Prop} {Q : Exit → Act → World → Prop} (s x : Operand) (t : TypeId)
    (ho : o.op = .call { callee := .builtin .append, args := #[s, x], argTypes := #[t, t] })
    (base : Nat) (e : TypeId) (i : TypeInfo) (z : Value) (sz bytes : Nat) (ht : P.underlying t = some (.slice e)) (hi : P.info? e = some i) (hz : i.zero = some z) (hsize : i.size = sz) (hby : i.bytes = bytes) (hzs : z.cells.size = sz) (hsz : 0 < sz)
    (v : Value) (n : Nat) (cs : List Value) (hs : a.eval s = v) (hown : w.ownsRow base e sz v n cs)
    (vx : Value) (rows : List (List Value)) (hx : a.eval x = vx) (hr : SlC sz w vx rows) (h1 : ∀ r ∈ rows, ∀ u ∈ r, u.oneCell' = true)
    (h63 : n + rows.length ≤ maxLen) (hbytes : (n + rows.length) * bytes ≤ 140737488355328) (hbase : base ≤ w.heap.size)
    (h : ∀ v' w', w'.ownsRow base e sz v' (n + rows.length) (cs ++ rows.flatten) → w.grownBy w' v.ownBlock → K (a.put o.dst v') w') : o.wp P a w K Q := by
  rcases hr with ⟨ao, cap, rfl, hn, rfl⟩ | ⟨b, off, cap, rfl, h0, hc1, hc2, hc⟩
  · cases ao with
    | none =>
      obtain rfl := hn rfl
      have hrun := run_append_owned_none (P := P) (w := w) base t o.type e i sz ht hi v n cs hown
      unfold Oper.wp
      simp [execOp, ho, resolve, invoke, builtin, hs, hx, hrun, Result.andThen]
      exact h v w (by simpa using hown) ⟨rfl, rfl, rfl, Nat.le_refl _, fun _ _ _ => rfl⟩
    | some ad =>
      refine wp_append_own w s x t ho base e i z sz bytes ht hi hz hsize hby hzs hsz v n _ hs hown ad 0 cap [] hx (by simp) (by simp) (by simp) (by simpa using h63) (by simpa using hbytes) hbase ?_
      intro v' w' h2 h3 _
      exact h v' w' (by simpa using h2) h3
  · have hlen : ∀ r ∈ rows, r.length = sz := by
      intro r hr
      obtain ⟨k, hk, rfl⟩ := List.getElem_of_mem hr
      have := (hc k hk).1
      rwa [List.getD_eq_getElem?_getD, List.getElem?_eq_getElem hk] at this
    refine wp_append_own w s x t ho base e i z sz bytes ht hi hz hsize hby hzs hsz v n _ hs hown ⟨b, off, none⟩ rows.length cap rows.flatten hx (flat_len rows sz hlen) ?_ (fun u hu => ?_) h63 hbytes hbase ?_
    · intro j u hj
      have hjl : j < rows.length * sz := by
        rw [← flat_len rows sz hlen]
        rcases Nat.lt_or_ge j rows.flatten.length with g | g
        · exact g
        · rw [List.getElem?_eq_none g] at hj; cases hj
      have hdm := Nat.div_add_mod j sz
      have hq : j / sz < rows.length := (Nat.div_lt_iff_lt_mul hsz).2 hjl
      have hm := Nat.mod_lt j hsz
      have e1 := flat_get rows sz (j / sz) (j % sz) hlen hq hm
      have e2 : j / sz * sz + j % sz = j := by rw [Nat.mul_comm]; exact hdm
      rw [e2, hj] at e1
      have e3 := (hc (j / sz) hq).2 (j % sz) hm
      rw [← e1, Nat.add_assoc, e2] at e3
      by_cases hz : j = 0
      · subst hz; simpa [Addr.add] using e3
      · simpa [Addr.add, hz] using e3
    · rw [List.mem_flatten] at hu
      obtain ⟨r, hr, hu⟩ := hu
      exact h1 r hr u hu
    · intro v' w' h2 h3 _
      exact h v' w' h2 h3
theorem wpList_append_rows {P : Program} {w : World} {ops : Array Oper} {rest : List Oper} {o : Oper} {a : Act} {Q : Exit → Act → World → Prop} (hgd : o.guard = none) (s x : Operand) (t : TypeId)
    (ho : o.op = .call { callee := .builtin .append, args := #[s, x], argTypes := #[t, t] })
    (base : Nat) (e : TypeId) (i : TypeInfo) (z : Value) (sz bytes : Nat) (ht : P.underlying t = some (.slice e)) (hi : P.info? e = some i) (hz : i.zero = some z) (hsize : i.size = sz) (hby : i.bytes = bytes) (hzs : z.cells.size = sz) (hsz : 0 < sz)
    (v : Value) (n : Nat) (cs : List Value) (hs : a.eval s = v) (hown : w.ownsRow base e sz v n cs)
    (vx : Value) (rows : List (List Value)) (hx : a.eval x = vx) (hr : SlC sz w vx rows) (h1 : ∀ r ∈ rows, ∀ u ∈ r, u.oneCell' = true)
    (h63 : n + rows.length ≤ maxLen) (hbytes : (n + rows.length) * bytes ≤ 140737488355328) (hbase : base ≤ w.heap.size)
    (h : ∀ v' w', w'.ownsRow base e sz v' (n + rows.length) (cs ++ rows.flatten) → w.grownBy w' v.ownBlock → wpList P ops Q rest (a.put o.dst v') w') : wpList P ops Q (o :: rest) a w :=
  wpList_plain hgd fun _ hK => wp_append_rows s x t ho base e i z sz bytes ht hi hz hsize hby hzs hsz v n cs hs hown vx rows hx hr h1 h63 hbytes hbase fun v' w' h2 h3 => hK _ _ (h v' w' h2 h3)
/-- the same as one step of a region that draws its order -/
theorem step_append_rows {P : Program} {ops : Array Oper} {w : World} {o : Oper} {a : Act} {K : Act → World → Prop} {Q : Exit → Act → World → Prop} {E : Prop} (hgd : o.guard = none) (s x : Operand) (t : TypeId)
    (ho : o.op = .call { callee := .builtin .append, args := #[s, x], argTypes := #[t, t] })
    (base : Nat) (e : TypeId) (i : TypeInfo) (z : Value) (sz bytes : Nat) (ht : P.underlying t = some (.slice e)) (hi : P.info? e = some i) (hz : i.zero = some z) (hsize : i.size = sz) (hby : i.bytes = bytes) (hzs : z.cells.size = sz) (hsz : 0 < sz)
    (v : Value) (n : Nat) (cs : List Value) (hs : a.eval s = v) (hown : w.ownsRow base e sz v n cs)
    (vx : Value) (rows : List (List Value)) (hx : a.eval x = vx) (hr : SlC sz w vx rows) (h1 : ∀ r ∈ rows, ∀ u ∈ r, u.oneCell' = true)
    (h63 : n + rows.length ≤ maxLen) (hbytes : (n + rows.length) * bytes ≤ 140737488355328) (hbase : base ≤ w.heap.size)
    (h : ∀ v' w', w'.ownsRow base e sz v' (n + rows.length) (cs ++ rows.flatten) → w.grownBy w' v.ownBlock → K (a.put o.dst v') w') :
    if Region.wanted o (yielded ops a.tmps) = true then Oper.wp P o a w K Q else E := by
  rw [if_pos (by simp [Region.wanted, hgd])]
  exact wp_append_rows s x t ho base e i z sz bytes ht hi hz hsize hby hzs hsz v n cs hs hown vx rows hx hr h1 h63 hbytes hbase h
/-- one row that was laid, as a slice of rows -/
theorem slc_one (w : World) (row : List Value) (T : TypeId) (sz : Nat) (h : row.length = sz) : SlC sz (w.alloc (.cells row.toArray T)) (.slice (some ⟨w.heap.size, 0, none⟩) 1 1) [row] := by
  refine Or.inr ⟨w.heap.size, 0, 1, rfl, by simp, by simp, by decide, fun i hi => ?_⟩
  have : i = 0 := by simp at hi; omega
  subst this
  refine ⟨by simpa using h, fun j hj => ?_⟩
  rw [World.cell?_alloc_new]
  simp

/-
  The library's functions that package prop leans on, as plain functions of lists of numbers: IndexByte, Clone, Cut at a comma.
-/
/-- where c stands first: -1, or the place -/
def AtB (l : List Int) (c i : Int) : Prop := (i = -1 ∧ ∀ x ∈ l, ¬ x = c) ∨ ∃ k : Nat, i = k ∧ k < l.length ∧ l = l.take k ++ c :: l.drop (k + 1) ∧ ∀ x ∈ l.take k, ¬ x = c
theorem atB_index (u : UInt8) : ∀ l : List UInt8, AtB (l.map fun c => (c.toNat : Int)) u.toNat (Lib.indexByte l u)
  | [] => Or.inl ⟨rfl, fun x hx => by simp at hx⟩
  | b :: l => by
    unfold Lib.indexByte
    by_cases hb : b = u
    · subst hb
      simp only [beq_self_eq_true, if_true]
      exact Or.inr ⟨0, rfl, by simp, by simp, fun x hx => by simp at hx⟩
    · have hne : (b == u) = false := by simpa using hb
      have hni : ¬ (b.toNat : Int) = u.toNat := by
        intro h
        exact hb (UInt8.toNat_inj.1 (by omega))
      rw [hne]
      simp only [Bool.false_eq_true, if_false]
      rcases atB_index u l with ⟨h1, h2⟩ | ⟨k, h1, h2, h3, h4⟩
      · rw [h1]
        refine Or.inl ⟨rfl, fun x hx => ?_⟩
        simp only [List.map_cons, List.mem_cons] at hx
        rcases hx with rfl | hx
        · exact hni
        · exact h2 x hx
      · rw [h1]
        have : ((k : Int) == -1) = false := by rw [beq_eq_false_iff_ne]; omega
        rw [this]
        simp only [Bool.false_eq_true, if_false]
        refine Or.inr ⟨k + 1, by simp, by simp only [List.map_cons, List.length_cons]; omega, ?_, fun x hx => ?_⟩
        · simp only [List.map_cons, List.take_succ_cons, List.drop_succ_cons, List.cons_append]
          rw [← h3]
        · simp only [List.map_cons, List.take_succ_cons, List.mem_cons] at hx
          rcases hx with rfl | hx
          · exact hni
          · exact h4 x hx
theorem byte_of {c : Int} (h0 : 0 ≤ c) (h1 : c < 256) : ((c.toNat.toUInt8).toNat : Int) = c := by
  rw [UInt8.toNat_ofNat']
  omega
theorem bytes_map {xs : List Int} (hB : bytesL xs) : (Lib.bytesOf xs).map (fun c => (c.toNat : Int)) = xs := by
  unfold Lib.bytesOf
  rw [List.map_map]
  conv => rhs; rw [← List.map_id xs]
  apply List.map_congr_left
  intro x hx
  have := hB x hx
  simp only [Function.comp, id]
  exact byte_of this.1 this.2

set_option maxHeartbeats 1000000 in
set_option maxRecDepth 100000 in
theorem w_slib (s : ByteArray) (c : Int) (w : World) (h0 : 0 ≤ c) (h1 : c < 256) :
    Calls Tryd.prog 83 #[.string s, .int .u8 c] w fun e w' => ∃ i, e = .returned (.int .i64 i) ∧ AtB (L s) c i ∧ w' = w := by
  go_enter Tryd.func83, Tryd.ntmps83
  go_wp2
  rw [run_callFunc_extern Tryd.func87 (by kernel_rfl) (by kernel_rfl) (by kernel_rfl) (e := Extern.BytealgIndexByte.indexByte) (by kernel_rfl), Lib.run_indexByteString]
  simp only [Result.andThen]
  rw [Oper.upon_value]
  go_wp2
  go_ret
  refine ⟨_, rfl, ?_, rfl⟩
  have := atB_index c.toNat.toUInt8 s.data.toList
  rw [byte_of h0 h1] at this
  exact this

set_option maxHeartbeats 1000000 in
set_option maxRecDepth 100000 in
theorem w_sib (s : ByteArray) (c : Int) (w : World) (h0 : 0 ≤ c) (h1 : c < 256) :
    Calls Tryd.prog 78 #[.string s, .int .u8 c] w fun e w' => ∃ i, e = .returned (.int .i64 i) ∧ AtB (L s) c i ∧ w' = w := by
  go_enter Tryd.func78, Tryd.ntmps78
  go_wp2_with (go_at_call 83; refine (w_slib s c _ h0 h1).mono ?_; rintro e w1 ⟨i, rfl, hi, rfl⟩)
  go_ret
  exact ⟨i, rfl, hi, rfl⟩

theorem bib_run (v : Value) (xs : List Int) (c : Int) (w : World) (h : Rd .u8 w v xs) (hB : bytesL xs) (h0 : 0 ≤ c) (h1 : c < 256) : ∃ i, AtB xs c i ∧ (Extern.BytealgIndexByte.indexByte #[v, .int .u8 c]).run Tryd.prog w = .ok (.int .i64 i) w := by
  rcases h with ⟨ao, cap, rfl, hn, rfl⟩ | ⟨b, off, cap, rfl, hp, hc1, hc2, hc⟩
  · refine ⟨-1, Or.inl ⟨rfl, fun x hx => by simp at hx⟩, ?_⟩
    cases ao with
    | none => exact Lib.run_indexByteNil (P := Tryd.prog) (w := w) 0 cap c
    | some a => exact Lib.run_indexByteString (P := Tryd.prog) .empty c w
  · refine ⟨Lib.indexByte (Lib.bytesOf xs) c.toNat.toUInt8, ?_, Lib.run_indexByteSlice w b off xs.length cap xs rfl hc c⟩
    have := atB_index c.toNat.toUInt8 (Lib.bytesOf xs)
    rw [byte_of h0 h1, bytes_map hB] at this
    exact this

set_option maxHeartbeats 1000000 in
set_option maxRecDepth 100000 in
theorem w_bcl (v : Value) (xs : List Int) (w : World) (h : Rd .u8 w v xs) (hz : xs.length ≤ 140737488355328) :
    Calls Tryd.prog 45 #[v] w fun e w' => ∃ v', e = .returned v' ∧ Rd .u8 w' v' xs ∧ Below w.heap.size w w' := by
  obtain ⟨i0, hi, hz0, hz1, hz2⟩ := info_parts infoU8
  obtain ⟨ao, cap, rfl, hc, hn, hx⟩ := rd_form h
  cases ao with
  | none =>
    have hc0 := hn rfl
    have hl : xs = [] := List.eq_nil_of_length_eq_zero (by omega)
    subst hl
    subst hc0
    show Calls _ _ #[.slice none 0 0] _ _
    have q := Lib.run_eql_slice_nil (P := Tryd.prog) w 28 5 none 0 0 0 0 Tryd.underlying28
    go_enter Tryd.func45, Tryd.ntmps45
    go_wp2_with fail
    go_ret
    exact ⟨_, rfl, Rd_nil, Below.refl _ _⟩
  | some a =>
    have q := Lib.run_eql_slice_nil (P := Tryd.prog) w 28 5 (some a) xs.length cap 0 0 Tryd.underlying28
    have ha := h.below (box_below w (.cells #[] 5))
    go_enter Tryd.func45, Tryd.ntmps45
    go_wp2_with (at_builtin; refine wpList_append_rd (k := .u8) rfl _ _ 28 rfl w.heap.size 5 i0 1 Tryd.underlying28 hi hz0 hz1 hz2 _ [] rfl (World.ownsRow_made w #[] 0 (Nat.le_refl _) (Nat.zero_le _) rfl) _ xs rfl ha (by unfold maxLen; simp; omega) (by simp; omega) (by simp) ?_; intro v5 w5 ho5 hg5)
    go_ret
    refine ⟨v5, rfl, (Rd_own (by simpa using ho5)).1, below_grown (box_below w _) hg5 (fun k hk => by simp [Value.ownBlock, Act.eval] at hk; omega)⟩

set_option maxHeartbeats 1000000 in
set_option maxRecDepth 100000 in
theorem w_slix (s : ByteArray) (w : World) :
    Calls Tryd.prog 88 #[.string s, .string ⟨#[44]⟩] w fun e w' => ∃ i, e = .returned (.int .i64 i) ∧ AtB (L s) 44 i ∧ w' = w := by
  go_enter Tryd.func88, Tryd.ntmps88
  go_wp2_with (go_at_call 83; refine (w_slib s 44 _ (by decide) (by decide)).mono ?_; rintro e w1 ⟨i, rfl, hi, rfl⟩)
  · have h : ([44] == s.toList) = true := by assumption
    go_ret
    have e : s.data.toList = [44] := by rw [← ByteArray.toList_eq]; exact (beq_iff_eq.1 h).symm
    refine ⟨_, rfl, Or.inr ⟨0, rfl, ?_, ?_, fun x hx => by simp at hx⟩, rfl⟩
    · simp [L, e]
    · simp [L, e]
  · go_ret
    exact ⟨i, rfl, hi, rfl⟩

/-- what Cut at a comma answers -/
def CutC (l : List Int) (A B : ByteArray) (f : Bool) : Prop := (f = false ∧ L A = l ∧ ∀ x ∈ l, ¬ x = 44) ∨ (f = true ∧ l = L A ++ 44 :: L B ∧ ∀ x ∈ L A, ¬ x = 44)

/-
  What the walks of layer 8's landed package lean on of the listed variables: one cell of a table of math/bits.
-/
/-- what the walks lean on of the listed variables: one cell of a table of math/bits -/
def Tab (w : World) : Prop := True ∧ w.cell? ⟨3, 15, none⟩ = some (.int .u8 4)
theorem Tab.below {w w' : World} (h : Tab w) (g : Below w.heap.size w w') : Tab w' := ⟨trivial, below_cell g h.2⟩
theorem Tab.on {w w' : World} {B : Nat} (h : Tab w) (g : Below B w w') (hB : 100 ≤ B ∨ (3 < B ∧ 3 < B)) : Tab w' := by
  refine ⟨trivial, (g.cell (p := ⟨3, 15, none⟩) ?_).trans h.2⟩
  show 3 < B
  omega
theorem Tab.lt {w : World} (h : Tab w) : 3 < w.heap.size ∧ 3 < w.heap.size :=
  ⟨World.block_lt_of_cell? w _ h.2, World.block_lt_of_cell? w _ h.2⟩

theorem L_getD (s : ByteArray) (k : Nat) (h : k < s.size) : ((s.data.toList.getD k 0).toNat : Int) = (s[k].toNat : Int) := by
  rw [List.getD_eq_getElem?_getD, List.getElem?_eq_getElem (by simpa using h)]
  rfl
theorem pc_bad (l : List Int) (h : allD 16 l = false) : pcOk l = false := by simp [pcOk, h]
theorem pc_mid (l m : List Int) (c : Int) (h : isD c 16 = false) : pcOk (l ++ c :: m) = false := pc_bad _ (allD_mid 16 l m c h)

/-
  The library's Clone and Equal that package tree calls: what they return, in new memory.
-/
set_option maxHeartbeats 1000000 in
theorem w_pclone32 (v : Value) (xs : List Int) (w : World) (h : Rd .u32 w v xs) (hb : xs.length * 4 ≤ 140737488355328) :
    Calls Tryd.prog 43 #[v] w fun e w' => ∃ v', e = .returned v' ∧ w'.ownsRow w.heap.size 58 1 v' xs.length (xs.map (Value.int .u32)) ∧ Below w.heap.size w w' := by
  obtain ⟨i0, hi, hz0, hz1, hz2⟩ := info_parts infoU32
  obtain ⟨ao, cap, rfl, hc, hn, hx⟩ := rd_form h
  cases ao with
  | none =>
    have hc0 := hn rfl
    have hl : xs = [] := List.eq_nil_of_length_eq_zero (by omega)
    subst hl
    subst hc0
    show Calls _ _ #[.slice none 0 0] _ _
    have q := Lib.run_eql_slice_nil (P := Tryd.prog) w 31 58 none 0 0 0 0 Tryd.underlying31
    go_enter Tryd.func43, Tryd.ntmps43
    go_wp2_with fail
    go_ret
    exact ⟨_, rfl, World.ownsRow_nil _ _ _ _, Below.refl _ _⟩
  | some a =>
    have q := Lib.run_eql_slice_nil (P := Tryd.prog) w 31 58 (some a) xs.length cap 0 0 Tryd.underlying31
    have ha := h.below (box_below w (.cells #[] 58))
    go_enter Tryd.func43, Tryd.ntmps43
    go_wp2_with (at_builtin; refine wpList_append_rd (k := .u32) rfl _ _ 31 rfl w.heap.size 58 i0 4 Tryd.underlying31 hi hz0 hz1 hz2 _ [] rfl (World.ownsRow_made w #[] 0 (Nat.le_refl _) (Nat.zero_le _) rfl) _ xs rfl ha (by unfold maxLen; simp; omega) (by simp; omega) (by simp) ?_; intro v5 w5 ho5 hg5)
    go_ret
    exact ⟨v5, rfl, by simpa using ho5, below_grown (box_below w _) hg5 (fun k hk => by simp [Value.ownBlock, Act.eval] at hk; omega)⟩

set_option maxHeartbeats 1000000 in
theorem w_pclone8 (v : Value) (xs : List Int) (w : World) (h : Rd .u8 w v xs) (hz : xs.length ≤ 140737488355328) :
    Calls Tryd.prog 45 #[v] w fun e w' => ∃ v', e = .returned v' ∧ w'.ownsRow w.heap.size 5 1 v' xs.length (xs.map (Value.int .u8)) ∧ Below w.heap.size w w' := by
  obtain ⟨i0, hi, hz0, hz1, hz2⟩ := info_parts infoU8
  obtain ⟨ao, cap, rfl, hc, hn, hx⟩ := rd_form h
  cases ao with
  | none =>
    have hc0 := hn rfl
    have hl : xs = [] := List.eq_nil_of_length_eq_zero (by omega)
    subst hl
    subst hc0
    show Calls _ _ #[.slice none 0 0] _ _
    have q := Lib.run_eql_slice_nil (P := Tryd.prog) w 28 5 none 0 0 0 0 Tryd.underlying28
    go_enter Tryd.func45, Tryd.ntmps45
    go_wp2_with fail
    go_ret
    exact ⟨_, rfl, World.ownsRow_nil _ _ _ _, Below.refl _ _⟩
  | some a =>
    have q := Lib.run_eql_slice_nil (P := Tryd.prog) w 28 5 (some a) xs.length cap 0 0 Tryd.underlying28
    have ha := h.below (box_below w (.cells #[] 5))
    go_enter Tryd.func45, Tryd.ntmps45
    go_wp2_with (at_builtin; refine wpList_append_rd (k := .u8) rfl _ _ 28 rfl w.heap.size 5 i0 1 Tryd.underlying28 hi hz0 hz1 hz2 _ [] rfl (World.ownsRow_made w #[] 0 (Nat.le_refl _) (Nat.zero_le _) rfl) _ xs rfl ha (by unfold maxLen; simp; omega) (by simp; omega) (by simp) ?_; intro v5 w5 ho5 hg5)
    go_ret
    exact ⟨v5, rfl, by simpa using ho5, below_grown (box_below w _) hg5 (fun k hk => by simp [Value.ownBlock, Act.eval] at hk; omega)⟩

theorem infoNod8 : (Tryd.prog.info? 56).map (fun i => (i.zero, i.size, i.bytes)) = some (some (.agg #[.string ⟨#[]⟩, .slice none 0 0, .int .i64 0, .slice none 0 0, .slice none 0 0]), 5, 96) := by kernel_rfl
theorem infoPrp8 : (Tryd.prog.info? 65).map (fun i => (i.zero, i.size, i.bytes)) = some (some (.agg #[.string ⟨#[]⟩, .slice none 0 0]), 2, 40) := by kernel_rfl

set_option maxHeartbeats 1000000 in
theorem w_pcloneN (v : Value) (rows : List (List Value)) (w : World) (h : SlC 5 w v rows) (h1 : ∀ r ∈ rows, ∀ u ∈ r, u.oneCell' = true) (hb : rows.length * 96 ≤ 140737488355328) :
    Calls Tryd.prog 42 #[v] w fun e w' => ∃ v', e = .returned v' ∧ w'.ownsRow w.heap.size 56 5 v' rows.length rows.flatten ∧ Below w.heap.size w w' := by
  obtain ⟨i0, hi, hz0, hz1, hz2⟩ := info_parts infoNod8
  obtain ⟨ao, cap, rfl, hc, hn, hx⟩ := h.form
  cases ao with
  | none =>
    have hc0 := hn rfl
    have hl : rows = [] := List.eq_nil_of_length_eq_zero (by omega)
    subst hl
    subst hc0
    show Calls _ _ #[.slice none 0 0] _ _
    have q := Lib.run_eql_slice_nil (P := Tryd.prog) w 22 56 none 0 0 0 0 Tryd.underlying22
    go_enter Tryd.func42, Tryd.ntmps42
    go_wp2_with fail
    go_ret
    exact ⟨_, rfl, World.ownsRow_nil _ _ _ _, Below.refl _ _⟩
  | some a =>
    have q := Lib.run_eql_slice_nil (P := Tryd.prog) w 22 56 (some a) rows.length cap 0 0 Tryd.underlying22
    have ha := h.below (box_below w (.cells #[] 56))
    go_enter Tryd.func42, Tryd.ntmps42
    go_wp2_with (at_builtin; refine wpList_append_rows rfl _ _ 22 rfl w.heap.size 56 i0 _ 5 96 Tryd.underlying22 hi hz0 hz1 hz2 rfl (by decide) _ 0 [] rfl (World.ownsRow_made w #[] 0 (Nat.le_refl _) (Nat.zero_le _) rfl) _ rows rfl ha h1 (by unfold maxLen; omega) (by omega) (by simp) ?_; intro v5 w5 ho5 hg5)
    go_ret
    exact ⟨v5, rfl, by simpa using ho5, below_grown (box_below w _) hg5 (fun k hk => by simp [Value.ownBlock, Act.eval] at hk; omega)⟩

set_option maxHeartbeats 1000000 in
theorem w_pcloneP (v : Value) (rows : List (List Value)) (w : World) (h : SlC 2 w v rows) (h1 : ∀ r ∈ rows, ∀ u ∈ r, u.oneCell' = true) (hb : rows.length * 40 ≤ 140737488355328) :
    Calls Tryd.prog 44 #[v] w fun e w' => ∃ v', e = .returned v' ∧ w'.ownsRow w.heap.size 65 2 v' rows.length rows.flatten ∧ Below w.heap.size w w' := by
  obtain ⟨i0, hi, hz0, hz1, hz2⟩ := info_parts infoPrp8
  obtain ⟨ao, cap, rfl, hc, hn, hx⟩ := h.form
  cases ao with
  | none =>
    have hc0 := hn rfl
    have hl : rows = [] := List.eq_nil_of_length_eq_zero (by omega)
    subst hl
    subst hc0
    show Calls _ _ #[.slice none 0 0] _ _
    have q := Lib.run_eql_slice_nil (P := Tryd.prog) w 54 65 none 0 0 0 0 Tryd.underlying54
    go_enter Tryd.func44, Tryd.ntmps44
    go_wp2_with fail
    go_ret
    exact ⟨_, rfl, World.ownsRow_nil _ _ _ _, Below.refl _ _⟩
  | some a =>
    have q := Lib.run_eql_slice_nil (P := Tryd.prog) w 54 65 (some a) rows.length cap 0 0 Tryd.underlying54
    have ha := h.below (box_below w (.cells #[] 65))
    go_enter Tryd.func44, Tryd.ntmps44
    go_wp2_with (at_builtin; refine wpList_append_rows rfl _ _ 54 rfl w.heap.size 65 i0 _ 2 40 Tryd.underlying54 hi hz0 hz1 hz2 rfl (by decide) _ 0 [] rfl (World.ownsRow_made w #[] 0 (Nat.le_refl _) (Nat.zero_le _) rfl) _ rows rfl ha h1 (by unfold maxLen; omega) (by omega) (by simp) ?_; intro v5 w5 ho5 hg5)
    go_ret
    exact ⟨v5, rfl, by simpa using ho5, below_grown (box_below w _) hg5 (fun k hk => by simp [Value.ownBlock, Act.eval] at hk; omega)⟩

set_option maxHeartbeats 1000000 in
theorem w_pequal (va vb : Value) (xs ys : List Int) (w : World) (ha : Rd .u32 w va xs) (hb : Rd .u32 w vb ys) :
    Calls Tryd.prog 66 #[va, vb] w fun e w' => e = .returned (.bool (decide (xs = ys))) ∧ Dr w w' := by
  have hla := rd_len ha uU (P := Tryd.prog)
  have hlb := rd_len hb uU (P := Tryd.prog)
  by_cases hl : xs.length = ys.length
  · have hn : ((xs.length : Int) != (ys.length : Int)) = false := by simp [hl]
    have hm : xs.length ≤ maxLen := by
      rcases ha with ⟨_, _, _, _, rfl⟩ | ⟨_, _, _, _, _, g1, g2, _⟩
      · simp
      · omega
    unfold maxLen at hm
    have Hl := hid hl
    have HA := hid ha
    have HB := hid hb
    clear hl ha hb
    go_enter Tryd.func66, Tryd.ntmps66
    go_wp2_with fail
    go_loopw [13] (fun i wx => ∃ k : Nat, (k : Int) ≤ xs.length ∧ i = .int .i64 k ∧ Hid (xs.take k = ys.take k) ∧ Dr w wx) (fun i _ => (xs.length - intOf i).toNat)
    case atStart => exact ⟨0, by omega, rfl, hid (by simp), dr_refl _⟩
    case round =>
      obtain ⟨k, hk, rfl, ht, hg⟩ := hrel
      by_cases hlt : (k : Int) < xs.length
      · have hlt2 : (k : Int) < (ys.length : Int) := by have := Hl.out; omega
        obtain ⟨a1, i1, c1⟩ := rd_idx (HA.out.below (dr_below hg)) uU zU k (by omega) hlt
        obtain ⟨a2, i2, c2⟩ := rd_idx (HB.out.below (dr_below hg)) uU zU k (by omega) hlt2
        simp only [Int.toNat_natCast] at c1 c2
        obtain ⟨x, hx⟩ : ∃ x, xs.getD k 0 = x := ⟨_, rfl⟩
        obtain ⟨y, hy⟩ : ∃ y, ys.getD k 0 = y := ⟨_, rfl⟩
        rw [hx] at c1
        rw [hy] at c2
        by_cases hxy : x = y
        · have ht2 : Hid (xs.take (k + 1) = ys.take (k + 1)) := same_take xs ys k (by omega) (by omega) ht.out (by rw [hx, hy, hxy])
          have hb : (x != y) = false := by simp [hxy]
          clear hx hy hxy
          go_wp2_with fail
          go_quiet (fail)
          go_wp2_with fail
          go_roundw
          case rel => exact ⟨k + 1, by omega, by go_num, ht2, dr_more hg _⟩
          case measure => simp [intOf]; omega
        · have hf : Hid (decide (xs = ys) = false) := by show _ = _; simp; exact ne_at xs ys k (by rw [hx, hy]; exact hxy)
          have hb : (x != y) = true := by simp [hxy]
          clear hx hy hxy
          go_wp2_with fail
          go_quiet (fail)
          go_wp2_with fail
          go_ret
          exact ⟨ret_b hf.out.symm, dr_more hg _⟩
      · have hf : Hid (decide (xs = ys) = true) := by
          show _ = _
          have h1 : xs.take k = xs := List.take_of_length_le (by omega)
          have h2 : ys.take k = ys := List.take_of_length_le (by have := Hl.out; omega)
          have := ht.out
          rw [h1, h2] at this
          simp [this]
        go_wp2_with fail
        go_ret
        exact ⟨ret_b hf.out.symm, hg⟩
  · have hf : Hid (decide (xs = ys) = false) := by show _ = _; simp; intro h; exact hl (by rw [h])
    have hn : ((xs.length : Int) != (ys.length : Int)) = true := by simp; omega
    clear hl
    go_enter Tryd.func66, Tryd.ntmps66
    go_wp2_with fail
    go_ret
    exact ⟨ret_b hf.out.symm, dr_refl _⟩

/-
  A call of a Go function as one step of a region that draws its order.
-/
theorem step_call {P : Program} {ops : Array Oper} {w : World} {o : Oper} {a : Act} {K : Act → World → Prop} {Q : Exit → Act → World → Prop} {E : Prop} (hgd : o.guard = none) (f : Nat) (x : Operand) (t : TypeId)
    (hop : o.op = .call { callee := .value (.func f), args := #[x], argTypes := #[t] }) (hent : ∀ args w, (callFunc f args).run P w = .ok (.enter f args) w) (vx : Value) (hx : a.eval x = vx)
    (hc : Calls P f #[vx] w fun e w' => ∃ v, e = .returned v ∧ K (a.put o.dst v) w') :
    if Region.wanted o (yielded ops a.tmps) = true then Oper.wp P o a w K Q else E := by
  rw [if_pos (by simp [Region.wanted, hgd])]
  unfold Oper.wp
  have he : a.eval (.func f) = .func (.func f) #[] #[] := rfl
  simp [execOp, hop, resolve, invoke, hx, he, hent, Deferred.ofValue]
  rw [Oper.upon_enter]
  refine hc.mono ?_
  rintro e w' ⟨v, rfl, h⟩
  exact h

/-
  What package tree asks by closures: IndexFunc at devices and at properties, the closures that it is handed, child, called, meant, place.
-/
/-- a function value that answers a question about each of these devices, in every later world -/
def AskN (w : World) (g : Nat) (lb : Array Value) (p : Nd → Bool) (t : List Nd) : Prop :=
  ∀ (W : World) (nm : ByteArray) (vu vp vc : Value) (x : Nd), Below w.heap.size w W → x ∈ t → strOfNums x.1 = nm → Rd .u32 W vu x.2.1 → SlR 2 propR W vp x.2.2.2.1 → Rd .u32 W vc x.2.2.2.2 →
    Calls Tryd.prog g (#[.agg #[.string nm, vu, .int .i64 x.2.2.1, vp, vc]] ++ lb) W fun e w' => e = .returned (.bool (p x)) ∧ Below W.heap.size W w'
theorem AskN.later {w w' : World} {g : Nat} {lb : Array Value} {p : Nd → Bool} {t : List Nd} (h : AskN w g lb p t) (b : Below w.heap.size w w') : AskN w' g lb p t :=
  fun W nm vu vp vc x hb => h W nm vu vp vc x (below_trans b hb)
theorem AskN.part {w : World} {g : Nat} {lb : Array Value} {p : Nd → Bool} {t t' : List Nd} (h : AskN w g lb p t) (hs : ∀ x ∈ t', x ∈ t) : AskN w g lb p t' :=
  fun W nm vu vp vc x hb hx => h W nm vu vp vc x hb (hs x hx)
theorem idx_hit {α : Type} {t : List α} {p : α → Bool} {k : Nat} (hk : k < t.length) (h : p t[k] = true) (hn : ∀ j (hj : j < k), p (t[j]'(by omega)) = false) : t.findIdx? p = some k := by
  rw [List.findIdx?_eq_some_iff_getElem]
  exact ⟨hk, h, fun j hj => by simp [hn j hj]⟩
theorem idx_miss {α : Type} {t : List α} {p : α → Bool} (hn : ∀ j (hj : j < t.length), p t[j] = false) : t.findIdx? p = none := by
  rw [List.findIdx?_eq_none_iff]
  intro x hx
  obtain ⟨j, hj, rfl⟩ := List.getElem_of_mem hx
  exact hn j hj

set_option maxHeartbeats 1000000 in
set_option maxRecDepth 100000 in
theorem w_pindexN (v : Value) (t : List Nd) (g : Nat) (lb : Array Value) (p : Nd → Bool) (w : World) (eg : ∀ args w, (callFunc g args).run Tryd.prog w = .ok (.enter g args) w) (h : RdT w v t) (hp : AskN w g lb p t) :
    Calls Tryd.prog 63 #[v, .func (.func g) #[] lb] w fun e w' => e = .returned (.int .i64 (fdI (t.findIdx? p))) ∧ Below w.heap.size w w' := by
  have hl := slr_len h uN (P := Tryd.prog)
  have hm := slr_max h
  unfold maxLen at hm
  obtain ⟨R, hR⟩ : ∃ R, fdI (t.findIdx? p) = R := ⟨_, rfl⟩
  rw [hR]
  have HR := hid hR
  clear hR
  go_enter Tryd.func63, Tryd.ntmps63
  go_wp2_with fail
  go_loopw [8] (fun I wx => ∃ k : Nat, (k : Int) ≤ t.length ∧ I = .int .i64 k ∧ Hid (∀ j (hj : j < k) (hl : j < t.length), p t[j] = false) ∧ Below w.heap.size w wx) (fun I _ => (t.length - intOf I).toNat)
  case atStart => exact ⟨0, by omega, rfl, hid (fun j hj => by omega), Below.refl _ _⟩
  case round =>
    obtain ⟨k, hk, rfl, hq, hg⟩ := hrel
    by_cases hlt : (k : Int) < t.length
    · have hkl : k < t.length := by omega
      obtain ⟨b1, o1, N1, u1, p1, c1, r1, f0, f1, f2, f3, f4, e1, hu1, hp1, hc1⟩ := nod_at (h.below hg) k hkl
      have hc := hp wr N1 u1 p1 c1 t[k] hg (List.getElem_mem hkl) e1 hu1 hp1 hc1
      obtain ⟨X, hX⟩ : ∃ X, t[k].2.2.1 = X := ⟨_, rfl⟩
      rw [hX] at f2 hc
      obtain ⟨ua, uq, rfl⟩ := rd_slice hu1
      obtain ⟨pa, pq, rfl⟩ := slr_slice hp1
      obtain ⟨ca, cq, rfl⟩ := rd_slice hc1
      cases hpk : p t[k]
      · rw [hpk] at hc
        have hq2 : Hid (∀ j (hj : j < k + 1) (hl : j < t.length), p t[j] = false) := by
          show ∀ j _ _, _
          intro j hj hl
          by_cases hjk : j < k
          · exact hq.out j hjk hl
          · have : j = k := by omega
            subst this
            exact hpk
        clear hpk e1 hX hp
        go_wp2_with (go_at_fn g; refine hc.mono ?_; rintro e w1 ⟨rfl, b1⟩)
        go_roundw
        case rel => exact ⟨k + 1, by omega, by go_num, hq2, below_trans hg b1⟩
        case measure => simp [intOf]; omega
      · rw [hpk] at hc
        have hf : Hid (R = k) := by
          show _ = _
          rw [← HR.out, idx_hit hkl hpk (fun j hj => hq.out j hj (by omega))]
          rfl
        clear hpk e1 hX hp
        go_wp2_with (go_at_fn g; refine hc.mono ?_; rintro e w1 ⟨rfl, b1⟩)
        go_ret
        rw [hf.out]
        exact ⟨rfl, below_trans hg b1⟩
    · have hf : Hid (R = -1) := by
        show _ = _
        rw [← HR.out, idx_miss (fun j hj => hq.out j (by omega) hj)]
        rfl
      go_wp2_with fail
      go_ret
      rw [hf.out]
      exact ⟨rfl, hg⟩

set_option maxHeartbeats 1000000 in
set_option maxRecDepth 100000 in
theorem w_pplace1 (nm s : ByteArray) (vd : Value) (x : Pp) (B : Nat) (W : World) (e0 : strOfNums x.1 = nm) (hb : bytesL x.1) (hd : Rd .u8 W vd x.2) (hs : W.cell? ⟨B, 0, none⟩ = some (.string s)) :
    Calls Tryd.prog 69 #[.agg #[.string nm, vd], .pointer (some ⟨B, 0, none⟩)] W fun e w' => e = .returned (.bool (decide (x.1 = L s))) ∧ Below W.heap.size W w' := by
  have hq := str_eq8 nm s _ (L s) hb (LB_bytes s) e0 (nums_LB s)
  obtain ⟨da, dq, rfl⟩ := rd_slice hd
  have bx := box_below W (.cells #[.string nm, .slice da x.2.length dq] 65)
  have hs2 := below_cell bx hs
  have z0 := (stands_new W #[.string nm, .slice da x.2.length dq] 65).cell 0 _ rfl
  go_enter Tryd.func69, Tryd.ntmps69
  go_wp2_with fail
  go_ret
  exact ⟨rfl, bx⟩

set_option maxHeartbeats 1000000 in
set_option maxRecDepth 100000 in
theorem w_pindexP (v : Value) (l : List Pp) (s : ByteArray) (B : Nat) (w : World) (h : SlR 2 propR w v l) (bl : ∀ x ∈ l, bytesL x.1) (hs : w.cell? ⟨B, 0, none⟩ = some (.string s)) :
    Calls Tryd.prog 68 #[v, .func (.func 69) #[] #[.pointer (some ⟨B, 0, none⟩)]] w fun e w' => e = .returned (.int .i64 (fdI (pfF l (L s)))) ∧ Below w.heap.size w w' := by
  have eg : ∀ args w, (callFunc 69 args).run Tryd.prog w = .ok (.enter 69 args) w := enters_of Tryd.func69 (by kernel_rfl) rfl
  have hl := slr_len h uR (P := Tryd.prog)
  have hm := slr_max h
  unfold maxLen at hm
  obtain ⟨R, hR⟩ : ∃ R, fdI (pfF l (L s)) = R := ⟨_, rfl⟩
  rw [hR]
  have HR := hid hR
  clear hR
  go_enter Tryd.func68, Tryd.ntmps68
  go_wp2_with fail
  go_loopw [8] (fun I wx => ∃ k : Nat, (k : Int) ≤ l.length ∧ I = .int .i64 k ∧ Hid (∀ j (hj : j < k) (g : j < l.length), ¬ l[j].1 = L s) ∧ Below w.heap.size w wx) (fun I _ => (l.length - intOf I).toNat)
  case atStart => exact ⟨0, by omega, rfl, hid (fun j hj => by omega), Below.refl _ _⟩
  case round =>
    obtain ⟨k, hk, rfl, hp, hg⟩ := hrel
    by_cases hlt : (k : Int) < l.length
    · have hkl : k < l.length := by omega
      obtain ⟨b, o, nm, vd, r, f0, f1, e0, hd0⟩ := prp_at8 (h.below hg (propR_below hg)) k hkl
      have hc := w_pplace1 nm s vd l[k] B wr e0 (bl _ (List.getElem_mem hkl)) hd0 (below_cell hg hs)
      obtain ⟨da, dq, rfl⟩ := rd_slice hd0
      by_cases hx : l[k].1 = L s
      · have hf : Hid (R = k) := by
          show _ = _
          rw [← HR.out, pf_hit hkl hx (fun j hj => hp.out j hj (by omega))]
          rfl
        rw [decide_eq_true hx] at hc
        clear hx e0
        go_wp2_with (go_at_fn 69; refine hc.mono ?_; rintro e w1 ⟨rfl, b1⟩)
        go_ret
        rw [hf.out]
        exact ⟨rfl, below_trans hg b1⟩
      · rw [decide_eq_false hx] at hc
        have hp2 : Hid (∀ j (hj : j < k + 1) (g : j < l.length), ¬ l[j].1 = L s) := by
          show ∀ j _ _, _
          intro j hj g
          by_cases hjk : j < k
          · exact hp.out j hjk g
          · have : j = k := by omega
            subst this
            exact hx
        clear hx e0
        go_wp2_with (go_at_fn 69; refine hc.mono ?_; rintro e w1 ⟨rfl, b1⟩)
        go_roundw
        case rel => exact ⟨k + 1, by omega, by go_num, hp2, below_trans hg b1⟩
        case measure => simp [intOf]; omega
    · have hf : Hid (R = -1) := by
        show _ = _
        have : pfF l (L s) = none := by
          rw [pf_none]
          intro x hx
          obtain ⟨j, hj, rfl⟩ := List.getElem_of_mem hx
          exact hp.out j (by omega) hj
        rw [← HR.out, this]
        rfl
      go_wp2_with fail
      go_ret
      rw [hf.out]
      exact ⟨rfl, hg⟩

set_option maxHeartbeats 1000000 in
theorem w_pplace (v : Value) (l : List Pp) (s : ByteArray) (w : World) (h : SlR 2 propR w v l) (bl : ∀ x ∈ l, bytesL x.1) :
    Calls Tryd.prog 54 #[v, .string s] w fun e w' => e = .returned (.int .i64 (fdI (pfF l (L s)))) ∧ Below w.heap.size w w' := by
  have hmf : ∀ (fn : Fn) (first cap : Array Value) (w : World), (Instr.makeFunc fn first cap).run Tryd.prog w = .ok (.func fn first cap) w := fun _ _ _ _ => rfl
  have bx := box_below w (.cells #[.string s] 9)
  have z0 := (stands_new w #[.string s] 9).cell 0 _ rfl
  have hc := w_pindexP v l s w.heap.size _ (h.below bx (propR_below bx)) bl z0
  go_enter Tryd.func54, Tryd.ntmps54
  go_wp2_with (go_at_call 68; refine hc.mono ?_; rintro e w1 ⟨rfl, b1⟩)
  go_ret
  exact ⟨rfl, below_trans bx b1⟩

set_option maxHeartbeats 1000000 in
set_option maxRecDepth 100000 in
theorem w_pcalled1 (nm s : ByteArray) (vu vp vc vw : Value) (x : Nd) (un : List Int) (B B2 : Nat) (W : World) (e0 : strOfNums x.1 = nm) (hb : bytesL x.1) (hu : Rd .u32 W vu x.2.1) (hp : SlR 2 propR W vp x.2.2.2.1) (hc : Rd .u32 W vc x.2.2.2.2) (hs : W.cell? ⟨B, 0, none⟩ = some (.string s)) (hs2 : W.cell? ⟨B2, 0, none⟩ = some vw) (hw : Rd .u32 W vw un) :
    Calls Tryd.prog 65 #[.agg #[.string nm, vu, .int .i64 x.2.2.1, vp, vc], .pointer (some ⟨B, 0, none⟩), .pointer (some ⟨B2, 0, none⟩)] W fun e w' => e = .returned (.bool (decide (x.1 = L s) && decide (x.2.1 = un))) ∧ Below W.heap.size W w' := by
  have hq := str_eq8 nm s _ (L s) hb (LB_bytes s) e0 (nums_LB s)
  obtain ⟨ua, uq, rfl⟩ := rd_slice hu
  obtain ⟨pa, pq, rfl⟩ := slr_slice hp
  obtain ⟨ca, cq, rfl⟩ := rd_slice hc
  obtain ⟨wa, wq, rfl⟩ := rd_slice hw
  obtain ⟨X, hX⟩ : ∃ X, x.2.2.1 = X := ⟨_, rfl⟩
  rw [hX]
  have st := stands_new W #[.string nm, .slice ua x.2.1.length uq, .int .i64 X, .slice pa x.2.2.2.1.length pq, .slice ca x.2.2.2.2.length cq] 56
  have bx := box_below W (.cells #[.string nm, .slice ua x.2.1.length uq, .int .i64 X, .slice pa x.2.2.2.1.length pq, .slice ca x.2.2.2.2.length cq] 56)
  have z0 := st.cell 0 _ rfl
  have z1 := st.cell 1 _ rfl
  have l0 := below_cell bx hs
  have l1 := below_cell bx hs2
  by_cases h1 : x.1 = L s
  · rw [decide_eq_true h1] at hq ⊢
    have ce := w_pequal _ _ _ _ _ (hu.below bx) (hw.below bx)
    rw [Bool.true_and]
    obtain ⟨b, hb⟩ : ∃ b, decide (x.2.1 = un) = b := ⟨_, rfl⟩
    rw [hb] at ce ⊢
    clear h1 hb e0 hX
    go_enter Tryd.func65, Tryd.ntmps65
    go_wp2_with (go_at_call 66; refine ce.mono ?_; rintro e w1 ⟨rfl, d1⟩)
    go_ret
    exact ⟨rfl, below_trans bx (dr_below d1)⟩
  · rw [decide_eq_false h1] at hq ⊢
    clear h1 e0 hX
    go_enter Tryd.func65, Tryd.ntmps65
    go_wp2_with fail
    go_ret
    exact ⟨rfl, bx⟩

set_option maxHeartbeats 1000000 in
set_option maxRecDepth 100000 in
theorem w_pcalled (s : ByteArray) (vw : Value) (un : List Int) (t : List Nd) (w : World) (hw : Rd .u32 w vw un) (bt : ∀ x ∈ t, bytN x) :
    Calls Tryd.prog 51 #[.string s, vw] w fun e w' => ∃ lb, e = .returned (.func (.func 65) #[] lb) ∧ AskN w' 65 lb (fun x => decide (x.1 = L s) && decide (x.2.1 = un)) t ∧ Below w.heap.size w w' := by
  have hmf : ∀ (fn : Fn) (first cap : Array Value) (w : World), (Instr.makeFunc fn first cap).run Tryd.prog w = .ok (.func fn first cap) w := fun _ _ _ _ => rfl
  obtain ⟨wa, wq, rfl⟩ := rd_slice hw
  have b1 := box_below w (.cells #[.string s] 9)
  have b2 := box_below (w.alloc (.cells #[.string s] 9)) (.cells #[.slice wa un.length wq] 31)
  have z1 := ((stands_new w #[.string s] 9).below b2).cell 0 _ rfl
  have z2 := (stands_new (w.alloc (.cells #[.string s] 9)) #[.slice wa un.length wq] 31).cell 0 _ rfl
  rw [size_al] at z2
  have b3 := below_trans b1 b2
  have ha : AskN ((w.alloc (.cells #[.string s] 9)).alloc (.cells #[.slice wa un.length wq] 31)) 65 #[.pointer (some ⟨w.heap.size, 0, none⟩), .pointer (some ⟨w.heap.size + 1, 0, none⟩)] (fun x => decide (x.1 = L s) && decide (x.2.1 = un)) t := by
    intro W nm vu vp vc x hb hx e0 hu hp hc
    exact w_pcalled1 nm s vu vp vc _ x un _ _ W e0 (bt x hx).1 hu hp hc (below_cell hb z1) (below_cell hb z2) ((hw.below b3).below hb)
  clear z1 z2
  go_enter Tryd.func51, Tryd.ntmps51
  go_wp2_with fail
  go_ret
  exact ⟨_, rfl, ha, b3⟩

set_option maxHeartbeats 1000000 in
set_option maxRecDepth 100000 in
theorem w_pmeant1 (nm s : ByteArray) (vu vp vc : Value) (x : Nd) (B : Nat) (W : World) (e0 : strOfNums x.1 = nm) (hb : bytesL x.1) (hu : Rd .u32 W vu x.2.1) (hp : SlR 2 propR W vp x.2.2.2.1) (hc : Rd .u32 W vc x.2.2.2.2) (hs : W.cell? ⟨B, 0, none⟩ = some (.string s)) :
    Calls Tryd.prog 70 #[.agg #[.string nm, vu, .int .i64 x.2.2.1, vp, vc], .pointer (some ⟨B, 0, none⟩)] W fun e w' => e = .returned (.bool (decide (x.1 = L s))) ∧ Below W.heap.size W w' := by
  have hq := str_eq8 nm s _ (L s) hb (LB_bytes s) e0 (nums_LB s)
  obtain ⟨ua, uq, rfl⟩ := rd_slice hu
  obtain ⟨pa, pq, rfl⟩ := slr_slice hp
  obtain ⟨ca, cq, rfl⟩ := rd_slice hc
  obtain ⟨X, hX⟩ : ∃ X, x.2.2.1 = X := ⟨_, rfl⟩
  rw [hX]
  have st := stands_new W #[.string nm, .slice ua x.2.1.length uq, .int .i64 X, .slice pa x.2.2.2.1.length pq, .slice ca x.2.2.2.2.length cq] 56
  have bx := box_below W (.cells #[.string nm, .slice ua x.2.1.length uq, .int .i64 X, .slice pa x.2.2.2.1.length pq, .slice ca x.2.2.2.2.length cq] 56)
  have z0 := st.cell 0 _ rfl
  have l0 := below_cell bx hs
  clear hX e0
  go_enter Tryd.func70, Tryd.ntmps70
  go_wp2_with fail
  go_ret
  exact ⟨rfl, bx⟩

set_option maxHeartbeats 1000000 in
set_option maxRecDepth 100000 in
theorem w_pchild1 (nm : ByteArray) (vu vp vc : Value) (x : Nd) (P : Int) (g : Nat) (lb : Array Value) (q : Bool) (B B2 : Nat) (W : World) (eg : ∀ args w, (callFunc g args).run Tryd.prog w = .ok (.enter g args) w) (hu : Rd .u32 W vu x.2.1) (hp : SlR 2 propR W vp x.2.2.2.1) (hc : Rd .u32 W vc x.2.2.2.2) (hs : W.cell? ⟨B, 0, none⟩ = some (.int .i64 P)) (hs2 : W.cell? ⟨B2, 0, none⟩ = some (.func (.func g) #[] lb))
    (ha : ∀ W2, Below W.heap.size W W2 → Calls Tryd.prog g (#[.agg #[.string nm, vu, .int .i64 x.2.2.1, vp, vc]] ++ lb) W2 fun e w' => e = .returned (.bool q) ∧ Below W2.heap.size W2 w') :
    Calls Tryd.prog 64 #[.agg #[.string nm, vu, .int .i64 x.2.2.1, vp, vc], .pointer (some ⟨B, 0, none⟩), .pointer (some ⟨B2, 0, none⟩)] W fun e w' => e = .returned (.bool (decide (x.2.2.1 = P) && q)) ∧ Below W.heap.size W w' := by
  obtain ⟨ua, uq, rfl⟩ := rd_slice hu
  obtain ⟨pa, pq, rfl⟩ := slr_slice hp
  obtain ⟨ca, cq, rfl⟩ := rd_slice hc
  obtain ⟨X, hX⟩ : ∃ X, x.2.2.1 = X := ⟨_, rfl⟩
  rw [hX] at ha ⊢
  have st := stands_new W #[.string nm, .slice ua x.2.1.length uq, .int .i64 X, .slice pa x.2.2.2.1.length pq, .slice ca x.2.2.2.2.length cq] 56
  have bx := box_below W (.cells #[.string nm, .slice ua x.2.1.length uq, .int .i64 X, .slice pa x.2.2.2.1.length pq, .slice ca x.2.2.2.2.length cq] 56)
  have z0 := st.cell 0 _ rfl
  have z1 := st.cell 1 _ rfl
  have z2 := st.cell 2 _ rfl
  have z3 := st.cell 3 _ rfl
  have z4 := st.cell 4 _ rfl
  have l0 := below_cell bx hs
  have l1 := below_cell bx hs2
  have hca := ha _ bx
  by_cases h1 : X = P
  · have hq : (X == P) = true := by simpa using h1
    rw [decide_eq_true h1, Bool.true_and]
    clear h1 hX ha
    go_enter Tryd.func64, Tryd.ntmps64
    go_wp2_with (go_at_fn g; refine hca.mono ?_; rintro e w1 ⟨rfl, d1⟩)
    go_ret
    exact ⟨rfl, below_trans bx d1⟩
  · have hq : (X == P) = false := by simpa using h1
    rw [decide_eq_false h1, Bool.false_and]
    clear h1 hX ha hca
    go_enter Tryd.func64, Tryd.ntmps64
    go_wp2_with fail
    go_ret
    exact ⟨rfl, bx⟩

set_option maxHeartbeats 1000000 in
set_option maxRecDepth 100000 in
theorem w_pchild (v : Value) (t : List Nd) (P : Int) (g : Nat) (lb : Array Value) (p : Nd → Bool) (w : World) (eg : ∀ args w, (callFunc g args).run Tryd.prog w = .ok (.enter g args) w) (h : RdT w v t) (hp : AskN w g lb p t) :
    Calls Tryd.prog 50 #[v, .int .i64 P, .func (.func g) #[] lb] w fun e w' => e = .returned (.int .i64 (fdI (t.findIdx? (fun x => decide (x.2.2.1 = P) && p x)))) ∧ Below w.heap.size w w' := by
  have hmf : ∀ (fn : Fn) (first cap : Array Value) (w : World), (Instr.makeFunc fn first cap).run Tryd.prog w = .ok (.func fn first cap) w := fun _ _ _ _ => rfl
  have ec : ∀ args w, (callFunc 64 args).run Tryd.prog w = .ok (.enter 64 args) w := enters_of Tryd.func64 (by kernel_rfl) rfl
  obtain ⟨F, hF⟩ : ∃ F, 59 = F := ⟨_, rfl⟩
  have b1 := box_below w (.cells #[.int .i64 P] 3)
  have b2 := box_below (w.alloc (.cells #[.int .i64 P] 3)) (.cells #[.func (.func g) #[] lb] F)
  have z1 := ((stands_new w #[.int .i64 P] 3).below b2).cell 0 _ rfl
  have z2 := (stands_new (w.alloc (.cells #[.int .i64 P] 3)) #[.func (.func g) #[] lb] F).cell 0 _ rfl
  rw [size_al] at z2
  have b3 := below_trans b1 b2
  have ha : AskN ((w.alloc (.cells #[.int .i64 P] 3)).alloc (.cells #[.func (.func g) #[] lb] F)) 64 #[.pointer (some ⟨w.heap.size, 0, none⟩), .pointer (some ⟨w.heap.size + 1, 0, none⟩)] (fun x => decide (x.2.2.1 = P) && p x) t := by
    intro W nm vu vp vc x hb hx e0 hu hq hc
    exact w_pchild1 nm vu vp vc x P g lb (p x) _ _ W eg hu hq hc (below_cell hb z1) (below_cell hb z2) (fun W2 g2 => hp W2 nm vu vp vc x (below_trans (below_trans b3 hb) g2) hx e0 (hu.below g2) (hq.below g2 (propR_below g2)) (hc.below g2))
  have hc := w_pindexN v t _ _ _ _ ec (h.below b3) ha
  clear z1 z2 ha hp
  subst hF
  go_enter Tryd.func50, Tryd.ntmps50
  go_wp2_with (go_at_call 63; refine hc.mono ?_; rintro e w1 ⟨rfl, d1⟩)
  go_ret
  exact ⟨rfl, below_trans b3 d1⟩

/-
  Named of the document's answer for properties, that it only draws: for regions that draw their order.
-/
set_option maxHeartbeats 1000000 in
set_option maxRecDepth 100000 in
theorem w_rnamedQ (s : ByteArray) (w : World) (hs : s.size ≤ maxLen) :
    Calls Tryd.prog 39 #[.string s] w fun e w' => e = .returned (.bool (nmF (L s))) ∧ Dr w w' := by
  have hs2 := hs
  unfold maxLen at hs2
  have z0 := run_bad 0 (by omega)
  have z1 := run_bad 1 (by omega)
  have z2 := run_bad 2 (by omega)
  have z3 := run_bad 3 (by omega)
  have z4 := run_bad 4 (by omega)
  have z5 := run_bad 5 (by omega)
  simp only [List.getD_eq_getElem?_getD, List.getElem?_cons_zero, List.getElem?_cons_succ, Option.getD_some, Int.cast_ofNat_Int] at z0 z1 z2 z3 z4 z5
  by_cases h1 : 1 ≤ s.size ∧ s.size ≤ 31
  · obtain ⟨h1, h31⟩ := h1
    go_enter Tryd.func39, Tryd.ntmps39
    go_wp2_with fail
    go_loopw [3] (fun I wx => ∃ (k : Nat), (k : Int) ≤ s.size ∧ I = .int .i64 k ∧ Hid (((L s).take k).all nmC = true) ∧ Dr w wx) (fun I _ => (s.size - intOf I).toNat)
    case atStart => exact ⟨0, by omega, rfl, hid rfl, dr_refl _⟩
    case round =>
      obtain ⟨k, hk, rfl, ha, hb⟩ := hrel
      by_cases hlt : (k : Int) < s.size
      · have hkk : k < s.size := by omega
        obtain ⟨c, hc⟩ : ∃ c, (s[k].toNat : Int) = c := ⟨_, rfl⟩
        have hcb := L_bd s k hkk
        rw [hc] at hcb
        obtain ⟨c0, c1⟩ := hcb
        have hLd : Hid (L s = (L s).take k ++ c :: (L s).drop (k + 1)) := by
          show _ = _
          rw [← hc, ← L_drop s k hkk, List.take_append_drop]
        have hLt : Hid ((L s).take (k + 1) = (L s).take k ++ [c]) := by show _ = _; rw [← hc]; exact L_take s k hkk
        cases hcc : nmC c
        · have hf : Hid (nmF (L s) = false) := by show _ = _; rw [hLd.out]; exact nm_mid _ _ _ hcc
          have hcs : c < 33 ∨ 126 < c ∨ (65 ≤ c ∧ c ≤ 90) ∨ c = 47 ∨ c = 92 ∨ c = 58 ∨ c = 91 ∨ c = 93 ∨ c = 64 := by simp [nmC] at hcc; omega
          have hrun := run_at (w := wr) s k hkk hs
          rw [hc] at hrun
          clear hcc hLd hLt hc
          rcases hcs with h | h | h | h | h | h | h | h | h
          · go_wp2_with fail
            go_ret
            exact ⟨ret_b hf.out.symm, hb⟩
          · go_wp2_with fail
            go_ret
            exact ⟨ret_b hf.out.symm, hb⟩
          · obtain ⟨h, h'⟩ := h
            go_wp2_with fail
            go_ret
            exact ⟨ret_b hf.out.symm, hb⟩
          all_goals subst h
          all_goals go_wp2_with fail
          all_goals go_rounds 7
          all_goals go_ret
          all_goals exact ⟨ret_b hf.out.symm, hb⟩
        · have ha2 : Hid (((L s).take (k + 1)).all nmC = true) := by
            show _ = _
            rw [hLt.out, List.all_append, ha.out]
            simp [hcc]
          simp [nmC] at hcc
          have hrun := run_at (w := wr) s k hkk hs
          rw [hc] at hrun
          obtain ⟨q1, q2, q3, n1, n2, n3, n4, n5, n6⟩ := hcc
          clear hLd hLt hc
          rcases q3 with hq | hq
          all_goals go_wp2_with fail
          all_goals go_rounds 7
          all_goals go_roundw
          case rel => exact ⟨k + 1, by omega, by go_num, ha2, hb⟩
          case measure => simp [intOf]; omega
          case rel => exact ⟨k + 1, by omega, by go_num, ha2, hb⟩
          case measure => simp [intOf]; omega
      · have hf : Hid (nmF (L s) = true) := by
          show _ = _
          have := ha.out
          rw [List.take_of_length_le (by rw [L_len]; omega)] at this
          unfold nmF
          rw [this, L_len]
          simp
          omega
        go_wp2_with fail
        go_ret
        exact ⟨ret_b hf.out.symm, hb⟩
  · have hf : Hid (nmF (L s) = false) := by
      show _ = _
      unfold nmF
      rw [L_len]
      simp
      omega
    by_cases h0 : s.size < 1
    · go_enter Tryd.func39, Tryd.ntmps39
      go_wp2_with fail
      go_ret
      exact ⟨ret_b hf.out.symm, dr_refl _⟩
    · have h32 : (31 : Int) < s.size := by omega
      go_enter Tryd.func39, Tryd.ntmps39
      go_wp2_with fail
      go_ret
      exact ⟨ret_b hf.out.symm, dr_refl _⟩

/-
  Formed of the document's answer for trees.
-/
/-- the first ones of a slice -/
theorem slr_head {α : Type} {P : Program} {R : World → List Value → α → Prop} {w : World} {v : Value} {xs : List α} {sz : Nat} (h : SlR sz R w v xs) {t : TypeId} (ht : P.underlying t = some (.slice (P.elem t))) (hs : ∀ w, (sizeOf (P.elem t)).run P w = .ok sz w) (n : Nat) (hn : n ≤ xs.length) :
    ∃ v', (∀ w', (Instr.slice t v none (some (.int .i64 (n : Int))) none).run P w' = .ok v' w') ∧ SlR sz R w v' (xs.take n) := by
  obtain ⟨rows, h1, h2, h3⟩ := h
  obtain ⟨ao, cap, rfl, hc, hno, hx⟩ := h1.form
  refine ⟨sliced ao 0 n cap sz, fun w' => ?_, rows.take n, ?_, by simp [h2], fun i hi => ?_⟩
  · rw [run_slice_h w' t ao rows.length cap ht .i64 (n : Int) (by omega) (by omega), hs]
    simp [Result.andThen]
  · rcases Nat.eq_zero_or_pos n with h0 | h0
    · subst h0
      refine Or.inl ⟨if cap = 0 then ao else ao.map (·.add (0 * sz)), cap, by simp [sliced], ?_, by simp⟩
      intro he
      by_cases hc0 : cap = 0
      · exact hc0
      · rw [if_neg hc0] at he
        cases ao with
        | none => exact hno rfl
        | some a => cases he
    · obtain ⟨hm, b, off, rfl, hcell⟩ := hx (by omega)
      have hl : (rows.take n).length = n := by simp; omega
      refine Or.inr ⟨b, off, cap, ?_, by omega, by omega, hm, fun i hi => ?_⟩
      · rw [sliced, hl, if_neg (by omega)]
        simp [Addr.add]
      · rw [hl] at hi
        have e : (rows.take n).getD i [] = rows.getD i [] := by
          rw [List.getD_eq_getElem?_getD, List.getD_eq_getElem?_getD, List.getElem?_take, if_pos hi]
        rw [e]
        exact hcell i (by omega)
  · have hi2 : i < n := by simp at hi; omega
    have e : (rows.take n).getD i [] = rows.getD i [] := by
      rw [List.getD_eq_getElem?_getD, List.getD_eq_getElem?_getD, List.getElem?_take, if_pos hi2]
    rw [e, List.getElem_take]
    exact h3 i (by simp at hi; omega)
theorem frm_bad {t : List Nd} (i : Nat) (h : i < t.length) (hb : okN t i t[i] = false) : frmT t = false := by
  rw [Bool.eq_false_iff]
  intro hf
  obtain ⟨_, _, _, g⟩ := (frm_iff t).1 hf
  have := g i h
  rw [hb] at this
  cases this
theorem frm_len {t : List Nd} (h : t.length = 0 ∨ 32 < t.length) : frmT t = false := by
  rw [Bool.eq_false_iff]
  intro hf
  obtain ⟨g0, g1, _⟩ := (frm_iff t).1 hf
  omega
theorem frm_root {t : List Nd} (h : 0 < t.length) (hb : rootF t[0] = false) : frmT t = false := by
  rw [Bool.eq_false_iff]
  intro hf
  obtain ⟨_, _, g, _⟩ := (frm_iff t).1 hf
  rw [hb] at g
  cases g
theorem okN_A {t : List Nd} {i : Nat} {x : Nd} (h0 : ¬ i = 0) (h : okA t i x = false) : okN t i x = false := by
  unfold okN
  rw [h, decide_eq_false h0]
  rfl
theorem okN_16 {t : List Nd} {i : Nat} {x : Nd} (h : 16 < x.2.2.2.1.length ∨ 16 < x.2.2.2.2.length) : okN t i x = false := by
  rw [Bool.eq_false_iff]
  intro g
  unfold okN at g
  simp only [Bool.and_eq_true, decide_eq_true_eq] at g
  omega
theorem okN_R {t : List Nd} {i : Nat} {x : Nd} (h : okR x.2.2.2.1 = false) : okN t i x = false := by
  unfold okN
  rw [h]
  simp
theorem okR_bad {l : List Pp} (k : Nat) (h : k < l.length) (hb : okP l k l[k] = false) : okR l = false := by
  rw [Bool.eq_false_iff]
  intro g
  unfold okR at g
  rw [decide_eq_true_eq] at g
  have := g k h
  rw [hb] at this
  cases this
theorem okA_bad {t : List Nd} {i : Nat} {x : Nd} (h : nmF x.1 = false ∨ 4 < x.2.1.length ∨ x.2.2.1 < 0 ∨ (i : Int) ≤ x.2.2.1 ∨ twF (t.take i) x.2.2.1 x.1 x.2.1 = true) : okA t i x = false := by
  rw [Bool.eq_false_iff]
  intro g
  unfold okA at g
  simp only [Bool.and_eq_true, decide_eq_true_eq, Bool.not_eq_true'] at g
  obtain ⟨g1, g2, g3, g4, g5⟩ := g
  rcases h with h | h | h | h | h
  · rw [g1] at h; cases h
  · omega
  · omega
  · omega
  · rw [g5] at h; cases h
theorem okP_bad {l : List Pp} {k : Nat} {x : Pp} (h : nmF x.1 = false ∨ 256 < x.2.length ∨ (0 : Int) ≤ fdI (pfF (l.take k) x.1)) : okP l k x = false := by
  rw [Bool.eq_false_iff]
  intro g
  unfold okP at g
  simp only [Bool.and_eq_true, decide_eq_true_eq, Option.isNone_iff_eq_none] at g
  obtain ⟨g1, g2, g3⟩ := g
  rcases h with h | h | h
  · rw [g1] at h; cases h
  · omega
  · rw [g3] at h
    unfold fdI at h
    simp at h
theorem okP_good {l : List Pp} {k : Nat} {x : Pp} (h1 : nmF x.1 = true) (h2 : ¬ 256 < x.2.length) (h3 : ¬ (0 : Int) ≤ fdI (pfF (l.take k) x.1)) : okP l k x = true := by
  unfold okP
  simp only [Bool.and_eq_true, decide_eq_true_eq, Option.isNone_iff_eq_none]
  refine ⟨h1, by omega, ?_⟩
  cases hp : pfF (l.take k) x.1 with
  | none => rfl
  | some j =>
    rw [hp] at h3
    unfold fdI at h3
    simp at h3

set_option maxHeartbeats 8000000 in
set_option maxRecDepth 100000 in
theorem w_r8formed (v : Value) (t : List Nd) (w : World) (h : RdT w v t) (bt : ∀ x ∈ t, bytN x) (ls : ∀ x ∈ t, x.1.length ≤ maxLen ∧ ∀ p ∈ x.2.2.2.1, p.1.length ≤ maxLen) :
    Calls Tryd.prog 11 #[v] w fun e w' => e = .returned (.bool (frmT t)) ∧ Below w.heap.size w w' := by
  have hla := slr_len h uN (P := Tryd.prog)
  have hm := slr_max h
  unfold maxLen at hm
  by_cases h0 : t.length = 0
  · have hf := hid (frm_len (Or.inl h0))
    have hl1 : (t.length : Int) < 1 := by omega
    clear h0
    go_enter Tryd.func11, Tryd.ntmps11
    go_wp2_with fail
    go_ret
    exact ⟨ret_b hf.out.symm, Below.refl _ _⟩
  · by_cases h32 : 32 < t.length
    · have hf := hid (frm_len (Or.inr h32))
      have hl1 : ¬ (t.length : Int) < 1 := by omega
      have hl2 : (32 : Int) < t.length := by omega
      clear h0 h32
      go_enter Tryd.func11, Tryd.ntmps11
      go_wp2_with fail
      go_ret
      exact ⟨ret_b hf.out.symm, Below.refl _ _⟩
    · have hl1 : ¬ (t.length : Int) < 1 := by omega
      have hl2 : ¬ (32 : Int) < t.length := by omega
      have ht0 : 0 < t.length := by omega
      obtain ⟨b0, o0, N0, u0, p0, k0, r0, z0, z1, z2, z3, z4, e0, hu0, hp0, hc0⟩ := nod_at h 0 ht0
      have r0' : ∀ w', (Instr.indexAt 22 v (.int .i64 0)).run Tryd.prog w' = .ok (.pointer (some ⟨b0, o0, none⟩)) w' := r0
      obtain ⟨ua0, uq0, rfl⟩ := rd_slice hu0
      have hN0 : L N0 = t[0].1 := by rw [← e0]; exact LB_nums _ (bt _ (List.getElem_mem ht0)).1
      have hNe : (N0.toList == []) = decide (t[0].1 = []) := by
        rw [← hN0, Bool.eq_iff_iff, beq_iff_eq, decide_eq_true_eq]
        unfold L
        rw [ByteArray.toList_eq]
        simp
      obtain ⟨P0, hP0⟩ : ∃ X, t[0].2.2.1 = X := ⟨_, rfl⟩
      rw [hP0] at z2
      obtain ⟨n0, hn0⟩ : ∃ n, t[0].2.1.length = n := ⟨_, rfl⟩
      rw [hn0] at z1
      by_cases g1 : t[0].1 = []
      · rw [decide_eq_true g1] at hNe
        have hNn : (N0.toList != []) = false := by simp [bne, hNe]
        have hNi : N0.toList.isEmpty = true := by rw [← hNe]; cases N0.toList <;> rfl
        by_cases g2 : t[0].2.1 = []
        · have hU0 : ¬ (0 : Int) < n0 := by rw [← hn0, g2]; simp
          by_cases g3 : t[0].2.2.1 = -1
          · have hP1 : (P0 != -1) = false := by rw [← hP0, g3]; decide
            have hroot : Hid (rootF t[0] = true) := by show _ = _; unfold rootF; simp [g1, g2, g3]
            have hlen32 : Hid (t.length ≤ 32 ∧ 1 ≤ t.length) := ⟨by omega, by omega⟩
            clear g1 g2 g3 hP0 hNe hN0 e0 r0 h0 h32 hn0 hu0
            go_enter Tryd.func11, Tryd.ntmps11
            go_wp2_with fail
            go_loopw [3] (fun I wx => ∃ i : Nat, (i : Int) ≤ t.length ∧ I = .int .i64 i ∧ Hid (∀ j (g : j < i) (hj : j < t.length), okN t j t[j] = true) ∧ Below w.heap.size w wx) (fun I _ => (t.length - intOf I).toNat)
            case atStart => exact ⟨0, by omega, rfl, hid (fun j g => by omega), Below.refl _ _⟩
            case round =>
              obtain ⟨i, hi, rfl, hok, hb⟩ := hrel
              by_cases hlt : (i : Int) < t.length
              · have hil : i < t.length := by omega
                obtain ⟨b1, o1, nm, u1, p1, c1, r1, f0, f1, f2, f3, f4, e1, hu1, hp1, hc1⟩ := nod_at h i hil
                obtain ⟨ua, uq, rfl⟩ := rd_slice hu1
                obtain ⟨pa, pq, rfl⟩ := slr_slice hp1
                obtain ⟨ca, cq, rfl⟩ := rd_slice hc1
                obtain ⟨P, hP⟩ : ∃ X, t[i].2.2.1 = X := ⟨_, rfl⟩
                rw [hP] at f2
                have l0 := below_cell hb f0
                have l1 := below_cell hb f1
                have l2 := below_cell hb f2
                have l3 := below_cell hb f3
                have l4 := below_cell hb f4
                clear f0 f1 f2 f3 f4
                have hNL : L nm = t[i].1 := by rw [← e1]; exact LB_nums _ (bt _ (List.getElem_mem hil)).1
                have cn := fun w => w_rnamedQ nm w (by rw [← L_len, hNL]; exact (ls _ (List.getElem_mem hil)).1)
                have ct := fun W (g : Below w.heap.size w W) => w_r8twin v t i P nm _ t[i].2.1 W (h.below g) (hu1.below g) bt (by omega)
                simp only [hNL] at cn ct
                have st0 := stands_new wr #[.string nm, .slice ua t[i].2.1.length uq, .int .i64 P, .slice pa t[i].2.2.2.1.length pq, .slice ca t[i].2.2.2.2.length cq] 56
                have hbx := box_below wr (.cells #[.string nm, .slice ua t[i].2.1.length uq, .int .i64 P, .slice pa t[i].2.2.2.1.length pq, .slice ca t[i].2.2.2.2.length cq] 56)
                have hb0 := below_trans hb hbx
                have bad := fun (h0 : ¬ i = 0) g => hid (frm_bad i hil (okN_A h0 (okA_bad g)))
                by_cases hz : i = 0
                · have hi0 : ¬ (0 : Int) < i := by omega
                  have hA : Hid ((decide (i = 0) || okA t i t[i]) = true) := by show _ = _; rw [decide_eq_true hz]; rfl
                  clear bad cn ct hNL e1 hP hz
                  go_upto_region 9 with (fail)
                  obtain ⟨W0, hW0⟩ : ∃ W0, wr.alloc (.cells #[.string nm, .slice ua t[i].2.1.length uq, .int .i64 P, .slice pa t[i].2.2.2.1.length pq, .slice ca t[i].2.2.2.2.length cq] 56) = W0 := ⟨_, rfl⟩
                  rw [hW0] at st0 hb0 ⊢
                  clear hW0 hbx l0 l1 l2 l3 l4
                  have m3 := st0.cell 3 _ rfl
                  have m4 := st0.cell 4 _ rfl
                  by_cases hp16 : 16 < t[i].2.2.2.1.length
                  · have hf := hid (frm_bad i hil (okN_16 (Or.inl hp16)))
                    have y1 : (16 : Int) < t[i].2.2.2.1.length := by omega
                    go_wp2_with fail
                    go_ret
                    exact ⟨ret_b hf.out.symm, hb0⟩
                  · have y1 : ¬ (16 : Int) < t[i].2.2.2.1.length := by omega
                    by_cases hc16 : 16 < t[i].2.2.2.2.length
                    · have hf := hid (frm_bad i hil (okN_16 (Or.inr hc16)))
                      have y2 : (16 : Int) < t[i].2.2.2.2.length := by omega
                      go_wp2_with fail
                      go_ret
                      exact ⟨ret_b hf.out.symm, hb0⟩
                    · have y2 : ¬ (16 : Int) < t[i].2.2.2.2.length := by omega
                      have h16 : Hid (t[i].2.2.2.1.length ≤ 16 ∧ t[i].2.2.2.2.length ≤ 16) := ⟨by omega, by omega⟩
                      go_wp2_with fail
                      go_loopw [5] (fun K wx => ∃ k : Nat, (k : Int) ≤ t[i].2.2.2.1.length ∧ K = .int .i64 k ∧ Hid (∀ m (g : m < k) (hm : m < t[i].2.2.2.1.length), okP t[i].2.2.2.1 m t[i].2.2.2.1[m] = true) ∧ Below W0.heap.size W0 wx) (fun K _ => (t[i].2.2.2.1.length - intOf K).toNat)
                      case atStart => exact ⟨0, by omega, rfl, hid (fun m g => by omega), Below.refl _ _⟩
                      case round =>
                        obtain ⟨k, hk, rfl, hkp, hgk⟩ := hrel
                        have bk := below_trans hb0 hgk
                        have sk := st0.below hgk
                        have j3 := sk.cell 3 _ rfl
                        by_cases hkt : (k : Int) < t[i].2.2.2.1.length
                        · have hkl : k < t[i].2.2.2.1.length := by omega
                          have hpk := hp1.below bk (propR_below bk)
                          obtain ⟨bp, op, pn, vd, rp, s0, s1, en, hd⟩ := prp_at8 hpk k hkl
                          obtain ⟨da, dq, rfl⟩ := rd_slice hd
                          obtain ⟨vt, it, rt⟩ := slr_head hpk uR zR k (by omega)
                          have hpL : L pn = t[i].2.2.2.1[k].1 := by rw [← en]; exact LB_nums _ (((bt _ (List.getElem_mem hil)).2 _ (List.getElem_mem hkl)).1)
                          have cn9 := fun w => w_rnamedQ pn w (by rw [← L_len, hpL]; exact (ls _ (List.getElem_mem hil)).2 _ (List.getElem_mem hkl))
                          have cf9 := fun W (g : Below wr.heap.size wr W) => w_r8find vt _ pn W (rt.below g (propR_below g)) (fun x hx => ((bt _ (List.getElem_mem hil)).2 x (List.mem_of_mem_take hx)).1)
                          simp only [hpL] at cn9 cf9
                          have bad : okP t[i].2.2.2.1 k t[i].2.2.2.1[k] = false → Hid (frmT t = false) := fun g => frm_bad i hil (okN_R (okR_bad k hkl g))
                          cases hnm : nmF t[i].2.2.2.1[k].1
                          · have hf := bad (okP_bad (Or.inl hnm))
                            rw [hnm] at cn9
                            clear hnm bad cf9 en hpL
                            go_wp2_with fail
                            go_quiet (first | (go_at_call 39; exact Calls.quiet_of (cn9 _)))
                            go_wp2_with fail
                            go_ret
                            exact ⟨ret_b hf.out.symm, below_drewN bk _⟩
                          · rw [hnm] at cn9
                            by_cases hd256 : 256 < t[i].2.2.2.1[k].2.length
                            · have hf := bad (okP_bad (Or.inr (Or.inl hd256)))
                              have y5 : (256 : Int) < t[i].2.2.2.1[k].2.length := by omega
                              clear hnm bad cf9 en hpL hd256
                              go_wp2_with fail
                              go_quiet (first | (go_at_call 39; exact Calls.quiet_of (cn9 _)))
                              go_wp2_with fail
                              go_ret
                              exact ⟨ret_b hf.out.symm, below_drewN bk _⟩
                            · have y5 : ¬ (256 : Int) < t[i].2.2.2.1[k].2.length := by omega
                              have good : ¬ (0 : Int) ≤ fdI (pfF (t[i].2.2.2.1.take k) t[i].2.2.2.1[k].1) → okP t[i].2.2.2.1 k t[i].2.2.2.1[k] = true := okP_good hnm hd256
                              have bad2 := fun g => bad (okP_bad (Or.inr (Or.inr g)))
                              obtain ⟨F, hF⟩ : ∃ F, fdI (pfF (t[i].2.2.2.1.take k) t[i].2.2.2.1[k].1) = F := ⟨_, rfl⟩
                              rw [hF] at good bad2
                              simp only [hF] at cf9
                              by_cases hF0 : 0 ≤ F
                              · have hf := bad2 hF0
                                clear hnm bad bad2 good en hpL hd256 hF
                                go_wp2_with fail
                                go_quiet (first | (go_at_call 39; exact Calls.quiet_of (cn9 _)) | (go_at_call 41; exact Calls.quiet_of_same (cf9 _ (below_drewN (Below.refl _ _) _))))
                                go_wp2_with fail
                                go_ret
                                exact ⟨ret_b hf.out.symm, below_drewN bk _⟩
                              · have hkp2 : Hid (∀ m (g : m < k + 1) (hm : m < t[i].2.2.2.1.length), okP t[i].2.2.2.1 m t[i].2.2.2.1[m] = true) := by
                                  show ∀ m _ _, _
                                  intro m g hm
                                  by_cases hmk : m < k
                                  · exact hkp.out m hmk hm
                                  · have : m = k := by omega
                                    subst this
                                    exact good hF0
                                clear hnm bad bad2 good en hpL hd256 hF
                                go_wp2_with fail
                                go_quiet (first | (go_at_call 39; exact Calls.quiet_of (cn9 _)) | (go_at_call 41; exact Calls.quiet_of_same (cf9 _ (below_drewN (Below.refl _ _) _))))
                                go_wp2_with fail
                                go_roundw
                                case rel => exact ⟨k + 1, by omega, by go_num, hkp2, below_drewN hgk _⟩
                                case measure => simp [intOf]; omega
                        · have hok2 : Hid (∀ j (g : j < i + 1) (hj : j < t.length), okN t j t[j] = true) := by
                            show ∀ j _ _, _
                            intro j g hj
                            by_cases hji : j < i
                            · exact hok.out j hji hj
                            · have : j = i := by omega
                              subst this
                              have hR : okR t[j].2.2.2.1 = true := by unfold okR; rw [decide_eq_true_eq]; exact fun m hm => hkp.out m (by omega) hm
                              unfold okN
                              rw [hR, decide_eq_true h16.out.1, decide_eq_true h16.out.2]
                              have := hA.out
                              simpa using this
                          go_wp2_with fail
                          go_roundw
                          case rel => exact ⟨i + 1, by omega, by go_num, hok2, bk⟩
                          case measure => simp [intOf]; omega
                · have hi0 : (0 : Int) < i := by omega
                  have a3 := st0.cell 0 _ rfl
                  cases hnm : nmF t[i].1
                  · have hf := bad hz (Or.inl hnm)
                    rw [hnm] at cn
                    clear bad ct hNL e1 hP hz hnm
                    go_wp2_with (go_at_call 39; refine (cn _).mono ?_; rintro e q1 ⟨rfl, d1⟩; have st1 := st0.below (dr_below d1); have a1 := st1.cell 1 _ rfl; have a2 := st1.cell 2 _ rfl; have a0 := st1.cell 0 _ rfl; have bb1 := below_trans hb0 (dr_below d1))
                    go_ret
                    exact ⟨ret_b hf.out.symm, bb1⟩
                  · rw [hnm] at cn
                    by_cases hu4 : 4 < t[i].2.1.length
                    · have hf := bad hz (Or.inr (Or.inl hu4))
                      have y0 : (4 : Int) < t[i].2.1.length := by omega
                      clear bad ct hNL e1 hP hz hnm hu4
                      go_wp2_with (go_at_call 39; refine (cn _).mono ?_; rintro e q1 ⟨rfl, d1⟩; have st1 := st0.below (dr_below d1); have a1 := st1.cell 1 _ rfl; have a2 := st1.cell 2 _ rfl; have a0 := st1.cell 0 _ rfl; have bb1 := below_trans hb0 (dr_below d1))
                      go_ret
                      exact ⟨ret_b hf.out.symm, bb1⟩
                    · have y0 : ¬ (4 : Int) < t[i].2.1.length := by omega
                      by_cases hp0 : P < 0
                      · have hf := bad hz (Or.inr (Or.inr (Or.inl (by rw [hP]; exact hp0))))
                        clear bad ct hNL e1 hP hz hnm hu4
                        go_wp2_with (go_at_call 39; refine (cn _).mono ?_; rintro e q1 ⟨rfl, d1⟩; have st1 := st0.below (dr_below d1); have a1 := st1.cell 1 _ rfl; have a2 := st1.cell 2 _ rfl; have a0 := st1.cell 0 _ rfl; have bb1 := below_trans hb0 (dr_below d1))
                        go_ret
                        exact ⟨ret_b hf.out.symm, bb1⟩
                      · by_cases hpi : (i : Int) ≤ P
                        · have hf := bad hz (Or.inr (Or.inr (Or.inr (Or.inl (by rw [hP]; exact hpi)))))
                          clear bad ct hNL e1 hP hz hnm hu4
                          go_wp2_with (go_at_call 39; refine (cn _).mono ?_; rintro e q1 ⟨rfl, d1⟩; have st1 := st0.below (dr_below d1); have a1 := st1.cell 1 _ rfl; have a2 := st1.cell 2 _ rfl; have a0 := st1.cell 0 _ rfl; have bb1 := below_trans hb0 (dr_below d1))
                          go_ret
                          exact ⟨ret_b hf.out.symm, bb1⟩
                        · cases htw : twF (t.take i) P t[i].1 t[i].2.1
                          · simp only [htw] at ct
                            have hA : Hid ((decide (i = 0) || okA t i t[i]) = true) := by
                              show _ = _
                              unfold okA
                              rw [hnm, hP, htw]
                              simp
                              omega
                            clear bad hNL e1 hP hz hnm hu4 htw
                            go_upto_region 9 with (first | (go_at_call 39; refine (cn _).mono ?_; rintro e q1 ⟨rfl, d1⟩; have st1 := st0.below (dr_below d1); have a1 := st1.cell 1 _ rfl; have a2 := st1.cell 2 _ rfl; have a0 := st1.cell 0 _ rfl; have bb1 := below_trans hb0 (dr_below d1)) | (go_at_call 40; refine (ct _ bb1).mono ?_; rintro e q2 ⟨rfl, d2⟩; have bb2 := below_trans bb1 (dr_below d2); have st2 := st1.below (dr_below d2)))
                            clear hbx l0 l1 l2 l3 l4
                            have m3 := st2.cell 3 _ rfl
                            have m4 := st2.cell 4 _ rfl
                            by_cases hp16 : 16 < t[i].2.2.2.1.length
                            · have hf := hid (frm_bad i hil (okN_16 (Or.inl hp16)))
                              have y1 : (16 : Int) < t[i].2.2.2.1.length := by omega
                              go_wp2_with fail
                              go_ret
                              exact ⟨ret_b hf.out.symm, bb2⟩
                            · have y1 : ¬ (16 : Int) < t[i].2.2.2.1.length := by omega
                              by_cases hc16 : 16 < t[i].2.2.2.2.length
                              · have hf := hid (frm_bad i hil (okN_16 (Or.inr hc16)))
                                have y2 : (16 : Int) < t[i].2.2.2.2.length := by omega
                                go_wp2_with fail
                                go_ret
                                exact ⟨ret_b hf.out.symm, bb2⟩
                              · have y2 : ¬ (16 : Int) < t[i].2.2.2.2.length := by omega
                                have h16 : Hid (t[i].2.2.2.1.length ≤ 16 ∧ t[i].2.2.2.2.length ≤ 16) := ⟨by omega, by omega⟩
                                go_wp2_with fail
                                go_loopw [5] (fun K wx => ∃ k : Nat, (k : Int) ≤ t[i].2.2.2.1.length ∧ K = .int .i64 k ∧ Hid (∀ m (g : m < k) (hm : m < t[i].2.2.2.1.length), okP t[i].2.2.2.1 m t[i].2.2.2.1[m] = true) ∧ Below q2.heap.size q2 wx) (fun K _ => (t[i].2.2.2.1.length - intOf K).toNat)
                                case atStart => exact ⟨0, by omega, rfl, hid (fun m g => by omega), Below.refl _ _⟩
                                case round =>
                                  obtain ⟨k, hk, rfl, hkp, hgk⟩ := hrel
                                  have bk := below_trans bb2 hgk
                                  have sk := st2.below hgk
                                  have j3 := sk.cell 3 _ rfl
                                  by_cases hkt : (k : Int) < t[i].2.2.2.1.length
                                  · have hkl : k < t[i].2.2.2.1.length := by omega
                                    have hpk := hp1.below bk (propR_below bk)
                                    obtain ⟨bp, op, pn, vd, rp, s0, s1, en, hd⟩ := prp_at8 hpk k hkl
                                    obtain ⟨da, dq, rfl⟩ := rd_slice hd
                                    obtain ⟨vt, it, rt⟩ := slr_head hpk uR zR k (by omega)
                                    have hpL : L pn = t[i].2.2.2.1[k].1 := by rw [← en]; exact LB_nums _ (((bt _ (List.getElem_mem hil)).2 _ (List.getElem_mem hkl)).1)
                                    have cn9 := fun w => w_rnamedQ pn w (by rw [← L_len, hpL]; exact (ls _ (List.getElem_mem hil)).2 _ (List.getElem_mem hkl))
                                    have cf9 := fun W (g : Below wr.heap.size wr W) => w_r8find vt _ pn W (rt.below g (propR_below g)) (fun x hx => ((bt _ (List.getElem_mem hil)).2 x (List.mem_of_mem_take hx)).1)
                                    simp only [hpL] at cn9 cf9
                                    have bad : okP t[i].2.2.2.1 k t[i].2.2.2.1[k] = false → Hid (frmT t = false) := fun g => frm_bad i hil (okN_R (okR_bad k hkl g))
                                    cases hnm : nmF t[i].2.2.2.1[k].1
                                    · have hf := bad (okP_bad (Or.inl hnm))
                                      rw [hnm] at cn9
                                      clear hnm bad cf9 en hpL
                                      go_wp2_with fail
                                      go_quiet (first | (go_at_call 39; exact Calls.quiet_of (cn9 _)))
                                      go_wp2_with fail
                                      go_ret
                                      exact ⟨ret_b hf.out.symm, below_drewN bk _⟩
                                    · rw [hnm] at cn9
                                      by_cases hd256 : 256 < t[i].2.2.2.1[k].2.length
                                      · have hf := bad (okP_bad (Or.inr (Or.inl hd256)))
                                        have y5 : (256 : Int) < t[i].2.2.2.1[k].2.length := by omega
                                        clear hnm bad cf9 en hpL hd256
                                        go_wp2_with fail
                                        go_quiet (first | (go_at_call 39; exact Calls.quiet_of (cn9 _)))
                                        go_wp2_with fail
                                        go_ret
                                        exact ⟨ret_b hf.out.symm, below_drewN bk _⟩
                                      · have y5 : ¬ (256 : Int) < t[i].2.2.2.1[k].2.length := by omega
                                        have good : ¬ (0 : Int) ≤ fdI (pfF (t[i].2.2.2.1.take k) t[i].2.2.2.1[k].1) → okP t[i].2.2.2.1 k t[i].2.2.2.1[k] = true := okP_good hnm hd256
                                        have bad2 := fun g => bad (okP_bad (Or.inr (Or.inr g)))
                                        obtain ⟨F, hF⟩ : ∃ F, fdI (pfF (t[i].2.2.2.1.take k) t[i].2.2.2.1[k].1) = F := ⟨_, rfl⟩
                                        rw [hF] at good bad2
                                        simp only [hF] at cf9
                                        by_cases hF0 : 0 ≤ F
                                        · have hf := bad2 hF0
                                          clear hnm bad bad2 good en hpL hd256 hF
                                          go_wp2_with fail
                                          go_quiet (first | (go_at_call 39; exact Calls.quiet_of (cn9 _)) | (go_at_call 41; exact Calls.quiet_of_same (cf9 _ (below_drewN (Below.refl _ _) _))))
                                          go_wp2_with fail
                                          go_ret
                                          exact ⟨ret_b hf.out.symm, below_drewN bk _⟩
                                        · have hkp2 : Hid (∀ m (g : m < k + 1) (hm : m < t[i].2.2.2.1.length), okP t[i].2.2.2.1 m t[i].2.2.2.1[m] = true) := by
                                            show ∀ m _ _, _
                                            intro m g hm
                                            by_cases hmk : m < k
                                            · exact hkp.out m hmk hm
                                            · have : m = k := by omega
                                              subst this
                                              exact good hF0
                                          clear hnm bad bad2 good en hpL hd256 hF
                                          go_wp2_with fail
                                          go_quiet (first | (go_at_call 39; exact Calls.quiet_of (cn9 _)) | (go_at_call 41; exact Calls.quiet_of_same (cf9 _ (below_drewN (Below.refl _ _) _))))
                                          go_wp2_with fail
                                          go_roundw
                                          case rel => exact ⟨k + 1, by omega, by go_num, hkp2, below_drewN hgk _⟩
                                          case measure => simp [intOf]; omega
                                  · have hok2 : Hid (∀ j (g : j < i + 1) (hj : j < t.length), okN t j t[j] = true) := by
                                      show ∀ j _ _, _
                                      intro j g hj
                                      by_cases hji : j < i
                                      · exact hok.out j hji hj
                                      · have : j = i := by omega
                                        subst this
                                        have hR : okR t[j].2.2.2.1 = true := by unfold okR; rw [decide_eq_true_eq]; exact fun m hm => hkp.out m (by omega) hm
                                        unfold okN
                                        rw [hR, decide_eq_true h16.out.1, decide_eq_true h16.out.2]
                                        have := hA.out
                                        simpa using this
                                    go_wp2_with fail
                                    go_roundw
                                    case rel => exact ⟨i + 1, by omega, by go_num, hok2, bk⟩
                                    case measure => simp [intOf]; omega
                          · have hf := bad hz (Or.inr (Or.inr (Or.inr (Or.inr (by rw [hP]; exact htw)))))
                            simp only [htw] at ct
                            clear bad hNL e1 hP hz hnm hu4 htw
                            go_wp2_with (first | (go_at_call 39; refine (cn _).mono ?_; rintro e q1 ⟨rfl, d1⟩; have st1 := st0.below (dr_below d1); have a1 := st1.cell 1 _ rfl; have a2 := st1.cell 2 _ rfl; have a0 := st1.cell 0 _ rfl; have bb1 := below_trans hb0 (dr_below d1)) | (go_at_call 40; refine (ct _ bb1).mono ?_; rintro e q2 ⟨rfl, d2⟩; have bb2 := below_trans bb1 (dr_below d2); have st2 := st1.below (dr_below d2)))
                            go_ret
                            exact ⟨ret_b hf.out.symm, bb2⟩
              · have hf : Hid (frmT t = true) := by
                  show _ = _
                  rw [frm_iff]
                  exact ⟨hlen32.out.2, hlen32.out.1, hroot.out, fun j hj => hok.out j (by omega) hj⟩
                go_wp2_with fail
                go_ret
                exact ⟨ret_b hf.out.symm, hb⟩
          · have hP1 : (P0 != -1) = true := by rw [← hP0]; simpa using g3
            have hf := hid (frm_root ht0 (show rootF t[0] = false by unfold rootF; simp [g3]))
            clear g1 g2 g3 hP0 hNe hN0 e0 r0 h0 h32 hn0 hu0
            go_enter Tryd.func11, Tryd.ntmps11
            go_wp2_with fail
            go_ret
            exact ⟨ret_b hf.out.symm, Below.refl _ _⟩
        · have hU0 : (0 : Int) < n0 := by have := List.length_pos_iff.2 g2; omega
          have hf := hid (frm_root ht0 (show rootF t[0] = false by unfold rootF; simp [g2]))
          clear g1 g2 hP0 hNe hN0 e0 r0 h0 h32 hn0 hu0
          go_enter Tryd.func11, Tryd.ntmps11
          go_wp2_with fail
          go_ret
          exact ⟨ret_b hf.out.symm, Below.refl _ _⟩
      · rw [decide_eq_false g1] at hNe
        have hNn : (N0.toList != []) = true := by simp [bne, hNe]
        have hNi : N0.toList.isEmpty = false := by rw [← hNe]; cases N0.toList <;> rfl
        have hf := hid (frm_root ht0 (show rootF t[0] = false by unfold rootF; simp [g1]))
        clear g1 hP0 hNe hN0 e0 r0 h0 h32 hn0 hu0
        go_enter Tryd.func11, Tryd.ntmps11
        go_wp2_with fail
        go_ret
        exact ⟨ret_b hf.out.symm, Below.refl _ _⟩

end Go.Proofs.YtkdaimagdmbnfaaDoor
