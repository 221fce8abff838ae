/-
  Texts of one proof, laid one behind the other: Tf5 Rt6 Tf6 Rt7 Rt8 Rta Rtb Rtc.
-/
import Derived.Test.YtkdaimagdmbnfaaDoorB3
import Derived.Deep.RegionHeld
import Derived.Deep.Cut
import Derived.Deep.CutRange
import Derived.Deep.DeepCutAuto
namespace Go.Proofs.YtkdaimagdmbnfaaDoor
open Go.ChangeShapes Go.WideShapes Go.ChangeAt Go.RowKit
set_option linter.unusedVariables false
set_option linter.unusedSimpArgs false

/-
  Package tree's device, find, New, Get, Next and Children.
-/
set_option maxHeartbeats 1000000 in
theorem w_pdevice (v : Value) (t : List Nd) (n : Int) (w : World) (h : RdT w v t) (bt : ∀ x ∈ t, bytN x) (ls : ∀ x ∈ t, lenN x) :
    Calls Tryd.prog 48 #[v, .int .i64 n] w fun e w' => e = .returned (.int .i64 (wrgF t n)) ∧ Below w.heap.size w w' := by
  have hla := slr_len h uN (P := Tryd.prog)
  have cf := w_p8formed' v t w h bt ls
  cases hf : frmT t
  · have e : wrgF t n = 1 := by unfold wrgF; rw [if_pos hf]
    rw [e]
    rw [hf] at cf
    clear e hf
    go_enter Tryd.func48, Tryd.ntmps48
    go_wp2_with (go_at_call 10; refine cf.mono ?_; rintro e q1 ⟨rfl, b1⟩)
    go_ret
    exact ⟨rfl, b1⟩
  · rw [hf] at cf
    have e : wrgF t n = if n < 0 ∨ (t.length : Int) ≤ n then 19 else 0 := by unfold wrgF; rw [if_neg (by rw [hf]; decide)]
    rw [e]
    clear e hf
    by_cases h0 : n < 0
    · rw [if_pos (Or.inl h0)]
      go_enter Tryd.func48, Tryd.ntmps48
      go_wp2_with (go_at_call 10; refine cf.mono ?_; rintro e q1 ⟨rfl, b1⟩)
      go_ret
      exact ⟨rfl, b1⟩
    · by_cases h1 : (t.length : Int) ≤ n
      · rw [if_pos (Or.inr h1)]
        go_enter Tryd.func48, Tryd.ntmps48
        go_wp2_with (go_at_call 10; refine cf.mono ?_; rintro e q1 ⟨rfl, b1⟩)
        go_ret
        exact ⟨rfl, b1⟩
      · rw [if_neg (by omega)]
        go_enter Tryd.func48, Tryd.ntmps48
        go_wp2_with (go_at_call 10; refine cf.mono ?_; rintro e q1 ⟨rfl, b1⟩)
        go_ret
        exact ⟨rfl, b1⟩

/-- what find answers -/
def fnpF (t : List Nd) (n : Int) (nm : List Int) : Int × Int :=
  if wrgF t n ≠ 0 then (0, wrgF t n) else match pfF (prpF t n) nm with
  | none => (0, 2)
  | some k => ((k : Nat), 0)

set_option maxHeartbeats 1000000 in
theorem w_pfind (v : Value) (t : List Nd) (n : Int) (s : ByteArray) (w : World) (h : RdT w v t) (bt : ∀ x ∈ t, bytN x) (ls : ∀ x ∈ t, lenN x) :
    Calls Tryd.prog 55 #[v, .int .i64 n, .string s] w fun e w' => e = .returned (.tuple #[.int .i64 (fnpF t n (L s)).1, .int .i64 (fnpF t n (L s)).2]) ∧ Below w.heap.size w w' := by
  have cw := w_pdevice v t n w h bt ls
  by_cases hw : wrgF t n = 0
  · obtain ⟨hf, h0, hl⟩ := wrg_ok hw
    rw [hw] at cw
    obtain ⟨k, rfl⟩ : ∃ k : Nat, n = k := ⟨n.toNat, by omega⟩
    have hk : k < t.length := by simpa using hl
    obtain ⟨b1, o1, nm, u1, p1, c1, r1, f0, f1, f2, f3, f4, e1, hu1, hp1, hc1⟩ := nod_at h k hk
    have hpr : prpF t (k : Int) = t[k].2.2.2.1 := by
      have := prp_at (t := t) (n := (k : Int)) (by simpa using hk)
      simpa using this
    have cf := fun W (g : Below w.heap.size w W) => w_pplace p1 _ s W (hp1.below g (propR_below g)) (fun x hx => ((bt _ (List.getElem_mem hk)).2 x hx).1)
    obtain ⟨pa, pq, rfl⟩ := slr_slice hp1
    cases hp : pfF t[k].2.2.2.1 (L s) with
    | none =>
      have eG : fnpF t (k : Int) (L s) = (0, 2) := by unfold fnpF; rw [if_neg (by simpa using hw), hpr, hp]
      rw [eG]
      rw [hp] at cf
      have cf' : ∀ W, Below w.heap.size w W → Calls Tryd.prog 54 #[.slice pa t[k].2.2.2.1.length pq, .string s] W fun e w' => e = .returned (.int .i64 (-1)) ∧ Below W.heap.size W w' := cf
      clear cf eG hp hpr hw hf
      go_enter Tryd.func55, Tryd.ntmps55
      go_wp2_with (first
        | (go_at_call 48; refine cw.mono ?_; rintro e q1 ⟨rfl, b1⟩; have g3 := below_cell b1 f3)
        | (go_at_call 54; refine (cf' _ b1).mono ?_; rintro e q2 ⟨rfl, b2⟩))
      go_ret2
      exact ⟨rfl, below_trans b1 b2⟩
    | some j =>
      have eG : fnpF t (k : Int) (L s) = ((j : Int), 0) := by unfold fnpF; rw [if_neg (by simpa using hw), hpr, hp]
      rw [eG]
      rw [hp] at cf
      have cf' : ∀ W, Below w.heap.size w W → Calls Tryd.prog 54 #[.slice pa t[k].2.2.2.1.length pq, .string s] W fun e w' => e = .returned (.int .i64 (j : Int)) ∧ Below W.heap.size W w' := cf
      have hj : ((j : Int) == -1) = false := by simp
      clear cf eG hp hpr hw hf
      go_enter Tryd.func55, Tryd.ntmps55
      go_wp2_with (first
        | (go_at_call 48; refine cw.mono ?_; rintro e q1 ⟨rfl, b1⟩; have g3 := below_cell b1 f3)
        | (go_at_call 54; refine (cf' _ b1).mono ?_; rintro e q2 ⟨rfl, b2⟩))
      go_ret2
      exact ⟨rfl, below_trans b1 b2⟩
  · have eG : fnpF t n (L s) = (0, wrgF t n) := by unfold fnpF; rw [if_pos hw]
    rw [eG]
    obtain ⟨E, hE⟩ : ∃ E, wrgF t n = E := ⟨_, rfl⟩
    rw [hE] at cw hw
    simp only [hE]
    have hb : (E != 0) = true := by simpa using hw
    clear eG hE hw
    go_enter Tryd.func55, Tryd.ntmps55
    go_wp2_with (go_at_call 48; refine cw.mono ?_; rintro e q1 ⟨rfl, b1⟩)
    go_ret2
    exact ⟨rfl, b1⟩

set_option maxHeartbeats 1000000 in
theorem w_p8new' (w : World) : Calls Tryd.prog 14 #[] w fun e w' => ∃ v, e = .returned v ∧ RdT w' v [([], [], -1, [], [])] ∧ Below w.heap.size w w' := by
  go_enter Tryd.func14, Tryd.ntmps14
  go_wp2_with fail
  go_ret
  refine ⟨_, rfl, ?_, box_below _ _⟩
  refine ownT8_read (base := w.heap.size) ?_
  refine ⟨[[.string ⟨#[]⟩, .slice none 0 0, .int .i64 (-1), .slice none 0 0, .slice none 0 0]], rfl, by simp, ⟨rfl, Or.inr ⟨w.heap.size, 1, #[.string ⟨#[]⟩, .slice none 0 0, .int .i64 (-1), .slice none 0 0, .slice none 0 0], rfl, Nat.le_refl _, heap_alloc_new w _, Nat.le_refl _, by decide, rfl, rfl⟩⟩, fun i hi => ?_⟩
  have : i = 0 := by simp at hi; omega
  subst this
  exact ⟨_, _, _, rfl, World.ownsRow_nil _ _ _ _, OwnR.nil _ _ _ _ _, World.ownsRow_nil _ _ _ _⟩

set_option maxHeartbeats 2000000 in
set_option maxRecDepth 100000 in
theorem w_p8get' (v : Value) (t : List Nd) (n : Int) (s : ByteArray) (w : World) (h : RdT w v t) (bt : ∀ x ∈ t, bytN x) (ls : ∀ x ∈ t, lenN x) :
    Calls Tryd.prog 23 #[v, .int .i64 n, .string s] w fun e w' => ∃ v1, e = .returned (.tuple #[v1, .int .i64 (getF t n (L s)).2]) ∧ Rd .u8 w' v1 (getF t n (L s)).1 ∧ Below w.heap.size w w' := by
  have cf := w_pfind v t n s w h bt ls
  by_cases hw : wrgF t n = 0
  · obtain ⟨hf, h0, hl⟩ := wrg_ok hw
    obtain ⟨p16, pok⟩ := frm_props hf hl
    obtain ⟨k, rfl⟩ : ∃ k : Nat, n = k := ⟨n.toNat, by omega⟩
    have hk : k < t.length := by simpa using hl
    obtain ⟨b1, o1, nm, u1, p1, c1, r1, f0, f1, f2, f3, f4, e1, hu1, hp1, hc1⟩ := nod_at h k hk
    obtain ⟨pa, pq, rfl⟩ := slr_slice hp1
    have hpr : prpF t (k : Int) = t[k].2.2.2.1 := by
      have := prp_at (t := t) (n := (k : Int)) (by simpa using hk)
      simpa using this
    rw [hpr] at pok
    cases hp : pfF t[k].2.2.2.1 (L s) with
    | none =>
      have eG : getF t (k : Int) (L s) = ([], 2) := by unfold getF; rw [if_neg (by simpa using hw), hpr, hp]
      have eF : fnpF t (k : Int) (L s) = (0, 2) := by unfold fnpF; rw [if_neg (by simpa using hw), hpr, hp]
      rw [eG]
      rw [eF] at cf
      clear eF eG hp hpr pok hw hf
      go_enter Tryd.func23, Tryd.ntmps23
      go_wp2_with (go_at_call 55; refine cf.mono ?_; rintro e q1 ⟨rfl, b1⟩)
      go_ret2
      exact ⟨_, rfl, Rd_nil, b1⟩
    | some j =>
      obtain ⟨hj, _, _⟩ := pf_some hp
      obtain ⟨bp, op, pn, vd, rp, s0, s1, en, hd⟩ := prp_at8 hp1 j hj
      have hx : t[k].2.2.2.1.getD j ([], []) = t[k].2.2.2.1[j] := by rw [List.getD_eq_getElem?_getD, List.getElem?_eq_getElem hj]; rfl
      have hdl : t[k].2.2.2.1[j].2.length ≤ 256 := (((okR_iff _).1 pok).1 _ (List.getElem_mem hj)).2
      have cc := fun W (g : Below w.heap.size w W) => w_pclone8 vd _ W (hd.below g) (by omega)
      have eG : getF t (k : Int) (L s) = (t[k].2.2.2.1[j].2, 0) := by unfold getF; rw [if_neg (by simpa using hw), hpr, hp]; simp only [hx]
      have eF : fnpF t (k : Int) (L s) = ((j : Int), 0) := by unfold fnpF; rw [if_neg (by simpa using hw), hpr, hp]
      rw [eG]
      rw [eF] at cf
      clear eF eG hp hpr pok hw hf hx
      go_enter Tryd.func23, Tryd.ntmps23
      go_wp2_with (first
        | (go_at_call 55; refine cf.mono ?_; rintro e q1 ⟨rfl, b1⟩; have g3 := below_cell b1 f3; have g5 := below_cell b1 s1)
        | (go_at_call 45; refine (cc _ b1).mono ?_; rintro e q3 ⟨v3, rfl, o3, b3⟩))
      go_ret2
      exact ⟨_, rfl, (Rd_own o3).1, below_trans b1 b3⟩
  · have eG : getF t n (L s) = ([], wrgF t n) := by unfold getF; rw [if_pos hw]
    have eF : fnpF t n (L s) = (0, wrgF t n) := by unfold fnpF; rw [if_pos hw]
    rw [eG]
    rw [eF] at cf
    obtain ⟨E, hE⟩ : ∃ E, wrgF t n = E := ⟨_, rfl⟩
    rw [hE] at hw
    simp only [hE] at cf ⊢
    have hb : (E != 0) = true := by simpa using hw
    clear eG eF hE hw
    go_enter Tryd.func23, Tryd.ntmps23
    go_wp2_with (go_at_call 55; refine cf.mono ?_; rintro e q1 ⟨rfl, b1⟩)
    go_ret2
    exact ⟨_, rfl, Rd_nil, b1⟩

set_option maxHeartbeats 2000000 in
set_option maxRecDepth 100000 in
theorem w_p8next' (v : Value) (t : List Nd) (n : Int) (s : ByteArray) (w : World) (h : RdT w v t) (bt : ∀ x ∈ t, bytN x) (ls : ∀ x ∈ t, lenN x) :
    Calls Tryd.prog 25 #[v, .int .i64 n, .string s] w fun e w' => e = .returned (.tuple #[.string (strOfNums (nxtF t n (L s)).1), .int .i64 (nxtF t n (L s)).2]) ∧ Below w.heap.size w w' := by
  have cf := w_pfind v t n s w h bt ls
  have es : strOfNums ([] : List Int) = ⟨#[]⟩ := by decide +kernel
  by_cases hw : wrgF t n = 0
  · obtain ⟨hf, h0, hl⟩ := wrg_ok hw
    obtain ⟨p16, pok⟩ := frm_props hf hl
    obtain ⟨k, rfl⟩ : ∃ k : Nat, n = k := ⟨n.toNat, by omega⟩
    have hk : k < t.length := by simpa using hl
    obtain ⟨b1, o1, nm, u1, p1, c1, r1, f0, f1, f2, f3, f4, e1, hu1, hp1, hc1⟩ := nod_at h k hk
    have hlp := slr_len hp1 uR (P := Tryd.prog)
    obtain ⟨pa, pq, rfl⟩ := slr_slice hp1
    have hpr : prpF t (k : Int) = t[k].2.2.2.1 := by
      have := prp_at (t := t) (n := (k : Int)) (by simpa using hk)
      simpa using this
    rw [hpr] at p16
    obtain ⟨np, hnp⟩ : ∃ n, t[k].2.2.2.1.length = n := ⟨_, rfl⟩
    rw [hnp] at f3 hlp
    have hse : (s.toList == []) = decide (L s = []) := by
      rw [Bool.eq_iff_iff, beq_iff_eq, decide_eq_true_eq]
      unfold L
      rw [ByteArray.toList_eq]
      simp
    cases hp : pfF t[k].2.2.2.1 (L s) with
    | some j =>
      have eN : nxtF t (k : Int) (L s) = ((t[k].2.2.2.1.getD (j + 1) ([], [])).1, 0) := by unfold nxtF; rw [if_neg (by simpa using hw), hpr, hp]
      have eF : fnpF t (k : Int) (L s) = ((j : Int), 0) := by unfold fnpF; rw [if_neg (by simpa using hw), hpr, hp]
      rw [eN]
      rw [eF] at cf
      have hj0 : (0 : Int) ≤ j := by omega
      obtain ⟨hjl, _⟩ := pf_some hp
      have hjb : (j : Int) ≤ 16 := by omega
      by_cases hml : j + 1 < t[k].2.2.2.1.length
      · obtain ⟨bp, op, pn, vd, rp, s0, s1, en, hd⟩ := prp_at8 hp1 (j + 1) hml
        have hx : t[k].2.2.2.1.getD (j + 1) ([], []) = t[k].2.2.2.1[j + 1] := by rw [List.getD_eq_getElem?_getD, List.getElem?_eq_getElem hml]; rfl
        simp only [hx, en]
        have hmI : ((j : Int) + 1 == np) = false := by rw [beq_eq_false_iff_ne]; omega
        have rp' : ∀ w', (Instr.indexAt 54 (.slice pa np pq) (.int .i64 ((j : Int) + 1))).run Tryd.prog w' = .ok (.pointer (some ⟨bp, op, none⟩)) w' := by rw [← hnp]; exact rp
        clear rp eN eF hw hf hx en pok hpr hse hnp p16 hd
        go_enter Tryd.func25, Tryd.ntmps25
        go_wp2_with (go_at_call 55; refine cf.mono ?_; rintro e q1 ⟨rfl, b1⟩; have g3 := below_cell b1 f3; have g5 := below_cell b1 s0)
        go_ret2
        exact ⟨rfl, b1⟩
      · have hx : t[k].2.2.2.1.getD (j + 1) ([], []) = ([], []) := by rw [List.getD_eq_getElem?_getD, List.getElem?_eq_none (by omega)]; rfl
        simp only [hx, es]
        have hmI : ((j : Int) + 1 == np) = true := by rw [beq_iff_eq]; omega
        clear eN eF hw hf hx pok hpr hse hnp p16
        go_enter Tryd.func25, Tryd.ntmps25
        go_wp2_with (go_at_call 55; refine cf.mono ?_; rintro e q1 ⟨rfl, b1⟩; have g3 := below_cell b1 f3)
        go_ret2
        exact ⟨rfl, b1⟩
    | none =>
      have eF : fnpF t (k : Int) (L s) = (0, 2) := by unfold fnpF; rw [if_neg (by simpa using hw), hpr, hp]
      rw [eF] at cf
      by_cases hs : L s = []
      · have eN : nxtF t (k : Int) (L s) = ((t[k].2.2.2.1.getD 0 ([], [])).1, 0) := by unfold nxtF; rw [if_neg (by simpa using hw), hpr, hp]; simp [hs]
        rw [eN]
        rw [decide_eq_true hs] at hse
        have gq1 : s.toList = [] := by simpa using hse
        have gq3 : s.toList.isEmpty = true := by rw [gq1]; rfl
        clear hs hse
        by_cases hml : 0 < t[k].2.2.2.1.length
        · obtain ⟨bp, op, pn, vd, rp, s0, s1, en, hd⟩ := prp_at8 hp1 (0) hml
          have hx : t[k].2.2.2.1.getD (0) ([], []) = t[k].2.2.2.1[0] := by rw [List.getD_eq_getElem?_getD, List.getElem?_eq_getElem hml]; rfl
          simp only [hx, en]
          have hmI : ((0 : Int) == np) = false := by rw [beq_eq_false_iff_ne]; omega
          have rp' : ∀ w', (Instr.indexAt 54 (.slice pa np pq) (.int .i64 ((0 : Int)))).run Tryd.prog w' = .ok (.pointer (some ⟨bp, op, none⟩)) w' := by rw [← hnp]; exact rp
          clear rp eN eF hw hf hx en pok hpr hnp p16 hp hd hml
          go_enter Tryd.func25, Tryd.ntmps25
          go_wp2_with (go_at_call 55; refine cf.mono ?_; rintro e q1 ⟨rfl, b1⟩; have g3 := below_cell b1 f3; have g5 := below_cell b1 s0)
          go_ret2
          exact ⟨rfl, b1⟩
        · have hx : t[k].2.2.2.1.getD (0) ([], []) = ([], []) := by rw [List.getD_eq_getElem?_getD, List.getElem?_eq_none (by omega)]; rfl
          simp only [hx, es]
          have hmI : ((0 : Int) == np) = true := by rw [beq_iff_eq]; omega
          clear eN eF hw hf hx pok hpr hnp p16 hp hml
          go_enter Tryd.func25, Tryd.ntmps25
          go_wp2_with (go_at_call 55; refine cf.mono ?_; rintro e q1 ⟨rfl, b1⟩; have g3 := below_cell b1 f3)
          go_ret2
          exact ⟨rfl, b1⟩
      · have eN : nxtF t (k : Int) (L s) = ([], 2) := by unfold nxtF; rw [if_neg (by simpa using hw), hpr, hp]; simp [hs]
        rw [eN, es]
        rw [decide_eq_false hs] at hse
        have gq1 : ¬ s.toList = [] := by intro g; rw [g] at hse; cases hse
        have gq3 : s.toList.isEmpty = false := by rw [← hse]; cases s.toList <;> rfl
        clear eN eF hp hpr pok hw hf hs
        go_enter Tryd.func25, Tryd.ntmps25
        go_wp2_with (go_at_call 55; refine cf.mono ?_; rintro e q1 ⟨rfl, b1⟩; have g3 := below_cell b1 f3)
        go_ret2
        exact ⟨rfl, b1⟩
  · have eG : nxtF t n (L s) = ([], wrgF t n) := by unfold nxtF; rw [if_pos hw]
    have eF : fnpF t n (L s) = (0, wrgF t n) := by unfold fnpF; rw [if_pos hw]
    rw [eG, es]
    rw [eF] at cf
    have h2 : wrgF t n = 1 ∨ wrgF t n = 19 := by
      rcases wrg_err (t := t) (n := n) with g | g
      · exact absurd g hw
      · exact g
    obtain ⟨E, hE⟩ : ∃ E, wrgF t n = E := ⟨_, rfl⟩
    rw [hE] at hw h2
    simp only [hE] at cf ⊢
    have hb : (E != 0) = true := by simpa using hw
    have hb2 : (E == 2) = false := by rw [beq_eq_false_iff_ne]; omega
    clear eG eF hE hw h2
    go_enter Tryd.func25, Tryd.ntmps25
    go_wp2_with (go_at_call 55; refine cf.mono ?_; rintro e q1 ⟨rfl, b1⟩)
    go_ret2
    exact ⟨rfl, b1⟩

set_option maxHeartbeats 2000000 in
set_option maxRecDepth 100000 in
theorem w_p8children' (v : Value) (t : List Nd) (n : Int) (w : World) (h : RdT w v t) (hz : t.length * 96 ≤ 140737488355328) :
    Calls Tryd.prog 29 #[v, .int .i64 n] w fun e w' => ∃ v1, e = .returned v1 ∧ Rd .i64 w' v1 (chiF t n) ∧ Below w.heap.size w w' := by
  have hla := slr_len h uN (P := Tryd.prog)
  obtain ⟨i0, hi0, hz0, hz1, hz2⟩ := info_parts infoI
  have hC : chiF t n = chiU t n t.length := rfl
  rw [hC]
  by_cases h0 : n < 0
  · have e : chiU t n t.length = [] := by
      unfold chiU
      rw [List.filter_eq_nil_iff.2 (fun i hi => by simp; omega)]
      rfl
    rw [e]
    clear e hC
    go_enter Tryd.func29, Tryd.ntmps29
    go_wp2_with fail
    go_ret
    exact ⟨_, rfl, Rd_nil, Below.refl _ _⟩
  · obtain ⟨R, hR⟩ : ∃ R, chiU t n t.length = R := ⟨_, rfl⟩
    rw [hR]
    have HR := hid hR
    clear hR hC
    go_enter Tryd.func29, Tryd.ntmps29
    go_wp2_with fail
    go_loopw [5, 12] (fun U I wx => ∃ (i : Nat) (ys : List Int), (i : Int) ≤ t.length ∧ I = .int .i64 i ∧ Hid (ys = chiU t n i) ∧ (ys.length : Int) ≤ i ∧ OwnI w.heap.size wx U ys ∧ Below w.heap.size w wx) (fun _ I _ => (t.length - intOf I).toNat)
    case atStart => exact ⟨0, [], by omega, rfl, hid rfl, by simp, World.ownsRow_nil _ _ _ _, Below.refl _ _⟩
    case round =>
      obtain ⟨i, ys, hi, rfl, hys, hyl, ho, hb⟩ := hrel
      by_cases hlt : (i : Int) < t.length
      · have hil : i < t.length := by omega
        obtain ⟨b1, o1, nm, u1, p1, c1, r1, f0, f1, f2, f3, f4, e1, hu1, hp1, hc1⟩ := nod_at (h.below hb) i hil
        obtain ⟨ua, uq, rfl⟩ := rd_slice hu1
        obtain ⟨pa, pq, rfl⟩ := slr_slice hp1
        obtain ⟨ca, cq, rfl⟩ := rd_slice hc1
        have hs := chi_succ t n i
        have hg : (t.getD i ([], [], 0, [], [])).2.2.1 = t[i].2.2.1 := by rw [List.getD_eq_getElem?_getD, List.getElem?_eq_getElem hil]; rfl
        rw [hg] at hs
        obtain ⟨P, hP⟩ : ∃ P, t[i].2.2.1 = P := ⟨_, rfl⟩
        rw [hP] at f2 hs
        have st := stands_new wr #[.string nm, .slice ua t[i].2.1.length uq, .int .i64 P, .slice pa t[i].2.2.2.1.length pq, .slice ca t[i].2.2.2.2.length cq] 56
        have hbx := hb.alloc hb.size (.cells #[.string nm, .slice ua t[i].2.1.length uq, .int .i64 P, .slice pa t[i].2.2.2.1.length pq, .slice ca t[i].2.2.2.2.length cq] 56)
        have hox := World.ownsRow.alloc ho (.cells #[.string nm, .slice ua t[i].2.1.length uq, .int .i64 P, .slice pa t[i].2.2.2.1.length pq, .slice ca t[i].2.2.2.2.length cq] 56)
        have y2 := st.cell 2 _ rfl
        have skip : ¬ (0 ≤ n ∧ P = n) → Hid (ys = chiU t n (i + 1)) := fun g => by show _ = _; rw [hs, if_neg g, List.append_nil, hys.out]
        have take : (0 ≤ n ∧ P = n) → Hid (ys ++ [(i : Int)] = chiU t n (i + 1)) := fun g => by show _ = _; rw [hs, if_pos g, hys.out]
        clear hs hg hP e1 hu1 hp1 hc1
        by_cases h1 : P = n
        · have hys2 := take ⟨by omega, h1⟩
          have q : (P == n) = true := by simpa using h1
          clear skip take h1
          go_upto_region 8 with fail
          generalize wr.alloc (.cells #[.string nm, .slice ua t[i].2.1.length uq, .int .i64 P, .slice pa t[i].2.2.2.1.length pq, .slice ca t[i].2.2.2.2.length cq] 56) = w2 at hbx hox ⊢
          have ho3 := World.ownsRow.alloc hox (.cells #[.int .i64 (i : Int)] 3)
          have hb3 := hbx.alloc hbx.size (.cells #[.int .i64 (i : Int)] 3)
          go_wp2_with (at_builtin; refine wpList_append_rd (k := .i64) rfl _ _ 46 rfl w.heap.size 3 i0 8 Tryd.underlying46 hi0 hz0 hz1 hz2 _ ys rfl ho3 _ [(i : Int)] rfl (rd_one _ (i : Int) 3) (by unfold maxLen; simp only [List.length_cons, List.length_nil]; omega) (by simp only [List.length_cons, List.length_nil]; omega) hb3.size ?_; intro v4 w4 ho4 hg4)
          go_roundw
          case rel => exact ⟨i + 1, ys ++ [(i : Int)], by omega, by go_num, hys2, by simp; omega, ho4, below_grown hb3 hg4 (fun k hk => (World.ownsRow.lt ho k hk).1)⟩
          case measure => simp [intOf]; omega
        · have hys2 := skip (fun g => h1 g.2)
          have q : (P == n) = false := by simpa using h1
          clear skip take h1
          go_wp2_with fail
          go_roundw
          case rel => exact ⟨i + 1, ys, by omega, by go_num, hys2, by omega, hox, hbx⟩
          case measure => simp [intOf]; omega
      · have e : Hid (R = ys) := by show _ = _; rw [← HR.out, hys.out, show i = t.length by omega]
        go_wp2_with fail
        go_ret
        rw [e.out]
        exact ⟨_, rfl, (Rd_own ho).1, hb⟩

/-
  Find of the document's answer for trees.
-/
theorem fdI_neg (o : Option Nat) : (fdI o < 0) ↔ o = none := by
  cases o with
  | none => simp [fdI]
  | some k => simp [fdI]

set_option maxHeartbeats 4000000 in
set_option maxRecDepth 100000 in
theorem w_r8findT (v vl : Value) (t : List Nd) (l : List Sp) (w : World) (h : RdT w v t) (hl : SlR 3 stpR w vl l) (bt : ∀ x ∈ t, bytN x) (ls : ∀ x ∈ t, lenN x) (bl : ∀ x ∈ l, bytesL x.1 ∧ bytesL x.2.2) :
    Calls Tryd.prog 32 #[v, vl] w fun e w' => e = .returned (.tuple #[.int .i64 (finT t l).1, .int .i64 (finT t l).2]) ∧ Below w.heap.size w w' := by
  have hla := slr_len h uN (P := Tryd.prog)
  have hlb := slr_len hl uP (P := Tryd.prog)
  have hml := slr_max hl
  unfold maxLen at hml
  have cf := w_r8formed v t w h bt ls
  cases hf : frmT t
  · have e : finT t l = (0, 1) := by unfold finT; rw [if_pos hf]
    rw [e]
    rw [hf] at cf
    clear e hf
    go_enter Tryd.func32, Tryd.ntmps32
    go_wp2_with (go_at_call 11; refine cf.mono ?_; rintro e q1 ⟨rfl, b1⟩)
    go_ret2
    exact ⟨rfl, b1⟩
  · rw [hf] at cf
    obtain ⟨g0, g1, _, _⟩ := (frm_iff t).1 hf
    obtain ⟨A, E, hAE⟩ : ∃ A E, finT t l = (A, E) := ⟨_, _, rfl⟩
    have no : finF t l 0 = none → A = 0 ∧ E = 19 := by
      intro g
      have e : finT t l = (0, 19) := by unfold finT; rw [if_neg (by rw [hf]; decide), g]
      rw [hAE] at e
      exact Prod.mk.inj e
    have yes : ∀ k : Nat, finF t l 0 = some k → A = k ∧ E = 0 := by
      intro k g
      have e : finT t l = ((k : Int), 0) := by unfold finT; rw [if_neg (by rw [hf]; decide), g]
      rw [hAE] at e
      exact Prod.mk.inj e
    rw [hAE]
    have No := hid no
    have Yes := hid yes
    have HF := hid hf
    show Calls _ _ _ _ fun e w' => e = .returned (.tuple #[.int .i64 A, .int .i64 E]) ∧ _
    clear hAE no yes hf
    go_enter Tryd.func32, Tryd.ntmps32
    go_wp2_with (go_at_call 11; refine cf.mono ?_; rintro e q1 ⟨rfl, b1⟩)
    go_loopw [6, 7] (fun T I wx => ∃ (a i : Nat), T = .int .i64 a ∧ I = .int .i64 i ∧ (i : Int) ≤ l.length ∧ (a : Int) < t.length ∧ Hid (finF t l 0 = finF t (l.drop i) a) ∧ Below w.heap.size w wx) (fun _ I _ => (l.length - intOf I).toNat)
    case atStart => exact ⟨0, 0, rfl, rfl, by omega, by omega, hid rfl, b1⟩
    case round =>
      obtain ⟨a, i, rfl, rfl, hi, ha, hin, hb⟩ := hrel
      by_cases hlt : (i : Int) < l.length
      · have hil : i < l.length := by omega
        obtain ⟨bs, os, sn, sa, so, nU, sc, rs, s0, s1, s2, es, ea, hsu⟩ := stp_at hl i hil
        have hnU := rd_n hsu
        have hdrop : l.drop i = l[i] :: l.drop (i + 1) := List.drop_eq_getElem_cons hil
        have hstep : finF t (l.drop i) a = match ldF t a l[i] with
            | none => none
            | some k => finF t (l.drop (i + 1)) k := by rw [hdrop]; rfl
        rw [ldF_G HF.out a l[i]] at hstep
        have hbl : bytesL l[i].1 := (bl _ (List.getElem_mem hil)).1
        have HS := hid hstep
        have HU := hid hnU
        clear hstep hdrop hnU
        go_wp2_with fail
        have hbO := hb
        go_loopw [8, 9] (fun T K wx => ∃ (k : Nat), T = .int .i64 (fdI (ldG t (matN a l[i].1 l[i].2.1) (k + 1))) ∧ K = .int .i64 k ∧ (k : Int) < t.length ∧ Below w.heap.size w wx) (fun _ K _ => (intOf K).toNat)
        case atStart =>
          refine ⟨t.length - 1, ?_, ?_, by omega, hbO⟩
          · rw [ldG_end t _ (t.length - 1 + 1) (by omega)]; rfl
          · congr 1; omega
        case round =>
          obtain ⟨k, rfl, rfl, hkt, hbk⟩ := hrel
          rcases Nat.eq_zero_or_pos k with hk0 | hk0
          · subst hk0
            cases hg : ldG t (matN a l[i].1 l[i].2.1) (0 + 1) with
            | none =>
              have e := No.out (by rw [hin.out, HS.out, hg])
              have He := hid e
              clear e hg
              go_wp2_with fail
              go_ret2
              obtain ⟨rfl, rfl⟩ := He.out
              exact ⟨rfl, hbk⟩
            | some j =>
              have hjl := ldG_lt _ _ _ _ hg
              have hin2 : Hid (finF t l 0 = finF t (l.drop (i + 1)) j) := by show _ = _; rw [hin.out, HS.out, hg]
              have hfj : fdI (some j) = (j : Int) := rfl
              have hj0 : ¬ (j : Int) < 0 := by omega
              rw [hfj]
              clear hg hfj
              go_wp2_with fail
              go_roundw
              case rel => exact ⟨j, i + 1, rfl, by go_num, by omega, by omega, hin2, hbk⟩
              case measure => simp [intOf]; omega
          · have hkp : (0 : Int) < k := by omega
            have hkl : k < t.length := by omega
            obtain ⟨b2, o2, N2, u2, p2, c2, r2, f0, f1, f2, f3, f4, e2, hu2, hp2, hc2⟩ := nod_at (h.below hbk) k hkl
            obtain ⟨ua, uq, rfl⟩ := rd_slice hu2
            have m0 := below_cell hbk s0
            have m1 := below_cell hbk s1
            have hq := str_eq8 N2 sn _ _ (bt _ (List.getElem_mem hkl)).1 hbl e2 es
            have cu := fun W (g : Below wr.heap.size wr W) => w_r3sameQ _ _ _ _ W (hu2.below g) ((hsu.below hbk).below g)
            have hat := ldG_at t (matN a l[i].1 l[i].2.1) k hkl
            have hk1 : k - 1 + 1 = k := by omega
            obtain ⟨F, hF⟩ : ∃ F, fdI (ldG t (matN a l[i].1 l[i].2.1) (k + 1)) = F := ⟨_, rfl⟩
            have miss : matN a l[i].1 l[i].2.1 t[k] = false → Hid (Value.int .i64 F = .int .i64 (fdI (ldG t (matN a l[i].1 l[i].2.1) (k - 1 + 1)))) := by
              intro g
              show _ = _
              rw [hk1, hat, if_neg (by rw [g]; decide), hF]
            have hit : matN a l[i].1 l[i].2.1 t[k] = true → Hid (Value.int .i64 (k : Int) = .int .i64 (fdI (ldG t (matN a l[i].1 l[i].2.1) (k - 1 + 1)))) := by
              intro g
              show _ = _
              rw [hk1, hat, if_pos g]
              rfl
            have hkc : ((k - 1 : Nat) : Int) = (k : Int) - 1 := by omega
            rw [hF]
            obtain ⟨P, hP⟩ : ∃ P, t[k].2.2.1 = P := ⟨_, rfl⟩
            rw [hP] at f2
            have hmat : matN a l[i].1 l[i].2.1 t[k] = (decide (P = a) && (decide (t[k].1 = l[i].1) && (decide (l[i].2.1 = []) || decide (t[k].2.1 = l[i].2.1)))) := by rw [← hP]; rfl
            rw [hmat] at miss hit
            clear hF hat hmat hP e2
            by_cases h1 : P = a
            · have q1 : (P == (a : Int)) = true := by simpa using h1
              rw [decide_eq_true h1] at miss hit
              by_cases h2 : t[k].1 = l[i].1
              · rw [decide_eq_true h2] at miss hit hq
                by_cases h3 : l[i].2.1 = []
                · have hn0 : ((nU : Int) == 0) = true := by rw [HU.out, h3]; rfl
                  have hT := hit (by simp [h3])
                  clear miss hit h1 h2 h3 cu
                  go_wp2_with fail
                  go_quiet (fail)
                  go_wp2_with fail
                  go_roundw
                  case rel => exact ⟨k - 1, hT.out, by rw [hkc], by omega, below_drewN hbk _⟩
                  case measure => simp [intOf]; omega
                · have hn0 : ((nU : Int) == 0) = false := by rw [Bool.eq_false_iff]; intro g; rw [beq_iff_eq] at g; have := HU.out; exact h3 (List.eq_nil_of_length_eq_zero (by omega))
                  by_cases h4 : t[k].2.1 = l[i].2.1
                  · simp only [decide_eq_true h4] at cu
                    have hT := hit (by simp [h4])
                    clear miss hit h1 h2 h3 h4
                    go_wp2_with fail
                    go_quiet (first | (go_at_call 58; exact Calls.quiet_of (cu _ (below_drewN (Below.refl _ _) _))))
                    go_wp2_with fail
                    go_roundw
                    case rel => exact ⟨k - 1, hT.out, by rw [hkc], by omega, below_drewN hbk _⟩
                    case measure => simp [intOf]; omega
                  · simp only [decide_eq_false h4] at cu
                    have hT := miss (by simp [h3, h4])
                    clear miss hit h1 h2 h3 h4
                    go_wp2_with fail
                    go_quiet (first | (go_at_call 58; exact Calls.quiet_of (cu _ (below_drewN (Below.refl _ _) _))))
                    go_wp2_with fail
                    go_roundw
                    case rel => exact ⟨k - 1, hT.out, by rw [hkc], by omega, below_drewN hbk _⟩
                    case measure => simp [intOf]; omega
              · rw [decide_eq_false h2] at miss hit hq
                have hT := miss (by simp)
                clear miss hit h1 h2 cu
                go_wp2_with fail
                go_quiet (fail)
                go_wp2_with fail
                go_roundw
                case rel => exact ⟨k - 1, hT.out, by rw [hkc], by omega, below_drewN hbk _⟩
                case measure => simp [intOf]; omega
            · have q1 : (P == (a : Int)) = false := by simpa using h1
              rw [decide_eq_false h1] at miss hit
              have hT := miss (by simp)
              clear miss hit h1 cu
              go_wp2_with fail
              go_quiet (fail)
              go_wp2_with fail
              go_roundw
              case rel => exact ⟨k - 1, hT.out, by rw [hkc], by omega, below_drewN hbk _⟩
              case measure => simp [intOf]; omega
      · have e := Yes.out a (by rw [hin.out, List.drop_of_length_le (by omega)]; rfl)
        have He := hid e
        clear e
        go_wp2_with fail
        go_ret2
        obtain ⟨rfl, rfl⟩ := He.out
        exact ⟨rfl, hb⟩

/-
  Package tree's Find.
-/
set_option maxHeartbeats 2000000 in
set_option maxRecDepth 100000 in
theorem w_p8find' (v vl : Value) (t : List Nd) (l : List Sp) (w : World) (h : RdT w v t) (hl : SlR 3 stpR w vl l) (bt : ∀ x ∈ t, bytN x) (ls : ∀ x ∈ t, lenN x) (bl : ∀ x ∈ l, bytesL x.1 ∧ bytesL x.2.2) :
    Calls Tryd.prog 31 #[v, vl] w fun e w' => e = .returned (.tuple #[.int .i64 (finT t l).1, .int .i64 (finT t l).2]) ∧ Below w.heap.size w w' := by
  have hla := slr_len h uN (P := Tryd.prog)
  have hlb := slr_len hl uP (P := Tryd.prog)
  have hml := slr_max hl
  unfold maxLen at hml
  have cf := w_p8formed' v t w h bt ls
  cases hf : frmT t
  · have e : finT t l = (0, 1) := by unfold finT; rw [if_pos hf]
    rw [e]
    rw [hf] at cf
    clear e hf
    go_enter Tryd.func31, Tryd.ntmps31
    go_wp2_with (go_at_call 10; refine cf.mono ?_; rintro e q1 ⟨rfl, b1⟩)
    go_ret2
    exact ⟨rfl, b1⟩
  · rw [hf] at cf
    obtain ⟨g0, g1, _, _⟩ := (frm_iff t).1 hf
    obtain ⟨A, E, hAE⟩ : ∃ A E, finT t l = (A, E) := ⟨_, _, rfl⟩
    have no : finF t l 0 = none → A = 0 ∧ E = 19 := by
      intro g
      have e : finT t l = (0, 19) := by unfold finT; rw [if_neg (by rw [hf]; decide), g]
      rw [hAE] at e
      exact Prod.mk.inj e
    have yes : ∀ k : Nat, finF t l 0 = some k → A = k ∧ E = 0 := by
      intro k g
      have e : finT t l = ((k : Int), 0) := by unfold finT; rw [if_neg (by rw [hf]; decide), g]
      rw [hAE] at e
      exact Prod.mk.inj e
    rw [hAE]
    have No := hid no
    have Yes := hid yes
    show Calls _ _ _ _ fun e w' => e = .returned (.tuple #[.int .i64 A, .int .i64 E]) ∧ _
    clear hAE no yes hf
    go_enter Tryd.func31, Tryd.ntmps31
    go_wp2_with (go_at_call 10; refine cf.mono ?_; rintro e q1 ⟨rfl, b1⟩)
    go_loopw [6, 14] (fun T I wx => ∃ (a i : Nat), T = .int .i64 a ∧ I = .int .i64 i ∧ (i : Int) ≤ l.length ∧ (a : Int) < t.length ∧ Hid (finF t l 0 = finF t (l.drop i) a) ∧ Below w.heap.size w wx) (fun _ I _ => (l.length - intOf I).toNat)
    case atStart => exact ⟨0, 0, rfl, rfl, by omega, by omega, hid rfl, b1⟩
    case round =>
      clear b1 cf
      obtain ⟨a, i, rfl, rfl, hi, ha, hin, hb⟩ := hrel
      by_cases hlt : (i : Int) < l.length
      · have hil : i < l.length := by omega
        obtain ⟨bs, os, sn, sa, so, nU, sc, rs, s0, s1, s2, es, ea, hsu⟩ := stp_at (hl.below hb (stpR_below hb)) i hil
        have hdrop : l.drop i = l[i] :: l.drop (i + 1) := List.drop_eq_getElem_cons hil
        have hstep : finF t (l.drop i) a = match ldF t a l[i] with
            | none => none
            | some k => finF t (l.drop (i + 1)) k := by rw [hdrop]; rfl
        have hbl : bytesL l[i].1 := (bl _ (List.getElem_mem hil)).1
        have hbx := box_below wr (.cells #[.string sn, .slice so nU sc, .string sa] 78)
        have st := stands_new wr #[.string sn, .slice so nU sc, .string sa] 78
        have y0 := st.cell 0 _ rfl
        have y1 := st.cell 1 _ rfl
        have y2 := st.cell 2 _ rfl
        have cm := w_pmeant sn sa _ l[i] t _ es hbl (hsu.below hbx) bt
        have ck := fun W (g : Below w.heap.size w W) gg lb eg ha => w_pchild v t (a : Int) gg lb (fun y => decide (y.1 = (l[i]'hil).1) && (decide ((l[i]'hil).2.1 = []) || decide (y.2.1 = (l[i]'hil).2.1))) W eg (h.below g) ha
        have hb2 := below_trans hb hbx
        have hLd : t.findIdx? (fun x => decide (x.2.2.1 = (a : Int)) && (fun y : Nd => decide (y.1 = l[i].1) && (decide (l[i].2.1 = []) || decide (y.2.1 = l[i].2.1))) x) = ldF t a l[i] := rfl
        simp only [hLd] at ck
        cases hg : ldF t a l[i] with
        | none =>
          have He := hid (No.out (by rw [hin.out, hstep, hg]))
          simp only [hg] at ck
          have ck' : ∀ W, Below w.heap.size w W → ∀ gg lb, (∀ args w, (callFunc gg args).run Tryd.prog w = .ok (.enter gg args) w) → AskN W gg lb (fun y => decide (y.1 = l[i].1) && (decide (l[i].2.1 = []) || decide (y.2.1 = l[i].2.1))) t → Calls Tryd.prog 50 #[v, .int .i64 a, .func (.func gg) #[] lb] W fun e w' => e = .returned (.int .i64 (-1)) ∧ Below W.heap.size W w' := ck
          have CK := hid ck'
          clear hg hstep hdrop hLd es ea ck ck'
          go_wp2_with (first
            | (go_at_call 57; refine cm.mono ?_; rintro e w2 ⟨gg, lb, rfl, eg, ha2, b2⟩)
            | (go_at_call 50; refine (CK.out _ (below_trans hb2 b2) gg lb eg ha2).mono ?_; rintro e w3 ⟨rfl, b3⟩))
          go_ret2
          obtain ⟨rfl, rfl⟩ := He.out
          exact ⟨rfl, below_trans (below_trans hb2 b2) b3⟩
        | some j =>
          have hjl : j < t.length := by
            have := hg
            unfold ldF at this
            rw [List.findIdx?_eq_some_iff_getElem] at this
            exact this.1
          have hin2 : Hid (finF t l 0 = finF t (l.drop (i + 1)) j) := by show _ = _; rw [hin.out, hstep, hg]
          simp only [hg] at ck
          have ck' : ∀ W, Below w.heap.size w W → ∀ gg lb, (∀ args w, (callFunc gg args).run Tryd.prog w = .ok (.enter gg args) w) → AskN W gg lb (fun y => decide (y.1 = l[i].1) && (decide (l[i].2.1 = []) || decide (y.2.1 = l[i].2.1))) t → Calls Tryd.prog 50 #[v, .int .i64 a, .func (.func gg) #[] lb] W fun e w' => e = .returned (.int .i64 (j : Int)) ∧ Below W.heap.size W w' := ck
          have CK := hid ck'
          have hj : ((j : Int) == -1) = false := by simp
          clear hg hstep hdrop hLd es ea ck ck'
          go_wp2_with (first
            | (go_at_call 57; refine cm.mono ?_; rintro e w2 ⟨gg, lb, rfl, eg, ha2, b2⟩)
            | (go_at_call 50; refine (CK.out _ (below_trans hb2 b2) gg lb eg ha2).mono ?_; rintro e w3 ⟨rfl, b3⟩))
          go_roundw
          case rel => exact ⟨j, i + 1, rfl, by go_num, by omega, by omega, hin2, below_trans (below_trans hb2 b2) b3⟩
          case measure => simp [intOf]; omega
      · have e := Yes.out a (by rw [hin.out, List.drop_of_length_le (by omega)]; rfl)
        have He := hid e
        clear e
        go_wp2_with fail
        go_ret2
        obtain ⟨rfl, rfl⟩ := He.out
        exact ⟨rfl, hb⟩

/-
  Copy of the document's answer for trees.
-/
theorem infoNode : (Tryd.prog.info? 56).map (fun i => (i.zero, i.size, i.bytes)) = some (some (.agg #[.string ⟨#[]⟩, .slice none 0 0, .int .i64 0, .slice none 0 0, .slice none 0 0]), 5, 96) := by kernel_rfl
theorem infoProp : (Tryd.prog.info? 65).map (fun i => (i.zero, i.size, i.bytes)) = some (some (.agg #[.string ⟨#[]⟩, .slice none 0 0]), 2, 40) := by kernel_rfl
theorem ent3c : ∀ args w, (callFunc 46 args).run Tryd.prog w = .ok (.enter 46 args) w := enters_of Tryd.func46 (by kernel_rfl) rfl
theorem ent4c : ∀ args w, (callFunc 47 args).run Tryd.prog w = .ok (.enter 47 args) w := enters_of Tryd.func47 (by kernel_rfl) rfl
/-- no two devices' properties lie in one block -/
def SepR (rows : List (List Value)) : Prop := ∀ i j g, i < j → j < rows.length → ((rows.getD i []).getD 3 (.slice none 0 0)).ownBlock = some g → ((rows.getD j []).getD 3 (.slice none 0 0)).ownBlock ≠ some g
/-- devices of the call's own, apart from one another -/
def OwnTS (base : Nat) (w : World) (v : Value) (t : List Nd) : Prop := ∃ rows : List (List Value), rows.length = t.length ∧ (∀ r ∈ rows, r.length = 5) ∧ w.ownsRow base 56 5 v t.length rows.flatten ∧ (∀ i (h : i < t.length), nodO base w (rows.getD i []) t[i]) ∧ SepR rows
theorem OwnTS.own {base : Nat} {w : World} {v : Value} {t : List Nd} (h : OwnTS base w v t) : OwnT8 base w v t := by
  obtain ⟨rows, h1, h2, h3, h4, _⟩ := h
  exact ⟨rows, h1, h2, h3, h4⟩
theorem OwnTS.nil (base : Nat) (w : World) : OwnTS base w (.slice none 0 0) [] := ⟨[], rfl, by simp, World.ownsRow_nil _ _ _ _, fun i hi => by simp at hi, fun i j g h1 h2 => by simp at h2⟩
theorem OwnTS.below {base : Nat} {w w' : World} {v : Value} {t : List Nd} (h : OwnTS base w v t) (g : Below w.heap.size w w') : OwnTS base w' v t := by
  obtain ⟨rows, h1, h2, h3, h4, h5⟩ := h
  exact ⟨rows, h1, h2, own_kept (T := 5) (Kept.below g) (by decide) h3, fun i hi => nodO_below g _ _ (h4 i hi), h5⟩
theorem OwnTS.le {b b' : Nat} {w : World} {v : Value} {t : List Nd} (hb : b ≤ b') (h : OwnTS b' w v t) : OwnTS b w v t := by
  obtain ⟨rows, h1, h2, h3, h4, h5⟩ := h
  exact ⟨rows, h1, h2, own_le hb h3, fun i hi => nodO_le hb _ _ (h4 i hi), h5⟩
theorem sep_snoc {rows : List (List Value)} {row : List Value} (h : SepR rows) (hn : ∀ i g, i < rows.length → ((rows.getD i []).getD 3 (.slice none 0 0)).ownBlock = some g → (row.getD 3 (.slice none 0 0)).ownBlock ≠ some g) : SepR (rows ++ [row]) := by
  intro i j g hij hj hi
  have hlen : (rows ++ [row]).length = rows.length + 1 := by simp
  have ei : (rows ++ [row]).getD i [] = rows.getD i [] := by
    rw [List.getD_eq_getElem?_getD, List.getD_eq_getElem?_getD, List.getElem?_append_left (by omega)]
  rw [ei] at hi
  by_cases hlt : j < rows.length
  · have ej : (rows ++ [row]).getD j [] = rows.getD j [] := by
      rw [List.getD_eq_getElem?_getD, List.getD_eq_getElem?_getD, List.getElem?_append_left hlt]
    rw [ej]
    exact h i j g hij hlt hi
  · have hj2 : j = rows.length := by omega
    subst hj2
    have ej : (rows ++ [row]).getD rows.length [] = row := by
      rw [List.getD_eq_getElem?_getD, List.getElem?_append_right (Nat.le_refl _)]
      simp
    rw [ej]
    exact hn i g hij hi
theorem OwnTS.snoc {base : Nat} {w w' : World} {U v' : Value} {xs : List Nd} {x : Nd} {row : List Value} {rows : List (List Value)} (h1 : rows.length = xs.length) (h2 : ∀ r ∈ rows, r.length = 5) (h3 : w.ownsRow base 56 5 U xs.length rows.flatten) (h4 : ∀ i (h : i < xs.length), nodO base w (rows.getD i []) xs[i])
    (h5 : SepR (rows ++ [row])) (hr : row.length = 5) (hx : nodO base w row x) (o : w'.ownsRow base 56 5 v' (xs.length + 1) (rows.flatten ++ row)) (g : w.grownBy w' U.ownBlock) : OwnTS base w' v' (xs ++ [x]) := by
  have k := Kept.own h3 g
  have ha : Apt 56 (nodO base) := nodO_apt (by decide) (by decide) (by decide)
  refine ⟨rows ++ [row], by simp [h1], fun r hm => ?_, by simpa using o, fun i hi => ?_, h5⟩
  · rcases List.mem_append.1 hm with hm | hm
    · exact h2 r hm
    · simp at hm; subst hm; exact hr
  · by_cases hlt : i < xs.length
    · rw [List.getD_eq_getElem?_getD, List.getElem?_append_left (by omega), List.getElem_append_left hlt, ← List.getD_eq_getElem?_getD]
      exact ha _ _ _ _ k (h4 i hlt)
    · have hi2 : i = xs.length := by simp at hi; omega
      subst hi2
      rw [List.getD_eq_getElem?_getD, List.getElem?_append_right (by omega), h1]
      simp
      exact ha _ _ _ _ k hx
theorem one5 (nm : ByteArray) (a : Option Addr) (l c : Nat) (p : Int) (a2 : Option Addr) (l2 c2 : Nat) (a3 : Option Addr) (l3 c3 : Nat) : ∀ r ∈ [[Value.string nm, .slice a l c, .int .i64 p, .slice a2 l2 c2, .slice a3 l3 c3]], ∀ u ∈ r, u.oneCell' = true := by
  intro r hr u hu
  simp at hr
  subst hr
  simp at hu
  rcases hu with rfl | rfl | rfl | rfl | rfl <;> rfl
theorem one2 (pn : ByteArray) (a : Option Addr) (l c : Nat) : ∀ r ∈ [[Value.string pn, .slice a l c]], ∀ u ∈ r, u.oneCell' = true := by
  intro r hr u hu
  simp at hr
  subst hr
  simp at hu
  rcases hu with rfl | rfl <;> rfl
theorem set_kept {w : World} {b : Nat} {cs : Array Value} {T : TypeId} (h : Stands w b cs T) (j : Nat) (u : Value) : Kept T w (w.setCell ⟨b, j, none⟩ u) := by
  refine Kept.stands h ⟨rfl, rfl, rfl, by simp, fun k hk hne => ?_⟩
  exact Below.heap_setCell _ _ _ k (fun e => hne (by rw [e]))
theorem set5 {w : World} {b : Nat} {z0 z1 z2 z3 z4 : Value} {T : TypeId} (h : Stands w b #[z0, z1, z2, z3, z4] T) (a0 a1 a2 a3 a4 : Value) :
    Stands (((((w.setCell ⟨b, 0, none⟩ a0).setCell ⟨b, 1, none⟩ a1).setCell ⟨b, 2, none⟩ a2).setCell ⟨b, 3, none⟩ a3).setCell ⟨b, 4, none⟩ a4) b #[a0, a1, a2, a3, a4] T ∧
    (∀ {base : Nat} {e : TypeId} {sz : Nat} {v : Value} {n : Nat} {xs : List Value}, ¬ e = T → w.ownsRow base e sz v n xs → (((((w.setCell ⟨b, 0, none⟩ a0).setCell ⟨b, 1, none⟩ a1).setCell ⟨b, 2, none⟩ a2).setCell ⟨b, 3, none⟩ a3).setCell ⟨b, 4, none⟩ a4).ownsRow base e sz v n xs) := by
  have h0 := h.set 0 a0
  have h1 := h0.set 1 a1
  have h2 := h1.set 2 a2
  have h3 := h2.set 3 a3
  have h4 := h3.set 4 a4
  exact ⟨h4, fun hne o => own_kept (set_kept h3 4 a4) hne (own_kept (set_kept h2 3 a3) hne (own_kept (set_kept h1 2 a2) hne (own_kept (set_kept h0 1 a1) hne (own_kept (set_kept h 0 a0) hne o))))⟩

set_option maxHeartbeats 4000000 in
set_option maxRecDepth 100000 in
theorem w_r8copy (v : Value) (t : List Nd) (w : World) (h : RdT w v t) (hz : t.length * 96 ≤ 140737488355328) (hs : ∀ x ∈ t, sizN x) :
    Calls Tryd.prog 16 #[v] w fun e w' => ∃ v1, e = .returned v1 ∧ OwnTS w.heap.size w' v1 t ∧ Below w.heap.size w w' := by
  have hla := slr_len h uN (P := Tryd.prog)
  obtain ⟨i0, hi0, hz0, hz1, hz2⟩ := info_parts infoNode
  obtain ⟨i9, hi9, hz9, hz8, hz7⟩ := info_parts infoProp
  go_enter Tryd.func16, Tryd.ntmps16
  go_wp2_with fail
  go_loopw [3, 4] (fun U I wx => ∃ (i : Nat), (i : Int) ≤ t.length ∧ I = .int .i64 i ∧ OwnTS w.heap.size wx U (t.take i) ∧ Below w.heap.size w wx) (fun _ I _ => (t.length - intOf I).toNat)
  case atStart => exact ⟨0, by omega, rfl, OwnTS.nil _ _, Below.refl _ _⟩
  case round =>
    obtain ⟨i, hi, rfl, ho, hb⟩ := hrel
    by_cases hlt : (i : Int) < t.length
    · have hil : i < t.length := by omega
      obtain ⟨b1, o1, nm, u1, p1, c1, r1, f0, f1, f2, f3, f4, e1, hu1, hp1, hc1⟩ := nod_at h i hil
      obtain ⟨ua, uq, rfl⟩ := rd_slice hu1
      obtain ⟨pa, pq, rfl⟩ := slr_slice hp1
      obtain ⟨ca, cq, rfl⟩ := rd_slice hc1
      obtain ⟨s1, s2, s3, s4⟩ := hs _ (List.getElem_mem hil)
      obtain ⟨P, hP⟩ : ∃ P, t[i].2.2.1 = P := ⟨_, rfl⟩
      rw [hP] at f2
      have l0 := below_cell hb f0
      have l1 := below_cell hb f1
      have l2 := below_cell hb f2
      have l3 := below_cell hb f3
      have l4 := below_cell hb f4
      have cu := fun W (g : Below w.heap.size w W) => w_r3copy _ _ W (hu1.below g) (by unfold maxLen; omega) s1
      have cc := fun W (g : Below w.heap.size w W) => w_r3copy _ _ W (hc1.below g) (by unfold maxLen; omega) s2
      go_upto_region 5 with fail
      go_cut [5] (fun S wx => ∃ (B : Nat) (vU vC : Value), S = .pointer (some ⟨B, 0, none⟩) ∧ wr.heap.size ≤ B ∧ Stands wx B #[.string nm, vU, .int .i64 P, .slice none 0 0, vC] 56 ∧ wx.ownsRow wr.heap.size 58 1 vU t[i].2.1.length (t[i].2.1.map (Value.int .u32)) ∧ wx.ownsRow wr.heap.size 58 1 vC t[i].2.2.2.2.length (t[i].2.2.2.2.map (Value.int .u32)) ∧ Below wr.heap.size wr wx)
      case first =>
        have HB := hid hb
        have CU := hid cu
        have CC := hid cc
        have HS : Hid (∀ W, Below wr.heap.size wr W → W.cell? ⟨b1, o1, none⟩ = some (.string nm) ∧ W.cell? ⟨b1, o1 + 1, none⟩ = some (.slice ua t[i].2.1.length uq) ∧ W.cell? ⟨b1, o1 + 2, none⟩ = some (.int .i64 P) ∧ W.cell? ⟨b1, o1 + 4, none⟩ = some (.slice ca t[i].2.2.2.2.length cq)) := fun W g => ⟨below_cell g l0, below_cell g l1, below_cell g l2, below_cell g l4⟩
        have hbd : Hid (Below w.heap.size w wr.drew) := below_drewN hb 1
        have hbdA : Hid (Below w.heap.size w (wr.drew.alloc (.cells #[.string ⟨#[]⟩, .slice none 0 0, .int .i64 0, .slice none 0 0, .slice none 0 0] 56))) := hbd.out.alloc hbd.out.size (.cells #[.string ⟨#[]⟩, .slice none 0 0, .int .i64 0, .slice none 0 0, .slice none 0 0] 56)
        have hbdD : Hid (Below w.heap.size w (wr.alloc (.cells #[.string ⟨#[]⟩, .slice none 0 0, .int .i64 0, .slice none 0 0, .slice none 0 0] 56)).drew) := below_drewN (hb.alloc hb.size (.cells #[.string ⟨#[]⟩, .slice none 0 0, .int .i64 0, .slice none 0 0, .slice none 0 0] 56)) 1
        have hrdD : Hid (Below wr.heap.size wr (wr.alloc (.cells #[.string ⟨#[]⟩, .slice none 0 0, .int .i64 0, .slice none 0 0, .slice none 0 0] 56)).drew) := below_drewN ((Below.refl _ wr).alloc (Nat.le_refl _) (.cells #[.string ⟨#[]⟩, .slice none 0 0, .int .i64 0, .slice none 0 0, .slice none 0 0] 56)) 1
        have stD : Hid (Stands (wr.alloc (.cells #[.string ⟨#[]⟩, .slice none 0 0, .int .i64 0, .slice none 0 0, .slice none 0 0] 56)).drew wr.heap.size #[.string ⟨#[]⟩, .slice none 0 0, .int .i64 0, .slice none 0 0, .slice none 0 0] 56) := stands_new wr #[.string ⟨#[]⟩, .slice none 0 0, .int .i64 0, .slice none 0 0, .slice none 0 0] 56
        have hrd : Hid (Below wr.heap.size wr wr.drew) := below_drewN (Below.refl _ _) 1
        have hrdA : Hid (Below wr.heap.size wr (wr.drew.alloc (.cells #[.string ⟨#[]⟩, .slice none 0 0, .int .i64 0, .slice none 0 0, .slice none 0 0] 56))) := hrd.out.alloc hrd.out.size (.cells #[.string ⟨#[]⟩, .slice none 0 0, .int .i64 0, .slice none 0 0, .slice none 0 0] 56)
        clear hb cu cc f0 f1 f2 f3 f4 l0 l1 l2 l3 l4 hla hi0 hz0 hz1 hz2 hi9 hz9 hz8 hz7 ho hs h hz hu1 hp1 hc1 s1 s2 s3 s4 e1 hP hi
        go_region_held (fun W => W.cell? ⟨b1, o1, none⟩ = some (.string nm) ∧ W.cell? ⟨b1, o1 + 1, none⟩ = some (.slice ua t[i].2.1.length uq) ∧ W.cell? ⟨b1, o1 + 2, none⟩ = some (.int .i64 P) ∧ W.cell? ⟨b1, o1 + 4, none⟩ = some (.slice ca t[i].2.2.2.2.length cq)) (exact HS.out _ (by first | with_reducible exact hrd.out | with_reducible exact hrdA.out | with_reducible exact hrdD.out | with_reducible exact RU.out | with_reducible exact RC.out | with_reducible exact RU.out.alloc RU.out.size _ | with_reducible exact RC.out.alloc RC.out.size _ | with_reducible exact below_set (below_set (below_set (below_set (below_set RU.out _ _ _ (by first | with_reducible exact Nat.le_refl _ | with_reducible exact RU.out.size | with_reducible exact RC.out.size)) _ _ _ (by first | with_reducible exact Nat.le_refl _ | with_reducible exact RU.out.size | with_reducible exact RC.out.size)) _ _ _ (by first | with_reducible exact Nat.le_refl _ | with_reducible exact RU.out.size | with_reducible exact RC.out.size)) _ _ _ (by first | with_reducible exact Nat.le_refl _ | with_reducible exact RU.out.size | with_reducible exact RC.out.size)) _ _ _ (by first | with_reducible exact Nat.le_refl _ | with_reducible exact RU.out.size | with_reducible exact RC.out.size) | with_reducible exact below_set (below_set (below_set (below_set (below_set RC.out _ _ _ (by first | with_reducible exact Nat.le_refl _ | with_reducible exact RU.out.size | with_reducible exact RC.out.size)) _ _ _ (by first | with_reducible exact Nat.le_refl _ | with_reducible exact RU.out.size | with_reducible exact RC.out.size)) _ _ _ (by first | with_reducible exact Nat.le_refl _ | with_reducible exact RU.out.size | with_reducible exact RC.out.size)) _ _ _ (by first | with_reducible exact Nat.le_refl _ | with_reducible exact RU.out.size | with_reducible exact RC.out.size)) _ _ _ (by first | with_reducible exact Nat.le_refl _ | with_reducible exact RU.out.size | with_reducible exact RC.out.size))) (first
          | (go_at_call_of 46 ua; refine (CU.out _ (by first | with_reducible exact hbd.out | with_reducible exact hbdA.out | with_reducible exact hbdD.out | with_reducible exact BC.out | with_reducible exact BC.out.alloc BC.out.size _)).mono ?_; rintro e qU ⟨vU, rfl, oU, bU'⟩; obtain ⟨uo, ucap, rfl⟩ := own_form oU; have RU : Hid (Below wr.heap.size wr qU) := below_trans (by first | with_reducible exact hrd.out | with_reducible exact hrdA.out | with_reducible exact hrdD.out | with_reducible exact RC.out | with_reducible exact RC.out.alloc RC.out.size _) bU'; have BU : Hid (Below w.heap.size w qU) := below_trans HB.out RU.out; (try (have stU : Stands qU _ #[.string ⟨#[]⟩, .slice none 0 0, .int .i64 0, .slice none 0 0, .slice none 0 0] 56 := (by first | with_reducible exact stC.below bU' | with_reducible exact (stands_new _ _ _).below bU' | with_reducible exact stD.out.below bU'); have z0 := stU.cell 0 _ rfl; have z1 := stU.cell 1 _ rfl; have z2 := stU.cell 2 _ rfl; have z3 := stU.cell 3 _ rfl; have z4 := stU.cell 4 _ rfl; have z5 := stU.free)); have OU := hid (own_le (b := wr.heap.size) (by first | with_reducible exact hrd.out.size | with_reducible exact hrdA.out.size | with_reducible exact hrdD.out.size | with_reducible exact RC.out.size | with_reducible exact (RC.out.alloc RC.out.size _).size) oU); have HU := hid bU'; clear oU bU')
          | (go_at_call_of 46 ca; refine (CC.out _ (by first | with_reducible exact hbd.out | with_reducible exact hbdA.out | with_reducible exact hbdD.out | with_reducible exact BU.out | with_reducible exact BU.out.alloc BU.out.size _)).mono ?_; rintro e qC ⟨vC, rfl, oC, bC'⟩; obtain ⟨co, ccap, rfl⟩ := own_form oC; have RC : Hid (Below wr.heap.size wr qC) := below_trans (by first | with_reducible exact hrd.out | with_reducible exact hrdA.out | with_reducible exact hrdD.out | with_reducible exact RU.out | with_reducible exact RU.out.alloc RU.out.size _) bC'; have BC : Hid (Below w.heap.size w qC) := below_trans HB.out RC.out; (try (have stC : Stands qC _ #[.string ⟨#[]⟩, .slice none 0 0, .int .i64 0, .slice none 0 0, .slice none 0 0] 56 := (by first | with_reducible exact stU.below bC' | with_reducible exact (stands_new _ _ _).below bC' | with_reducible exact stD.out.below bC'); have z0 := stC.cell 0 _ rfl; have z1 := stC.cell 1 _ rfl; have z2 := stC.cell 2 _ rfl; have z3 := stC.cell 3 _ rfl; have z4 := stC.cell 4 _ rfl; have z5 := stC.free)); have OC := hid (own_le (b := wr.heap.size) (by first | with_reducible exact hrd.out.size | with_reducible exact hrdA.out.size | with_reducible exact hrdD.out.size | with_reducible exact RU.out.size | with_reducible exact (RU.out.alloc RU.out.size _).size) oC); have HC := hid bC'; clear oC bC'))
        all_goals go_wp2_with fail
        · go_meet
          case rel => exact ⟨qC.heap.size, _, _, rfl, RC.out.size, stands_new qC _ _, World.ownsRow.alloc (own_below OU.out HC.out) _, World.ownsRow.alloc OC.out _, RC.out.alloc RC.out.size _⟩
        · obtain ⟨k1, k2⟩ := set5 stC (.string nm) (.slice uo t[i].2.1.length ucap) (.int .i64 P) (.slice none 0 0) (.slice co t[i].2.2.2.2.length ccap)
          have K1 := hid k1
          have K2 := hid (k2 (by decide) (own_below (World.ownsRow.alloc OU.out _) HC.out))
          have K3 := hid (k2 (by decide) OC.out)
          have K4 : Hid (Below wr.heap.size wr _) := below_set (below_set (below_set (below_set (below_set RC.out qU.heap.size 0 (.string nm) RU.out.size) qU.heap.size 1 (.slice uo t[i].2.1.length ucap) RU.out.size) qU.heap.size 2 (.int .i64 P) RU.out.size) qU.heap.size 3 (.slice none 0 0) RU.out.size) qU.heap.size 4 (.slice co t[i].2.2.2.2.length ccap) RU.out.size
          clear k1 k2
          go_meet
          case rel => exact ⟨qU.heap.size, _, _, rfl, RU.out.size, K1.out, K2.out, K3.out, K4.out⟩
        · obtain ⟨k1, k2⟩ := set5 stC (.string nm) (.slice uo t[i].2.1.length ucap) (.int .i64 P) (.slice none 0 0) (.slice co t[i].2.2.2.2.length ccap)
          have K1 := hid k1
          have K2 := hid (k2 (by decide) (own_below OU.out HC.out))
          have K3 := hid (k2 (by decide) OC.out)
          have K4 : Hid (Below wr.heap.size wr _) := below_set (below_set (below_set (below_set (below_set RC.out wr.heap.size 0 (.string nm) (Nat.le_refl _)) wr.heap.size 1 (.slice uo t[i].2.1.length ucap) (Nat.le_refl _)) wr.heap.size 2 (.int .i64 P) (Nat.le_refl _)) wr.heap.size 3 (.slice none 0 0) (Nat.le_refl _)) wr.heap.size 4 (.slice co t[i].2.2.2.2.length ccap) (Nat.le_refl _)
          clear k1 k2
          go_meet
          case rel => exact ⟨wr.heap.size, _, _, rfl, Nat.le_refl _, K1.out, K2.out, K3.out, K4.out⟩
      case rest =>
        obtain ⟨W0, rfl⟩ : ∃ W0, W0 = wr := ⟨_, rfl⟩
        obtain ⟨B, vU, vC, rfl, hBw, st, oU, oC, bw⟩ := hcut
        obtain ⟨Ps, hPs⟩ : ∃ Ps, t[i].2.2.2.1 = Ps := ⟨_, rfl⟩
        rw [hPs] at hp1 s3 s4 l3 f3
        have hPl := slr_max hp1
        unfold maxLen at hPl
        clear cu cc l0 l1 l2 l3 l4 hu1 hc1
        go_wp2_with fail
        go_loopw [6] (fun K wx => ∃ (k : Nat) (vp : Value), (k : Int) ≤ Ps.length ∧ K = .int .i64 k ∧ Stands wx B #[.string nm, vU, .int .i64 P, vp, vC] 56 ∧ wx.ownsRow W0.heap.size 58 1 vU t[i].2.1.length (t[i].2.1.map (Value.int .u32)) ∧ wx.ownsRow W0.heap.size 58 1 vC t[i].2.2.2.2.length (t[i].2.2.2.2.map (Value.int .u32)) ∧ OwnR 65 2 (propO W0.heap.size) W0.heap.size wx vp (Ps.take k) ∧ Below W0.heap.size W0 wx) (fun K _ => (Ps.length - intOf K).toNat)
        case atStart => exact ⟨0, .slice none 0 0, by omega, rfl, st, oU, oC, OwnR.nil _ _ _ _ _, bw⟩
        case round =>
          obtain ⟨k, vp, hk, rfl, st2, oU2, oC2, oP, hb0⟩ := hrel
          have hb2 := below_trans hb hb0
          have l3 := below_cell hb2 f3
          by_cases hlk : (k : Int) < Ps.length
          · have hkl : k < Ps.length := by omega
            obtain ⟨b2, o2, pn, vd, r2, g0, g1, e2, hd2⟩ := prp_at8 hp1 k hkl
            obtain ⟨da, dq, rfl⟩ := rd_slice hd2
            have n0 := below_cell hb2 g0
            have n1 := below_cell hb2 g1
            have cd := fun W (g : Below w.heap.size w W) => w_rcopy _ _ W (hd2.below g) (s4 _ (List.getElem_mem hkl))
            go_upto_region 9 with fail
            have HB := hid hb2
            have CD := hid cd
            have HS : Hid (∀ W, Below wr.heap.size wr W → W.cell? ⟨b1, o1 + 3, none⟩ = some (.slice pa Ps.length pq) ∧ W.cell? ⟨b2, o2, none⟩ = some (.string pn) ∧ W.cell? ⟨b2, o2 + 1, none⟩ = some (.slice da Ps[k].2.length dq)) := fun W g => ⟨below_cell g l3, below_cell g n0, below_cell g n1⟩
            have HT : Hid (∀ W, Below w.heap.size w W → W.cell? ⟨b1, o1 + 3, none⟩ = some (.slice pa Ps.length pq) ∧ W.cell? ⟨b2, o2, none⟩ = some (.string pn) ∧ W.cell? ⟨b2, o2 + 1, none⟩ = some (.slice da Ps[k].2.length dq)) := fun W g => ⟨below_cell g f3, below_cell g g0, below_cell g g1⟩
            have hrd : Hid (Below wr.heap.size wr wr.drew) := below_drewN (Below.refl _ _) 1
            have hbd : Hid (Below w.heap.size w wr.drew) := below_drewN hb2 1
            have B0 := hid hb0
            have ST := hid st2
            have OU := hid oU2
            have OC := hid oC2
            have OP := hid oP
            clear hb2 cd l3 n0 n1 hb0 st2 oU2 oC2 oP
            refine wp_region_held_drew (S := fun W => W.cell? ⟨b1, o1 + 3, none⟩ = some (.slice pa Ps.length pq) ∧ W.cell? ⟨b2, o2, none⟩ = some (.string pn) ∧ W.cell? ⟨b2, o2 + 1, none⟩ = some (.slice da Ps[k].2.length dq)) (by kernel_rfl) (HS.out _ hrd.out) (fun hHeld => ?_)
            refine wpAnyH_take (i := 0) (v := ?v1) rfl (by kernel_rfl) (by kernel_rfl) (by kernel_rfl) (fun _ _ _ h => h) (Or.inl ⟨by rfl, ?h1⟩) (by assumption) ?r1
            case h1 => intro W hSw; (try dsimp only at hSw); go_simp; try with_reducible rfl
            simp only [Act.put, List.setIfInBounds_toArray, List.set_cons_zero, List.set_cons_succ]
            refine wpAnyH_take (i := 2) (v := ?v2) rfl (by kernel_rfl) (by kernel_rfl) (by kernel_rfl) (fun _ _ _ h => h) (Or.inl ⟨by rfl, ?h2⟩) (by assumption) ?r2
            case h2 => intro W hSw; (try dsimp only at hSw); go_simp; try with_reducible rfl
            simp only [Act.put, List.setIfInBounds_toArray, List.set_cons_zero, List.set_cons_succ]
            refine wpAnyH_take (i := 3) (v := ?v3) rfl (by kernel_rfl) (by kernel_rfl) (by kernel_rfl) (fun _ _ _ h => h) (Or.inl ⟨by rfl, ?h3⟩) (by assumption) ?r3
            case h3 => intro W hSw; (try dsimp only at hSw); go_simp; try with_reducible rfl
            simp only [Act.put, List.setIfInBounds_toArray, List.set_cons_zero, List.set_cons_succ]
            refine wpAnyH_take (i := 4) (v := ?v4) rfl (by kernel_rfl) (by kernel_rfl) (by kernel_rfl) (fun _ _ _ h => h) (Or.inl ⟨by rfl, ?h4⟩) (by assumption) ?r4
            case h4 => intro W hSw; (try dsimp only at hSw); go_simp; try with_reducible rfl
            simp only [Act.put, List.setIfInBounds_toArray, List.set_cons_zero, List.set_cons_succ]
            refine wpAnyH_take (i := 5) (v := ?v5) rfl (by kernel_rfl) (by kernel_rfl) (by kernel_rfl) (fun _ _ _ h => h) (Or.inl ⟨by rfl, ?h5⟩) (by assumption) ?r5
            case h5 => intro W hSw; (try dsimp only at hSw); go_simp; try with_reducible rfl
            simp only [Act.put, List.setIfInBounds_toArray, List.set_cons_zero, List.set_cons_succ]
            refine wpAnyH_take (i := 6) (v := ?v6) rfl (by kernel_rfl) (by kernel_rfl) (by kernel_rfl) (fun _ _ _ h => h) (Or.inl ⟨by rfl, ?h6⟩) (by assumption) ?r6
            case h6 => intro W hSw; (try dsimp only at hSw); go_simp; try with_reducible rfl
            simp only [Act.put, List.setIfInBounds_toArray, List.set_cons_zero, List.set_cons_succ]
            refine wpAnyH_take (i := 7) (v := ?v7) rfl (by kernel_rfl) (by kernel_rfl) (by kernel_rfl) (fun _ _ _ h => h) (Or.inl ⟨by rfl, ?h7⟩) (by assumption) ?r7
            case h7 => intro W hSw; (try dsimp only at hSw); go_simp; try with_reducible rfl
            simp only [Act.put, List.setIfInBounds_toArray, List.set_cons_zero, List.set_cons_succ]
            refine wpAnyH_take (i := 8) (v := ?v8) rfl (by kernel_rfl) (by kernel_rfl) (by kernel_rfl) (fun _ _ _ h => h) (Or.inl ⟨by rfl, ?h8⟩) (by assumption) ?r8
            case h8 => intro W hSw; (try dsimp only at hSw); go_simp; try with_reducible rfl
            simp only [Act.put, List.setIfInBounds_toArray, List.set_cons_zero, List.set_cons_succ]
            refine wpAnyH_take (i := 9) (v := ?v9) rfl (by kernel_rfl) (by kernel_rfl) (by kernel_rfl) (fun _ _ _ h => h) (Or.inl ⟨by rfl, ?h9⟩) (by assumption) ?r9
            case h9 => intro W hSw; (try dsimp only at hSw); go_simp; try with_reducible rfl
            simp only [Act.put, List.setIfInBounds_toArray, List.set_cons_zero, List.set_cons_succ]
            refine wpAnyH_take (i := 10) (v := ?v10) rfl (by kernel_rfl) (by kernel_rfl) (by kernel_rfl) (fun _ _ _ h => h) (Or.inl ⟨by rfl, ?h10⟩) (by assumption) ?r10
            case h10 => intro W hSw; (try dsimp only at hSw); go_simp; try with_reducible rfl
            simp only [Act.put, List.setIfInBounds_toArray, List.set_cons_zero, List.set_cons_succ]
            refine wpAnyH_take (i := 11) (v := ?v11) rfl (by kernel_rfl) (by kernel_rfl) (by kernel_rfl) (fun _ _ _ h => h) (Or.inl ⟨by rfl, ?h11⟩) (by assumption) ?r11
            case h11 => intro W hSw; (try dsimp only at hSw); go_simp; try with_reducible rfl
            simp only [Act.put, List.setIfInBounds_toArray, List.set_cons_zero, List.set_cons_succ]
            refine wpAnyH_take (i := 12) (v := ?v12) rfl (by kernel_rfl) (by kernel_rfl) (by kernel_rfl) (fun _ _ _ h => h) (Or.inl ⟨by rfl, ?h12⟩) (by assumption) ?r12
            case h12 => intro W hSw; (try dsimp only at hSw); go_simp; try with_reducible rfl
            simp only [Act.put, List.setIfInBounds_toArray, List.set_cons_zero, List.set_cons_succ]
            refine wpAnyH_take (i := 13) (v := ?v13) rfl (by kernel_rfl) (by kernel_rfl) (by kernel_rfl) (fun _ _ _ h => h) (Or.inl ⟨by rfl, ?h13⟩) (by assumption) ?r13
            case h13 => intro W hSw; (try dsimp only at hSw); go_simp; try with_reducible rfl
            simp only [Act.put, List.setIfInBounds_toArray, List.set_cons_zero, List.set_cons_succ]
            refine wpAnyH_take (i := 14) (v := ?v14) rfl (by kernel_rfl) (by kernel_rfl) (by kernel_rfl) (fun _ _ _ h => h) (Or.inl ⟨by rfl, ?h14⟩) (by assumption) ?r14
            case h14 => intro W hSw; (try dsimp only at hSw); go_simp; try with_reducible rfl
            simp only [Act.put, List.setIfInBounds_toArray, List.set_cons_zero, List.set_cons_succ]
            refine wpAnyH_take (i := 15) (v := ?v15) rfl (by kernel_rfl) (by kernel_rfl) (by kernel_rfl) (fun _ _ _ h => h) (Or.inl ⟨by rfl, ?h15⟩) (by assumption) ?r15
            case h15 => intro W hSw; (try dsimp only at hSw); go_simp; try with_reducible rfl
            simp only [Act.put, List.setIfInBounds_toArray, List.set_cons_zero, List.set_cons_succ]
            refine wpAnyH_take (i := 16) (v := ?v16) rfl (by kernel_rfl) (by kernel_rfl) (by kernel_rfl) (fun _ _ _ h => h) (Or.inl ⟨by rfl, ?h16⟩) (by assumption) ?r16
            case h16 => intro W hSw; (try dsimp only at hSw); go_simp; try with_reducible rfl
            simp only [Act.put, List.setIfInBounds_toArray, List.set_cons_zero, List.set_cons_succ]
            refine wpAnyH_take (i := 17) (v := ?v17) rfl (by kernel_rfl) (by kernel_rfl) (by kernel_rfl) (fun _ _ _ h => h) (Or.inl ⟨by rfl, ?h17⟩) (by assumption) ?r17
            case h17 => intro W hSw; (try dsimp only at hSw); go_simp; try with_reducible rfl
            simp only [Act.put, List.setIfInBounds_toArray, List.set_cons_zero, List.set_cons_succ]
            refine wpAnyH_take (i := 18) (v := ?v18) rfl (by kernel_rfl) (by kernel_rfl) (by kernel_rfl) (fun _ _ _ h => h) (Or.inl ⟨by rfl, ?h18⟩) (by assumption) ?r18
            case h18 => intro W hSw; (try dsimp only at hSw); go_simp; try with_reducible rfl
            simp only [Act.put, List.setIfInBounds_toArray, List.set_cons_zero, List.set_cons_succ]
            refine wpAnyH_take (i := 19) (v := ?v19) rfl (by kernel_rfl) (by kernel_rfl) (by kernel_rfl) (fun _ _ _ h => h) (Or.inl ⟨by rfl, ?h19⟩) (by assumption) ?r19
            case h19 => intro W hSw; (try dsimp only at hSw); go_simp; try with_reducible rfl
            simp only [Act.put, List.setIfInBounds_toArray, List.set_cons_zero, List.set_cons_succ]
            refine wpAnyH_ready (rs := [1, 20]) (by kernel_rfl) (by simp) ?_
            refine AllReadyH.cons rfl (fun K hK => ?_) ?_
            · have zb : wr.drew.cell? ⟨B, 3, none⟩ = some vp := ST.out.cell 3 _ rfl
              go_simp
              clear zb
              refine hK.out _ _ (HS.out _ hrd.out) (fun hc1 => ?_)
              clear hK K
              clear hHeld
              refine wpAnyH_ready (rs := [20]) (by kernel_rfl) (by simp) ?_
              refine AllReadyH.cons rfl (fun K hK => ?_) AllReadyH.nil
              go_simp
              go_wp2_with (first | (go_at_call 47; refine (CD.out _ (by with_reducible exact hbd.out)).mono ?_; rintro e qD ⟨vD, rfl, oD, bD'⟩; obtain ⟨dd, dcap, rfl⟩ := own_form oD; have RD : Hid (Below wr.heap.size wr qD) := below_trans hrd.out bD'; have OD := hid oD; have HD := hid bD'; clear oD bD'))
              refine hK.out _ _ (HS.out _ RD.out) (fun hc => ?_)
              clear hK K
              clear hc1
              refine wpAnyH_take (i := 21) (v := ?v20) rfl (by kernel_rfl) (by kernel_rfl) (by kernel_rfl) (fun _ _ _ h => h) (Or.inl ⟨by rfl, ?h20⟩) (by assumption) ?r20
              case h20 => intro W hSw; (try dsimp only at hSw); go_simp; try with_reducible rfl
              simp only [Act.put, List.setIfInBounds_toArray, List.set_cons_zero, List.set_cons_succ]
              refine wpAnyH_ready (rs := [22]) (by kernel_rfl) (by simp) ?_
              refine AllReadyH.cons rfl (fun K hK => ?_) AllReadyH.nil
              go_simp
              refine hK.out _ _ (HS.out _ (RD.out.alloc RD.out.size _)) (fun hc2 => ?_)
              clear hK K
              have BX : Below wr.heap.size wr (qD.alloc (.cells #[.string pn, .slice dd Ps[k].2.length dcap] 65)) := RD.out.alloc RD.out.size _
              have dX : (qD.alloc (.cells #[.string pn, .slice dd Ps[k].2.length dcap] 65)).ownsRow W0.heap.size 5 1 (.slice dd Ps[k].2.length dcap) Ps[k].2.length (Ps[k].2.map (Value.int .u8)) := World.ownsRow.alloc (own_le (Nat.le_trans B0.out.size hrd.out.size) OD.out) _
              obtain ⟨rows, h1, h2, h3, h4⟩ := OwnR.below OP.out BX (propO_below BX)
              have hkt : (Ps.take k).length = k := by rw [List.length_take]; omega
              have hpn : strOfNums Ps[k].1 = pn := e2
              have hx : propO W0.heap.size (qD.alloc (.cells #[.string pn, .slice dd Ps[k].2.length dcap] 65)) [Value.string pn, .slice dd Ps[k].2.length dcap] Ps[k] := ⟨_, by rw [hpn], dX⟩
              refine wpAnyH_ready (rs := [23]) (by kernel_rfl) (by simp) ?_
              refine AllReadyH.cons rfl (fun K hK => ?_) AllReadyH.nil
              refine step_append_rows rfl _ _ 54 rfl W0.heap.size 65 i9 _ 2 40 Tryd.underlying54 hi9 hz9 hz8 hz7 rfl (by decide) vp (Ps.take k).length _ rfl h3 _ [[Value.string pn, .slice dd Ps[k].2.length dcap]] rfl (slc_one qD [Value.string pn, .slice dd Ps[k].2.length dcap] 65 2 rfl) (one2 pn dd Ps[k].2.length dcap) (by rw [hkt]; unfold maxLen; simp only [List.length_singleton]; omega) (by rw [hkt]; simp only [List.length_singleton]; omega) (Nat.le_trans B0.out.size BX.size) ?_
              intro v4 w4 ho4 hg4
              rw [show (Ps.take k).length + [[Value.string pn, .slice dd Ps[k].2.length dcap]].length = k + 1 by rw [hkt]; rfl] at ho4
              obtain ⟨a4, c4, rfl⟩ := own_form ho4
              have k4 := Kept.own h3 hg4
              have bW4 : Hid (Below W0.heap.size W0 w4) := below_grown (below_trans B0.out BX) hg4 (fun k hk => (h3.lt k hk).1)
              have st4 := stands_kept k4 (by decide) (ST.out.below BX)
              have oU4 := hid (own_kept k4 (by decide) (own_below OU.out BX))
              have oC4 := hid (own_kept k4 (by decide) (own_below OC.out BX))
              have oP4 := hid (OwnR.snoc (propO_apt (by decide)) h1 h2 h3 h4 rfl hx (by rw [hkt]; simpa using ho4) hg4)
              have bw4 : Hid (Below w.heap.size w w4) := below_trans hb bW4.out
              refine hK.out _ _ (HT.out _ bw4.out) (fun hc4 => ?_)
              clear hK K
              clear hc2
              have k1 := hid (st4.set 3 (.slice a4 (k + 1) c4))
              have kk := set_kept st4 3 (.slice a4 (k + 1) c4)
              have k2 := hid (own_kept kk (by decide) oU4.out)
              have k3 := hid (own_kept kk (by decide) oC4.out)
              have k5 := hid (OwnR.kept oP4.out kk (by decide) (propO_apt (by decide)))
              have k6 : Hid (Below W0.heap.size W0 _) := below_set bW4.out B 3 (.slice a4 (k + 1) c4) hBw
              have k7 : Hid (Below w.heap.size w _) := below_set bw4.out B 3 (.slice a4 (k + 1) c4) (Nat.le_trans hb.size hBw)
              have y3 := st4.cell 3 _ rfl
              have y4 := st4.free
              clear kk k4 h1 h2 h3 h4 hx dX ho4 hg4 BX st4
              refine wpAnyH_take (i := 24) (v := ?v21) rfl (by kernel_rfl) (by kernel_rfl) (by kernel_rfl) (fun _ _ _ h => h) (Or.inl ⟨by rfl, ?h21⟩) (by assumption) ?r21
              case h21 => intro W hSw; (try dsimp only at hSw); go_simp; try with_reducible rfl
              simp only [Act.put, List.setIfInBounds_toArray, List.set_cons_zero, List.set_cons_succ]
              refine wpAnyH_ready (rs := [25]) (by kernel_rfl) (by simp) ?_
              refine AllReadyH.cons rfl (fun K hK => ?_) AllReadyH.nil
              go_simp
              refine hK.out _ _ (HT.out _ k7.out) (fun hc5 => ?_)
              clear hK K
              refine wpAnyH_done (by kernel_rfl) ?_ _
              clear hc4 hc5 y3 y4
              go_wp2_with fail
              go_roundw
              case rel =>
                refine ⟨k + 1, _, by omega, by go_num, k1.out, k2.out, k3.out, ?_, k6.out⟩
                rw [List.take_succ_eq_append_getElem hkl]
                exact k5.out
              case measure => simp [intOf]; omega
            · refine AllReadyH.cons rfl (fun K hK => ?_) AllReadyH.nil
              go_simp
              go_wp2_with (first | (go_at_call 47; refine (CD.out _ (by with_reducible exact hbd.out)).mono ?_; rintro e qD ⟨vD, rfl, oD, bD'⟩; obtain ⟨dd, dcap, rfl⟩ := own_form oD; have RD : Hid (Below wr.heap.size wr qD) := below_trans hrd.out bD'; have OD := hid oD; have HD := hid bD'; clear oD bD'))
              refine hK.out _ _ (HS.out _ RD.out) (fun hc => ?_)
              clear hK K
              clear hHeld
              refine wpAnyH_take (i := 21) (v := ?v22) rfl (by kernel_rfl) (by kernel_rfl) (by kernel_rfl) (fun _ _ _ h => h) (Or.inl ⟨by rfl, ?h22⟩) (by assumption) ?r22
              case h22 => intro W hSw; (try dsimp only at hSw); go_simp; try with_reducible rfl
              simp only [Act.put, List.setIfInBounds_toArray, List.set_cons_zero, List.set_cons_succ]
              refine wpAnyH_ready (rs := [1, 22]) (by kernel_rfl) (by simp) ?_
              refine AllReadyH.cons rfl (fun K hK => ?_) ?_
              · have zb : qD.cell? ⟨B, 3, none⟩ = some vp := (ST.out.below RD.out).cell 3 _ rfl
                go_simp
                clear zb
                refine hK.out _ _ (HS.out _ RD.out) (fun hc1 => ?_)
                clear hK K
                clear hc
                refine wpAnyH_ready (rs := [22]) (by kernel_rfl) (by simp) ?_
                refine AllReadyH.cons rfl (fun K hK => ?_) AllReadyH.nil
                go_simp
                refine hK.out _ _ (HS.out _ (RD.out.alloc RD.out.size _)) (fun hc2 => ?_)
                clear hK K
                clear hc1
                have BX : Below wr.heap.size wr (qD.alloc (.cells #[.string pn, .slice dd Ps[k].2.length dcap] 65)) := RD.out.alloc RD.out.size _
                have dX : (qD.alloc (.cells #[.string pn, .slice dd Ps[k].2.length dcap] 65)).ownsRow W0.heap.size 5 1 (.slice dd Ps[k].2.length dcap) Ps[k].2.length (Ps[k].2.map (Value.int .u8)) := World.ownsRow.alloc (own_le (Nat.le_trans B0.out.size hrd.out.size) OD.out) _
                obtain ⟨rows, h1, h2, h3, h4⟩ := OwnR.below OP.out BX (propO_below BX)
                have hkt : (Ps.take k).length = k := by rw [List.length_take]; omega
                have hpn : strOfNums Ps[k].1 = pn := e2
                have hx : propO W0.heap.size (qD.alloc (.cells #[.string pn, .slice dd Ps[k].2.length dcap] 65)) [Value.string pn, .slice dd Ps[k].2.length dcap] Ps[k] := ⟨_, by rw [hpn], dX⟩
                refine wpAnyH_ready (rs := [23]) (by kernel_rfl) (by simp) ?_
                refine AllReadyH.cons rfl (fun K hK => ?_) AllReadyH.nil
                refine step_append_rows rfl _ _ 54 rfl W0.heap.size 65 i9 _ 2 40 Tryd.underlying54 hi9 hz9 hz8 hz7 rfl (by decide) vp (Ps.take k).length _ rfl h3 _ [[Value.string pn, .slice dd Ps[k].2.length dcap]] rfl (slc_one qD [Value.string pn, .slice dd Ps[k].2.length dcap] 65 2 rfl) (one2 pn dd Ps[k].2.length dcap) (by rw [hkt]; unfold maxLen; simp only [List.length_singleton]; omega) (by rw [hkt]; simp only [List.length_singleton]; omega) (Nat.le_trans B0.out.size BX.size) ?_
                intro v4 w4 ho4 hg4
                rw [show (Ps.take k).length + [[Value.string pn, .slice dd Ps[k].2.length dcap]].length = k + 1 by rw [hkt]; rfl] at ho4
                obtain ⟨a4, c4, rfl⟩ := own_form ho4
                have k4 := Kept.own h3 hg4
                have bW4 : Hid (Below W0.heap.size W0 w4) := below_grown (below_trans B0.out BX) hg4 (fun k hk => (h3.lt k hk).1)
                have st4 := stands_kept k4 (by decide) (ST.out.below BX)
                have oU4 := hid (own_kept k4 (by decide) (own_below OU.out BX))
                have oC4 := hid (own_kept k4 (by decide) (own_below OC.out BX))
                have oP4 := hid (OwnR.snoc (propO_apt (by decide)) h1 h2 h3 h4 rfl hx (by rw [hkt]; simpa using ho4) hg4)
                have bw4 : Hid (Below w.heap.size w w4) := below_trans hb bW4.out
                refine hK.out _ _ (HT.out _ bw4.out) (fun hc4 => ?_)
                clear hK K
                clear hc2
                have k1 := hid (st4.set 3 (.slice a4 (k + 1) c4))
                have kk := set_kept st4 3 (.slice a4 (k + 1) c4)
                have k2 := hid (own_kept kk (by decide) oU4.out)
                have k3 := hid (own_kept kk (by decide) oC4.out)
                have k5 := hid (OwnR.kept oP4.out kk (by decide) (propO_apt (by decide)))
                have k6 : Hid (Below W0.heap.size W0 _) := below_set bW4.out B 3 (.slice a4 (k + 1) c4) hBw
                have k7 : Hid (Below w.heap.size w _) := below_set bw4.out B 3 (.slice a4 (k + 1) c4) (Nat.le_trans hb.size hBw)
                have y3 := st4.cell 3 _ rfl
                have y4 := st4.free
                clear kk k4 h1 h2 h3 h4 hx dX ho4 hg4 BX st4
                refine wpAnyH_take (i := 24) (v := ?v23) rfl (by kernel_rfl) (by kernel_rfl) (by kernel_rfl) (fun _ _ _ h => h) (Or.inl ⟨by rfl, ?h23⟩) (by assumption) ?r23
                case h23 => intro W hSw; (try dsimp only at hSw); go_simp; try with_reducible rfl
                simp only [Act.put, List.setIfInBounds_toArray, List.set_cons_zero, List.set_cons_succ]
                refine wpAnyH_ready (rs := [25]) (by kernel_rfl) (by simp) ?_
                refine AllReadyH.cons rfl (fun K hK => ?_) AllReadyH.nil
                go_simp
                refine hK.out _ _ (HT.out _ k7.out) (fun hc5 => ?_)
                clear hK K
                refine wpAnyH_done (by kernel_rfl) ?_ _
                clear hc4 hc5 y3 y4
                go_wp2_with fail
                go_roundw
                case rel =>
                  refine ⟨k + 1, _, by omega, by go_num, k1.out, k2.out, k3.out, ?_, k6.out⟩
                  rw [List.take_succ_eq_append_getElem hkl]
                  exact k5.out
                case measure => simp [intOf]; omega
              · refine AllReadyH.cons rfl (fun K hK => ?_) AllReadyH.nil
                go_simp
                refine hK.out _ _ (HS.out _ (RD.out.alloc RD.out.size _)) (fun hc1 => ?_)
                clear hK K
                clear hc
                refine wpAnyH_ready (rs := [1]) (by kernel_rfl) (by simp) ?_
                refine AllReadyH.cons rfl (fun K hK => ?_) AllReadyH.nil
                have zb : (qD.alloc (.cells #[.string pn, .slice dd Ps[k].2.length dcap] 65)).cell? ⟨B, 3, none⟩ = some vp := (ST.out.below (RD.out.alloc RD.out.size _)).cell 3 _ rfl
                go_simp
                clear zb
                refine hK.out _ _ (HS.out _ (RD.out.alloc RD.out.size _)) (fun hc2 => ?_)
                clear hK K
                clear hc1
                have BX : Below wr.heap.size wr (qD.alloc (.cells #[.string pn, .slice dd Ps[k].2.length dcap] 65)) := RD.out.alloc RD.out.size _
                have dX : (qD.alloc (.cells #[.string pn, .slice dd Ps[k].2.length dcap] 65)).ownsRow W0.heap.size 5 1 (.slice dd Ps[k].2.length dcap) Ps[k].2.length (Ps[k].2.map (Value.int .u8)) := World.ownsRow.alloc (own_le (Nat.le_trans B0.out.size hrd.out.size) OD.out) _
                obtain ⟨rows, h1, h2, h3, h4⟩ := OwnR.below OP.out BX (propO_below BX)
                have hkt : (Ps.take k).length = k := by rw [List.length_take]; omega
                have hpn : strOfNums Ps[k].1 = pn := e2
                have hx : propO W0.heap.size (qD.alloc (.cells #[.string pn, .slice dd Ps[k].2.length dcap] 65)) [Value.string pn, .slice dd Ps[k].2.length dcap] Ps[k] := ⟨_, by rw [hpn], dX⟩
                refine wpAnyH_ready (rs := [23]) (by kernel_rfl) (by simp) ?_
                refine AllReadyH.cons rfl (fun K hK => ?_) AllReadyH.nil
                refine step_append_rows rfl _ _ 54 rfl W0.heap.size 65 i9 _ 2 40 Tryd.underlying54 hi9 hz9 hz8 hz7 rfl (by decide) vp (Ps.take k).length _ rfl h3 _ [[Value.string pn, .slice dd Ps[k].2.length dcap]] rfl (slc_one qD [Value.string pn, .slice dd Ps[k].2.length dcap] 65 2 rfl) (one2 pn dd Ps[k].2.length dcap) (by rw [hkt]; unfold maxLen; simp only [List.length_singleton]; omega) (by rw [hkt]; simp only [List.length_singleton]; omega) (Nat.le_trans B0.out.size BX.size) ?_
                intro v4 w4 ho4 hg4
                rw [show (Ps.take k).length + [[Value.string pn, .slice dd Ps[k].2.length dcap]].length = k + 1 by rw [hkt]; rfl] at ho4
                obtain ⟨a4, c4, rfl⟩ := own_form ho4
                have k4 := Kept.own h3 hg4
                have bW4 : Hid (Below W0.heap.size W0 w4) := below_grown (below_trans B0.out BX) hg4 (fun k hk => (h3.lt k hk).1)
                have st4 := stands_kept k4 (by decide) (ST.out.below BX)
                have oU4 := hid (own_kept k4 (by decide) (own_below OU.out BX))
                have oC4 := hid (own_kept k4 (by decide) (own_below OC.out BX))
                have oP4 := hid (OwnR.snoc (propO_apt (by decide)) h1 h2 h3 h4 rfl hx (by rw [hkt]; simpa using ho4) hg4)
                have bw4 : Hid (Below w.heap.size w w4) := below_trans hb bW4.out
                refine hK.out _ _ (HT.out _ bw4.out) (fun hc4 => ?_)
                clear hK K
                clear hc2
                have k1 := hid (st4.set 3 (.slice a4 (k + 1) c4))
                have kk := set_kept st4 3 (.slice a4 (k + 1) c4)
                have k2 := hid (own_kept kk (by decide) oU4.out)
                have k3 := hid (own_kept kk (by decide) oC4.out)
                have k5 := hid (OwnR.kept oP4.out kk (by decide) (propO_apt (by decide)))
                have k6 : Hid (Below W0.heap.size W0 _) := below_set bW4.out B 3 (.slice a4 (k + 1) c4) hBw
                have k7 : Hid (Below w.heap.size w _) := below_set bw4.out B 3 (.slice a4 (k + 1) c4) (Nat.le_trans hb.size hBw)
                have y3 := st4.cell 3 _ rfl
                have y4 := st4.free
                clear kk k4 h1 h2 h3 h4 hx dX ho4 hg4 BX st4
                refine wpAnyH_take (i := 24) (v := ?v24) rfl (by kernel_rfl) (by kernel_rfl) (by kernel_rfl) (fun _ _ _ h => h) (Or.inl ⟨by rfl, ?h24⟩) (by assumption) ?r24
                case h24 => intro W hSw; (try dsimp only at hSw); go_simp; try with_reducible rfl
                simp only [Act.put, List.setIfInBounds_toArray, List.set_cons_zero, List.set_cons_succ]
                refine wpAnyH_ready (rs := [25]) (by kernel_rfl) (by simp) ?_
                refine AllReadyH.cons rfl (fun K hK => ?_) AllReadyH.nil
                go_simp
                refine hK.out _ _ (HT.out _ k7.out) (fun hc5 => ?_)
                clear hK K
                refine wpAnyH_done (by kernel_rfl) ?_ _
                clear hc4 hc5 y3 y4
                go_wp2_with fail
                go_roundw
                case rel =>
                  refine ⟨k + 1, _, by omega, by go_num, k1.out, k2.out, k3.out, ?_, k6.out⟩
                  rw [List.take_succ_eq_append_getElem hkl]
                  exact k5.out
                case measure => simp [intOf]; omega
          · have hke : k = Ps.length := by omega
            subst hke
            rw [List.take_length] at oP
            obtain ⟨pr, hpr⟩ := oP.row
            obtain ⟨pa2, pcap2, rfl⟩ := own_form hpr
            have x0 := st2.cell 0 _ rfl
            have x1 := st2.cell 1 _ rfl
            have x2 := st2.cell 2 _ rfl
            have x3 := st2.cell 3 _ rfl
            have x4 := st2.cell 4 _ rfl
            obtain ⟨ua2, uc2, rfl⟩ := own_form oU2
            obtain ⟨ca2, cc2, rfl⟩ := own_form oC2
            have bX := below_trans hb0 (box_below wr (.cells #[.string nm, .slice ua2 t[i].2.1.length uc2, .int .i64 P, .slice pa2 Ps.length pcap2, .slice ca2 t[i].2.2.2.2.length cc2] 56))
            have hx9 : nodO w.heap.size (wr.alloc (.cells #[.string nm, .slice ua2 t[i].2.1.length uc2, .int .i64 P, .slice pa2 Ps.length pcap2, .slice ca2 t[i].2.2.2.2.length cc2] 56)) [Value.string nm, .slice ua2 t[i].2.1.length uc2, .int .i64 P, .slice pa2 Ps.length pcap2, .slice ca2 t[i].2.2.2.2.length cc2] t[i] :=
              ⟨_, _, _, by rw [e1, hP], World.ownsRow.alloc (own_le hb.size oU2) _, by rw [hPs]; exact OwnR.below (OwnR.le hb.size oP (propO_le hb.size)) (box_below wr _) (propO_below (box_below wr _)), World.ownsRow.alloc (own_le hb.size oC2) _⟩
            obtain ⟨rowsT, q1, q2, q3', q4', q5⟩ := ho
            have q3 := own_kept (T := 5) (Kept.below bX) (by decide) q3'
            have q4 := fun i hi => nodO_below bX _ _ (q4' i hi)
            have q6 : SepR (rowsT ++ [[Value.string nm, .slice ua2 t[i].2.1.length uc2, .int .i64 P, .slice pa2 Ps.length pcap2, .slice ca2 t[i].2.2.2.2.length cc2]]) := sep_snoc q5 fun j g hj hg hg2 => by
              obtain ⟨vu9, vp9, vc9, hv9, -, op9, -⟩ := q4' j (by omega)
              obtain ⟨cs9, o9⟩ := op9.row
              rw [hv9] at hg
              have a1 := (o9.lt g (by simpa using hg)).2
              have a2 := (hpr.lt g (by simpa using hg2)).1
              omega
            have Q6 := hid q6
            clear q6 q4' q3'
            have hit : (t.take i).length = i := by rw [List.length_take]; omega
            have H9 := hid hx9
            have HX := hid bX
            have Q2 := hid q2
            have Q4 := hid q4
            clear hx9 bX q2 q4 oP oU2 oC2 hpr st2 hb0
            go_wp2_with (at_builtin; refine wpList_append_rows rfl _ _ 22 rfl w.heap.size 56 i0 _ 5 96 Tryd.underlying22 hi0 hz0 hz1 hz2 rfl (by decide) u3 (t.take i).length _ rfl q3 _ [[Value.string nm, .slice ua2 t[i].2.1.length uc2, .int .i64 P, .slice pa2 Ps.length pcap2, .slice ca2 t[i].2.2.2.2.length cc2]] rfl (slc_one wr [Value.string nm, .slice ua2 t[i].2.1.length uc2, .int .i64 P, .slice pa2 Ps.length pcap2, .slice ca2 t[i].2.2.2.2.length cc2] 56 5 rfl) (one5 _ _ _ _ _ _ _ _ _ _ _) (by rw [hit]; unfold maxLen; simp only [List.length_singleton]; omega) (by rw [hit]; simp only [List.length_singleton]; omega) (below_trans hb HX.out).size ?_; intro v9 w9 ho9 hg9)
            have oT9 := OwnTS.snoc q1 Q2.out q3 Q4.out Q6.out rfl H9.out (by simpa using ho9) hg9
            have b9 := below_grown (below_trans hb HX.out) hg9 (fun k hk => (q3.lt k hk).1)
            go_roundw
            case rel =>
              refine ⟨i + 1, by omega, by go_num, ?_, b9⟩
              rw [List.take_succ_eq_append_getElem hil]
              exact oT9
            case measure => simp [intOf]; omega
    · go_wp2_with fail
      go_ret
      rw [List.take_of_length_le (by omega)] at ho
      exact ⟨_, rfl, ho, hb⟩

/-
  New and Add of the document's answer for trees.
-/
/-- a formed tree is small -/
theorem frm_siz {t : List Nd} (hf : frmT t = true) : t.length ≤ 32 ∧ ∀ x ∈ t, sizN x := by
  obtain ⟨g0, g1, g2, g3⟩ := (frm_iff t).1 hf
  refine ⟨g1, fun x hx => ?_⟩
  obtain ⟨i, hi, rfl⟩ := List.getElem_of_mem hx
  have h := g3 i hi
  unfold okN at h
  simp only [Bool.and_eq_true, Bool.or_eq_true, decide_eq_true_eq] at h
  obtain ⟨h1, h2, h3, h4⟩ := h
  have hu : t[i].2.1.length ≤ 4 := by
    rcases h1 with h1 | h1
    · subst h1
      unfold rootF at g2
      simp only [Bool.and_eq_true, decide_eq_true_eq] at g2
      rw [g2.2.1]
      simp
    · unfold okA at h1
      simp only [Bool.and_eq_true, decide_eq_true_eq] at h1
      omega
  refine ⟨by omega, by omega, by omega, fun p hp => ?_⟩
  have := (((okR_iff _).1 h4).1 p hp).2
  omega

set_option maxHeartbeats 1000000 in
theorem w_r8new (w : World) : Calls Tryd.prog 15 #[] w fun e w' => ∃ v, e = .returned v ∧ OwnT8 w.heap.size w' v [([], [], -1, [], [])] ∧ Below w.heap.size w w' := by
  go_enter Tryd.func15, Tryd.ntmps15
  go_wp2_with fail
  go_ret
  refine ⟨_, rfl, ?_, box_below _ _⟩
  refine ⟨[[.string ⟨#[]⟩, .slice none 0 0, .int .i64 (-1), .slice none 0 0, .slice none 0 0]], rfl, by simp, ⟨rfl, Or.inr ⟨w.heap.size, 1, #[.string ⟨#[]⟩, .slice none 0 0, .int .i64 (-1), .slice none 0 0, .slice none 0 0], rfl, Nat.le_refl _, heap_alloc_new w _, Nat.le_refl _, by decide, rfl, rfl⟩⟩, fun i hi => ?_⟩
  have : i = 0 := by simp at hi; omega
  subst this
  exact ⟨_, _, _, rfl, World.ownsRow_nil _ _ _ _, OwnR.nil _ _ _ _ _, World.ownsRow_nil _ _ _ _⟩

set_option maxHeartbeats 4000000 in
set_option maxRecDepth 100000 in
theorem w_r8add (v : Value) (t : List Nd) (p : Int) (s : ByteArray) (vu : Value) (un : List Int) (w : World) (h : RdT w v t) (hu : Rd .u32 w vu un) (bt : ∀ x ∈ t, bytN x) (ls : ∀ x ∈ t, lenN x) (hs : s.size ≤ maxLen) :
    Calls Tryd.prog 18 #[v, .int .i64 p, .string s, vu] w fun e w' => ∃ v1, e = .returned (.tuple #[v1, .int .i64 (addF t p (L s) un).2.1, .int .i64 (addF t p (L s) un).2.2]) ∧ OwnT8 w.heap.size w' v1 (addF t p (L s) un).1 ∧ Below w.heap.size w w' := by
  have hla := slr_len h uN (P := Tryd.prog)
  have hlu := rd_len hu uU (P := Tryd.prog)
  have hm := slr_max h
  unfold maxLen at hm
  obtain ⟨i0, hi0, hz0, hz1, hz2⟩ := info_parts infoNode
  obtain ⟨A, M, E, hA⟩ : ∃ A M E, addF t p (L s) un = (A, M, E) := ⟨_, _, _, rfl⟩
  rw [hA]
  show Calls _ _ _ _ fun e w' => ∃ v1, e = .returned (.tuple #[v1, .int .i64 M, .int .i64 E]) ∧ OwnT8 w.heap.size w' v1 A ∧ _
  have HA := hid hA
  clear hA
  have cw := w_r8wrong v t p w h bt ls
  by_cases hw : wrgF t p = 0
  · rw [hw] at cw
    have hfr : frmT t = true ∧ 0 ≤ p ∧ p < t.length := by
      unfold wrgF at hw
      split at hw
      · cases hw
      · rename_i g1
        split at hw
        · cases hw
        · rename_i g2
          have g1 : frmT t = true := by simpa using g1
          exact ⟨g1, by omega, by omega⟩
    obtain ⟨hf, hp0, hp1⟩ := hfr
    obtain ⟨hl32, hsz⟩ := frm_siz hf
    have hadd : addF t p (L s) un = if nmF (L s) = false ∨ 4 < un.length then (([] : List Nd), (0 : Int), (1 : Int)) else if twF t p (L s) un = true then ([], 0, 20) else if 32 ≤ t.length then ([], 0, 22) else (t ++ [(L s, un, p, [], [])], t.length, 0) := by
      unfold addF
      rw [if_neg (by simp [hf]), if_neg (by omega)]
    have HD := hid hadd
    have cn := fun w' => w_rnamed s w' hs
    have ct := fun w' (g : Below w.heap.size w w') => w_r8twin v t t.length p s vu un w' (h.below g) (hu.below g) bt (Nat.le_refl _)
    simp only [List.take_length] at ct
    clear hadd hw
    cases hnm : nmF (L s)
    · simp only [hnm] at cn
      have e : Hid (addF t p (L s) un = ([], 0, 1)) := by show _ = _; rw [HD.out, if_pos (Or.inl hnm)]
      clear HD hnm ct
      go_enter Tryd.func18, Tryd.ntmps18
      go_wp2_with (first
        | (go_at_call 52; refine cw.mono ?_; rintro e w1 ⟨rfl, b1⟩)
        | (go_at_call 39; refine (cn _).mono ?_; rintro e w2 ⟨rfl, b2⟩))
      go_ret3
      obtain ⟨rfl, h2⟩ := Prod.mk.inj (HA.out.symm.trans e.out)
      obtain ⟨rfl, rfl⟩ := Prod.mk.inj h2
      exact ⟨_, rfl, OwnR.nil _ _ _ _ _, below_trans b1 b2⟩
    · simp only [hnm] at cn
      by_cases h4 : (4 : Int) < un.length
      · have e : Hid (addF t p (L s) un = ([], 0, 1)) := by show _ = _; rw [HD.out, if_pos (Or.inr (by omega))]
        clear HD hnm ct
        go_enter Tryd.func18, Tryd.ntmps18
        go_wp2_with (first
          | (go_at_call 52; refine cw.mono ?_; rintro e w1 ⟨rfl, b1⟩)
          | (go_at_call 39; refine (cn _).mono ?_; rintro e w2 ⟨rfl, b2⟩))
        go_ret3
        obtain ⟨rfl, h2⟩ := Prod.mk.inj (HA.out.symm.trans e.out)
        obtain ⟨rfl, rfl⟩ := Prod.mk.inj h2
        exact ⟨_, rfl, OwnR.nil _ _ _ _ _, below_trans b1 b2⟩
      · have HD2 : Hid (addF t p (L s) un = if twF t p (L s) un = true then (([] : List Nd), (0 : Int), (20 : Int)) else if 32 ≤ t.length then ([], 0, 22) else (t ++ [(L s, un, p, [], [])], t.length, 0)) := by
          show _ = _
          rw [HD.out, if_neg (by rw [hnm]; simp; omega)]
        clear HD hnm
        cases htw : twF t p (L s) un
        · simp only [htw] at ct
          by_cases h32 : (32 : Int) ≤ t.length
          · have e : Hid (addF t p (L s) un = ([], 0, 22)) := by show _ = _; rw [HD2.out, htw, if_neg (by simp), if_pos (by omega)]
            clear HD2 htw
            go_enter Tryd.func18, Tryd.ntmps18
            go_wp2_with (first
              | (go_at_call 52; refine cw.mono ?_; rintro e w1 ⟨rfl, b1⟩)
              | (go_at_call 39; refine (cn _).mono ?_; rintro e w2 ⟨rfl, b2⟩; have g2 := below_trans b1 b2)
              | (go_at_call 40; refine (ct _ g2).mono ?_; rintro e w3 ⟨rfl, d3⟩))
            go_ret3
            obtain ⟨rfl, h2⟩ := Prod.mk.inj (HA.out.symm.trans e.out)
            obtain ⟨rfl, rfl⟩ := Prod.mk.inj h2
            exact ⟨_, rfl, OwnR.nil _ _ _ _ _, below_trans g2 (dr_below d3)⟩
          · have e : Hid (addF t p (L s) un = (t ++ [(L s, un, p, [], [])], (t.length : Int), (0 : Int))) := by show _ = _; rw [HD2.out, htw, if_neg (by simp), if_neg (by omega)]
            have cc := fun w' (g : Below w.heap.size w w') => w_r8copy v t w' (h.below g) (by omega) hsz
            have cu := fun w' (g : Below w.heap.size w w') => w_r3copy vu un w' (hu.below g) (by unfold maxLen; omega) (by omega)
            clear HD2 htw
            go_enter Tryd.func18, Tryd.ntmps18
            go_wp2_with (first
              | (go_at_call 52; refine cw.mono ?_; rintro e w1 ⟨rfl, b1⟩)
              | (go_at_call 39; refine (cn _).mono ?_; rintro e w2 ⟨rfl, b2⟩; have g2 := below_trans b1 b2)
              | (go_at_call 40; refine (ct _ g2).mono ?_; rintro e w3 ⟨rfl, d3⟩; have g3 := below_trans g2 (dr_below d3))
              | (go_at_call 16; refine (cc _ g3).mono ?_; rintro e w4 ⟨vT, rfl, oT, b4⟩; have g4 := below_trans g3 b4)
              | (go_at_call 46; refine (cu _ g4).mono ?_; rintro e w5 ⟨vU, rfl, oU, b5⟩; obtain ⟨ua, uc, rfl⟩ := own_form oU; refine Hid.out ?_))
            have g5 := below_trans g4 b5
            have bX := box_below w5 (.cells #[.string s, .slice ua un.length uc, .int .i64 p, .slice none 0 0, .slice none 0 0] 56)
            have hx : nodO w.heap.size (w5.alloc (.cells #[.string s, .slice ua un.length uc, .int .i64 p, .slice none 0 0, .slice none 0 0] 56)) [Value.string s, .slice ua un.length uc, .int .i64 p, .slice none 0 0, .slice none 0 0] (L s, un, p, [], []) := ⟨_, _, _, by rw [show strOfNums (L s) = s from nums_LB s], World.ownsRow.alloc (own_le g4.size oU) _, OwnR.nil _ _ _ _ _, World.ownsRow_nil _ _ _ _⟩
            obtain ⟨rows, q1, q2, q3, q4⟩ := OwnT8.below (OwnT8.below (OwnT8.le g3.size oT.own) b5) bX
            have g6 := below_trans g5 bX
            refine hid ?_
            go_wp2_with (at_builtin; refine wpList_append_rows rfl _ _ 22 rfl w.heap.size 56 i0 _ 5 96 Tryd.underlying22 hi0 hz0 hz1 hz2 rfl (by decide) vT t.length _ rfl q3 _ [[Value.string s, .slice ua un.length uc, .int .i64 p, .slice none 0 0, .slice none 0 0]] rfl (slc_one w5 [Value.string s, .slice ua un.length uc, .int .i64 p, .slice none 0 0, .slice none 0 0] 56 5 rfl) (one5 _ _ _ _ _ _ _ _ _ _ _) (by unfold maxLen; simp only [List.length_singleton]; omega) (by simp only [List.length_singleton]; omega) g6.size ?_; intro v9 w9 ho9 hg9)
            have oT9 := OwnR.snoc (nodO_apt (by decide) (by decide) (by decide)) q1 q2 q3 q4 rfl hx (by simpa using ho9) hg9
            have b9 := below_grown g6 hg9 (fun k hk => (q3.lt k hk).1)
            go_ret3
            obtain ⟨rfl, h2⟩ := Prod.mk.inj (HA.out.symm.trans e.out)
            obtain ⟨rfl, rfl⟩ := Prod.mk.inj h2
            exact ⟨_, rfl, oT9, b9⟩
        · simp only [htw] at ct
          have e : Hid (addF t p (L s) un = ([], 0, 20)) := by show _ = _; rw [HD2.out, htw, if_pos rfl]
          clear HD2 htw
          go_enter Tryd.func18, Tryd.ntmps18
          go_wp2_with (first
            | (go_at_call 52; refine cw.mono ?_; rintro e w1 ⟨rfl, b1⟩)
            | (go_at_call 39; refine (cn _).mono ?_; rintro e w2 ⟨rfl, b2⟩; have g2 := below_trans b1 b2)
            | (go_at_call 40; refine (ct _ g2).mono ?_; rintro e w3 ⟨rfl, d3⟩))
          go_ret3
          obtain ⟨rfl, h2⟩ := Prod.mk.inj (HA.out.symm.trans e.out)
          obtain ⟨rfl, rfl⟩ := Prod.mk.inj h2
          exact ⟨_, rfl, OwnR.nil _ _ _ _ _, below_trans g2 (dr_below d3)⟩
  · have e : Hid (addF t p (L s) un = ([], 0, wrgF t p)) := by
      show _ = _
      unfold addF wrgF
      unfold wrgF at hw
      split
      · rfl
      · rename_i g1
        rw [if_neg g1] at hw
        split
        · rename_i g2
          first | rw [if_pos g2] | simp [g2]
        · rename_i g2
          rw [if_neg g2] at hw
          exact absurd rfl hw
    obtain ⟨W, hW⟩ : ∃ W, wrgF t p = W := ⟨_, rfl⟩
    rw [hW] at cw e hw
    have hwb : (W != 0) = true := by simpa using hw
    clear hW hw
    go_enter Tryd.func18, Tryd.ntmps18
    go_wp2_with (go_at_call 52; refine cw.mono ?_; rintro e w1 ⟨rfl, b1⟩)
    go_ret3
    obtain ⟨rfl, h2⟩ := Prod.mk.inj (HA.out.symm.trans e.out)
    obtain ⟨rfl, rfl⟩ := Prod.mk.inj h2
    exact ⟨_, rfl, OwnR.nil _ _ _ _ _, b1⟩

/-
  A device's properties put anew in a tree of the call's own.
-/
theorem grown_below {w w' : World} {r : Option Nat} (g : w.grownBy w' r) {e : TypeId} {sz base : Nat} {v : Value} {n : Nat} {cs : List Value} (o : w.ownsRow base e sz v n cs) (hne : ∀ k, v.ownBlock = some k → r ≠ some k) : w'.ownsRow base e sz v n cs := by
  obtain ⟨hl, o⟩ := o
  refine ⟨hl, ?_⟩
  rcases o with h | ⟨b, cap, cur, rfl, h1, h2, h3⟩
  · exact Or.inl h
  · refine Or.inr ⟨b, cap, cur, rfl, h1, ?_, h3⟩
    rw [g.block b (Array.getElem?_eq_some_iff.1 h2).1 (fun e => hne b rfl e.symm)]
    exact h2
/-- a device stands, where a block of properties that is not its own has grown -/
theorem nodO_grown {base : Nat} {w w' : World} {r : Option Nat} (g : w.grownBy w' r) (k : Kept 65 w w') {cs : List Value} {x : Nd} (h : nodO base w cs x) (hne : ∀ b, (cs.getD 3 (.slice none 0 0)).ownBlock = some b → r ≠ some b) : nodO base w' cs x := by
  obtain ⟨vu, vp, vc, rfl, o1, ⟨rows, p1, p2, p3, p4⟩, o3⟩ := h
  refine ⟨vu, vp, vc, rfl, own_kept k (by decide) o1, ⟨rows, p1, p2, grown_below g p3 (by simpa using hne), fun i hi => ?_⟩, own_kept k (by decide) o3⟩
  exact propO_apt (by decide) _ _ _ _ k (p4 i hi)

theorem ts_put {base : Nat} {w w1 : World} {g m cap n : Nat} {t : List Nd} {rows : List (List Value)} (h1 : rows.length = t.length) (h2 : ∀ r ∈ rows, r.length = 5) (h3 : w.ownsRow base 56 5 (.slice (some ⟨g, 0, none⟩) m cap) t.length rows.flatten) (h4 : ∀ i (h : i < t.length), nodO base w (rows.getD i []) t[i]) (h5 : SepR rows)
    (hn : n < t.length) {nm vu vp vc : Value} {p : Value} (hrow : rows.getD n [] = [nm, vu, p, vp, vc]) (gr : w.grownBy w1 vp.ownBlock) (kp : Kept 65 w w1) {l : List Pp} {vp' : Value} (hp : OwnR 65 2 (propO base) base w1 vp' l)
    (hs : vp'.ownBlock = vp.ownBlock ∨ ∀ k, vp'.ownBlock = some k → w.heap.size ≤ k) :
    OwnTS base (w1.setCell ⟨g, n * 5 + 3, none⟩ vp') (.slice (some ⟨g, 0, none⟩) m cap) (t.set n (t[n].1, t[n].2.1, t[n].2.2.1, l, t[n].2.2.2.2)) := by
  have hsep : ∀ j, j < rows.length → j ≠ n → ∀ b, ((rows.getD j []).getD 3 (.slice none 0 0)).ownBlock = some b → vp.ownBlock ≠ some b := by
    intro j hj hjn b hb hv
    have hvp : ((rows.getD n []).getD 3 (.slice none 0 0)).ownBlock = some b := by rw [hrow]; exact hv
    rcases Nat.lt_or_gt_of_ne hjn with hlt | hgt
    · exact h5 j n b hlt (by omega) hb hvp
    · exact h5 n j b hgt hj hvp hb
  have k4 : ∀ i (h : i < t.length), i ≠ n → nodO base w1 (rows.getD i []) t[i] := fun i hi hin => nodO_grown gr kp (h4 i hi) (fun b hb => hsep i (by omega) hin b hb)
  have h3' : w1.ownsRow base 56 5 (.slice (some ⟨g, 0, none⟩) m cap) t.length rows.flatten := own_kept kp (by decide) h3
  have hmt : m = t.length := by
    obtain ⟨_, h3⟩ := h3
    rcases h3 with ⟨h, _⟩ | ⟨g', cap', cur, h, _⟩
    · simp at h
    · simp at h; exact h.2.1
  subst hmt
  obtain ⟨s1, s2⟩ := h3'.stored (n * 5 + 3) vp'
  have kn : Kept 56 w1 (w1.setCell ⟨g, n * 5 + 3, none⟩ vp') := Kept.own (v := .slice (some ⟨g, 0, none⟩) t.length cap) h3' (by simpa [Value.ownBlock] using s2)
  rw [flat_set rows 5 n 3 vp' h2 (by omega) (by decide)] at s1
  have ha : Apt 56 (nodO base) := nodO_apt (by decide) (by decide) (by decide)
  obtain ⟨vu0, vp0, vc0, hcs, o1, o2, o3⟩ := h4 n hn
  rw [hrow] at hcs
  simp at hcs
  obtain ⟨rfl, rfl, rfl, rfl, rfl⟩ := hcs
  have hrow2 : (rows.getD n []).set 3 vp' = [.string (strOfNums t[n].1), vu, .int .i64 t[n].2.2.1, vp', vc] := by rw [hrow]; rfl
  refine ⟨rows.set n ((rows.getD n []).set 3 vp'), by simp [h1], fun r hr => ?_, by simpa using s1, fun i hi => ?_, ?_⟩
  · rcases List.mem_or_eq_of_mem_set hr with hr | rfl
    · exact h2 r hr
    · rw [hrow2]; rfl
  · rw [List.length_set] at hi
    rw [List.getElem_set]
    by_cases hin : n = i
    · subst hin
      rw [if_pos rfl, List.getD_eq_getElem?_getD, List.getElem?_set_self (by omega)]
      show nodO base _ ((rows.getD n []).set 3 vp') _
      rw [hrow2]
      exact ha _ _ _ _ kn ⟨vu, vp', vc, rfl, own_kept kp (by decide) o1, hp, own_kept kp (by decide) o3⟩
    · rw [if_neg hin, List.getD_eq_getElem?_getD, List.getElem?_set_ne hin, ← List.getD_eq_getElem?_getD]
      exact ha _ _ _ _ kn (k4 i hi (fun e => hin e.symm))
  · have hget : ∀ j, ((rows.set n ((rows.getD n []).set 3 vp')).getD j []) = if j = n then (rows.getD n []).set 3 vp' else rows.getD j [] := by
      intro j
      by_cases hj : j = n
      · subst hj
        rw [if_pos rfl, List.getD_eq_getElem?_getD, List.getElem?_set_self (by omega)]
        rfl
      · rw [if_neg hj, List.getD_eq_getElem?_getD, List.getElem?_set_ne (fun e => hj e.symm), ← List.getD_eq_getElem?_getD]
    have hnew : ∀ j b, j < rows.length → j ≠ n → ((rows.getD j []).getD 3 (.slice none 0 0)).ownBlock = some b → vp'.ownBlock ≠ some b := by
      intro j b hj hjn hb hv
      rcases hs with hs | hs
      · exact hsep j hj hjn b hb (by rw [← hs]; exact hv)
      · have := hs b hv
        obtain ⟨vu9, vp9, vc9, hv9, -, op9, -⟩ := h4 j (by omega)
        obtain ⟨cs9, o9⟩ := op9.row
        rw [hv9] at hb
        have a1 := (o9.lt b (by simpa using hb)).2
        omega
    intro i j b hij hj hib hjb
    rw [List.length_set] at hj
    rw [hget] at hib hjb
    by_cases hi : i = n
    · rw [if_pos hi, hrow2] at hib
      rw [if_neg (by omega)] at hjb
      exact hnew j b hj (by omega) hjb hib
    · rw [if_neg hi] at hib
      by_cases hjn : j = n
      · rw [if_pos hjn, hrow2] at hjb
        exact hnew i b (by omega) hi hib hjb
      · rw [if_neg hjn] at hjb
        exact h5 i j b hij hj hib hjb

/-
  Set of the document's answer for trees: what is refused.
-/
/-- a device of a row of the call's own: where it lies -/
theorem idx_node (g m cap n : Nat) (h : n < m) : ∀ w', (Instr.indexAt 22 (.slice (some ⟨g, 0, none⟩) m cap) (.int .i64 (n : Int))).run Tryd.prog w' = .ok (.pointer (some ⟨g, n * 5, none⟩)) w' := by
  intro w'
  rw [run_indexAt_slice (h := uN), if_pos ⟨by omega, by omega⟩, zN]
  simp only [Result.andThen, Int.toNat_natCast]
  congr 3
  unfold Addr.add
  split
  · rename_i hz; rw [hz]
  · simp
theorem idx_prop (g m cap n : Nat) (h : n < m) : ∀ w', (Instr.indexAt 54 (.slice (some ⟨g, 0, none⟩) m cap) (.int .i64 (n : Int))).run Tryd.prog w' = .ok (.pointer (some ⟨g, n * 2, none⟩)) w' := by
  intro w'
  rw [run_indexAt_slice (h := uR), if_pos ⟨by omega, by omega⟩, zR]
  simp only [Result.andThen, Int.toNat_natCast]
  congr 3
  unfold Addr.add
  split
  · rename_i hz; rw [hz]
  · simp

set_option maxHeartbeats 4000000 in
set_option maxRecDepth 100000 in
theorem w_r8set_no (v : Value) (t : List Nd) (n : Int) (s : ByteArray) (vd : Value) (d : List Int) (w : World) (h : RdT w v t) (hd : Rd .u8 w vd d) (bt : ∀ x ∈ t, bytN x) (ls : ∀ x ∈ t, lenN x) (hs : s.size ≤ maxLen) (he : (setF t n (L s) d).2 ≠ 0) :
    Calls Tryd.prog 20 #[v, .int .i64 n, .string s, vd] w fun e w' => ∃ v1, e = .returned (.tuple #[v1, .int .i64 (setF t n (L s) d).2]) ∧ OwnTS w.heap.size w' v1 (setF t n (L s) d).1 ∧ Below w.heap.size w w' := by
  have hla := slr_len h uN (P := Tryd.prog)
  have hld := rd_len hd uB (P := Tryd.prog)
  have cw := w_r8wrong v t n w h bt ls
  have cn := fun w' => w_rnamed s w' hs
  by_cases hw : wrgF t n = 0
  · obtain ⟨hf, h0, hl⟩ := wrg_ok hw
    rw [hw] at cw
    obtain ⟨k, rfl⟩ : ∃ k : Nat, n = k := ⟨n.toNat, by omega⟩
    have hk : k < t.length := by simpa using hl
    cases hnm : nmF (L s)
    · have e : setF t (k : Int) (L s) d = ([], 1) := by unfold setF; rw [if_neg (by simpa using hw), if_pos hnm]
      rw [e]
      rw [hnm] at cn
      clear e hw hf he hnm
      go_enter Tryd.func20, Tryd.ntmps20
      go_wp2_with (first
        | (go_at_call 52; refine cw.mono ?_; rintro e w1 ⟨rfl, b1⟩)
        | (go_at_call 39; refine (cn _).mono ?_; rintro e w2 ⟨rfl, b2⟩))
      go_ret2
      exact ⟨_, rfl, OwnTS.nil _ _, below_trans b1 b2⟩
    · by_cases h256 : (256 : Int) < d.length
      · have e : setF t (k : Int) (L s) d = ([], 3) := by unfold setF; rw [if_neg (by simpa using hw), if_neg (by simp [hnm]), if_pos (by omega)]
        rw [e]
        rw [hnm] at cn
        clear e hw hf he hnm
        go_enter Tryd.func20, Tryd.ntmps20
        go_wp2_with (first
          | (go_at_call 52; refine cw.mono ?_; rintro e w1 ⟨rfl, b1⟩)
          | (go_at_call 39; refine (cn _).mono ?_; rintro e w2 ⟨rfl, b2⟩))
        go_ret2
        exact ⟨_, rfl, OwnTS.nil _ _, below_trans b1 b2⟩
      · obtain ⟨b1, o1, nm, u1, p1, c1, r1, f0, f1, f2, f3, f4, e1, hu1, hp1, hc1⟩ := nod_at h k hk
        obtain ⟨pa, pq, rfl⟩ := slr_slice hp1
        have hpr : prpF t (k : Int) = t[k].2.2.2.1 := by
          have := prp_at (t := t) (n := (k : Int)) (by simpa using hk)
          simpa using this
        have hpm : pfF t[k].2.2.2.1 (L s) = none ∧ 16 ≤ t[k].2.2.2.1.length := by
          by_cases hc : pfF t[k].2.2.2.1 (L s) = none ∧ 16 ≤ t[k].2.2.2.1.length
          · exact hc
          · exfalso
            apply he
            unfold setF
            rw [if_neg (by simpa using hw), if_neg (by simp [hnm]), if_neg (by omega), hpr, if_neg hc]
        have e : setF t (k : Int) (L s) d = ([], 22) := by unfold setF; rw [if_neg (by simpa using hw), if_neg (by simp [hnm]), if_neg (by omega), hpr, if_pos hpm]
        rw [e]
        rw [hnm] at cn
        have cf := fun W (g : Below w.heap.size w W) => w_r8find _ _ s W (hp1.below g (propR_below g)) (fun x hx => ((bt _ (List.getElem_mem hk)).2 x hx).1)
        rw [hpm.1] at cf
        have cf' : ∀ W, Below w.heap.size w W → Calls Tryd.prog 41 #[.slice pa t[k].2.2.2.1.length pq, .string s] W fun e w' => e = .returned (.int .i64 (-1)) ∧ w' = W := cf
        have h16 : (16 : Int) ≤ t[k].2.2.2.1.length := by omega
        clear e hw hf he hnm cf hpm hpr
        go_enter Tryd.func20, Tryd.ntmps20
        go_wp2_with (first
          | (go_at_call 52; refine cw.mono ?_; rintro e w1 ⟨rfl, b1⟩)
          | (go_at_call 39; refine (cn _).mono ?_; rintro e w2 ⟨rfl, b2⟩; have g2 := below_trans b1 b2; have l3 := below_cell g2 f3)
          | (go_at_call 41; refine (cf' _ g2).mono ?_; rintro e w3 ⟨rfl, hq⟩; obtain rfl := hq.symm))
        go_ret2
        exact ⟨_, rfl, OwnTS.nil _ _, g2⟩
  · have e : setF t n (L s) d = ([], wrgF t n) := by unfold setF; rw [if_pos hw]
    rw [e]
    obtain ⟨E, hE⟩ : ∃ E, wrgF t n = E := ⟨_, rfl⟩
    rw [hE] at cw hw
    simp only [hE]
    have hb : (E != 0) = true := by simpa using hw
    clear e hE hw he
    go_enter Tryd.func20, Tryd.ntmps20
    go_wp2_with (go_at_call 52; refine cw.mono ?_; rintro e q1 ⟨rfl, b1⟩)
    go_ret2
    exact ⟨_, rfl, OwnTS.nil _ _, b1⟩

/-
  Set of the document's answer for trees: a property that is there.
-/
theorem own_some {w : World} {base : Nat} {e : TypeId} {sz : Nat} {v : Value} {n : Nat} {cs : List Value} (o : w.ownsRow base e sz v n cs) (h : 0 < n) : ∃ g cap, v = .slice (some ⟨g, 0, none⟩) n cap := by
  rcases o.2 with ⟨_, h0⟩ | ⟨g, cap, cur, hv, _⟩
  · omega
  · exact ⟨g, cap, hv⟩
theorem own_cell {w : World} {base : Nat} {e : TypeId} {sz g n cap : Nat} {cs : List Value} (o : w.ownsRow base e sz (.slice (some ⟨g, 0, none⟩) n cap) n cs) (j : Nat) (u : Value) (h : cs[j]? = some u) : w.cell? ⟨g, j, none⟩ = some u := by
  have h1 := o.cells (g := g) rfl j u h
  have e1 : (⟨g, 0, none⟩ : Addr).add j = ⟨g, j, none⟩ := by
    unfold Addr.add
    split
    · rename_i hz; rw [hz]
    · simp
  rwa [e1] at h1
/-- the properties of a device changed in their place -/
theorem ts_in {base : Nat} {w w1 : World} {v : Value} {n : Nat} {t : List Nd} {rows : List (List Value)} (h1 : rows.length = t.length) (h2 : ∀ r ∈ rows, r.length = 5) (h3 : w.ownsRow base 56 5 v t.length rows.flatten) (h4 : ∀ i (h : i < t.length), nodO base w (rows.getD i []) t[i]) (h5 : SepR rows)
    (hn : n < t.length) {nm vu vp vc : Value} {p : Value} (hrow : rows.getD n [] = [nm, vu, p, vp, vc]) (gr : w.grownBy w1 vp.ownBlock) (kp : Kept 65 w w1) {l : List Pp} (hp : OwnR 65 2 (propO base) base w1 vp l) :
    OwnTS base w1 v (t.set n (t[n].1, t[n].2.1, t[n].2.2.1, l, t[n].2.2.2.2)) := by
  have hsep : ∀ j, j < rows.length → j ≠ n → ∀ b, ((rows.getD j []).getD 3 (.slice none 0 0)).ownBlock = some b → vp.ownBlock ≠ some b := by
    intro j hj hjn b hb hv
    have hvp : ((rows.getD n []).getD 3 (.slice none 0 0)).ownBlock = some b := by rw [hrow]; exact hv
    rcases Nat.lt_or_gt_of_ne hjn with hlt | hgt
    · exact h5 j n b hlt (by omega) hb hvp
    · exact h5 n j b hgt hj hvp hb
  have k4 : ∀ i (h : i < t.length), i ≠ n → nodO base w1 (rows.getD i []) t[i] := fun i hi hin => nodO_grown gr kp (h4 i hi) (fun b hb => hsep i (by omega) hin b hb)
  obtain ⟨vu0, vp0, vc0, hcs, o1, o2, o3⟩ := h4 n hn
  rw [hrow] at hcs
  simp at hcs
  obtain ⟨rfl, rfl, rfl, rfl, rfl⟩ := hcs
  refine ⟨rows, by simp [h1], h2, by simpa using own_kept kp (by decide) h3, fun i hi => ?_, h5⟩
  rw [List.length_set] at hi
  rw [List.getElem_set]
  by_cases hin : n = i
  · subst hin
    rw [if_pos rfl, hrow]
    exact ⟨vu, vp, vc, rfl, own_kept kp (by decide) o1, hp, own_kept kp (by decide) o3⟩
  · rw [if_neg hin]
    exact k4 i hi (fun e => hin e.symm)

set_option maxHeartbeats 4000000 in
set_option maxRecDepth 100000 in
theorem w_r8set_in (v : Value) (t : List Nd) (k j : Nat) (s : ByteArray) (vd : Value) (d : List Int) (w : World) (h : RdT w v t) (hd : Rd .u8 w vd d) (bt : ∀ x ∈ t, bytN x) (ls : ∀ x ∈ t, lenN x) (hs : s.size ≤ maxLen) (hw : wrgF t (k : Int) = 0) (hnm : nmF (L s) = true) (h256 : (d.length : Int) ≤ 256) (hk : k < t.length) (hp : pfF t[k].2.2.2.1 (L s) = some j) :
    Calls Tryd.prog 20 #[v, .int .i64 k, .string s, vd] w fun e w' => ∃ v1, e = .returned (.tuple #[v1, .int .i64 0]) ∧ OwnTS w.heap.size w' v1 (t.set k (t[k].1, t[k].2.1, t[k].2.2.1, t[k].2.2.2.1.set j (t[k].2.2.2.1.getD j ([], []) |>.1, d), t[k].2.2.2.2)) ∧ Below w.heap.size w w' := by
  have hla := slr_len h uN (P := Tryd.prog)
  have hld := rd_len hd uB (P := Tryd.prog)
  have cw := w_r8wrong v t k w h bt ls
  have cn := fun w' => w_rnamed s w' hs
  obtain ⟨hf, h0, hl⟩ := wrg_ok hw
  obtain ⟨hl32, hsz⟩ := frm_siz hf
  rw [hw] at cw
  rw [hnm] at cn
  obtain ⟨b1, o1, nm, u1, p1, c1, r1, f0, f1, f2, f3, f4, e1, hu1, hp1, hc1⟩ := nod_at h k hk
  obtain ⟨pa, pq, rfl⟩ := slr_slice hp1
  have cf := fun W (g : Below w.heap.size w W) => w_r8find _ _ s W (hp1.below g (propR_below g)) (fun x hx => ((bt _ (List.getElem_mem hk)).2 x hx).1)
  obtain ⟨hj, _, _⟩ := pf_some hp
  rw [hp] at cf
  have cf' : ∀ W, Below w.heap.size w W → Calls Tryd.prog 41 #[.slice pa t[k].2.2.2.1.length pq, .string s] W fun e w' => e = .returned (.int .i64 (j : Int)) ∧ w' = W := cf
  have cc := fun w' (g : Below w.heap.size w w') => w_r8copy v t w' (h.below g) (by omega) hsz
  have cd := fun W (g : Below w.heap.size w W) => w_rcopy vd d W (hd.below g) (by omega)
  have hj2 : ¬ (j : Int) < 0 := by omega
  have hj3 : (0 : Int) ≤ j := by omega
  clear cf hw hnm hf
  go_enter Tryd.func20, Tryd.ntmps20
  go_wp2_with (first
    | (go_at_call 52; refine cw.mono ?_; rintro e w1 ⟨rfl, b1⟩)
    | (go_at_call 39; refine (cn _).mono ?_; rintro e w2 ⟨rfl, b2⟩; have g2 := below_trans b1 b2; have l3 := below_cell g2 f3)
    | (go_at_call 41; refine (cf' _ g2).mono ?_; rintro e w3 ⟨rfl, hq⟩; obtain rfl := hq.symm)
    | (go_at_call 16; refine (cc _ g2).mono ?_; rintro e w4 ⟨vT, rfl, oT, b4⟩; refine Hid.out ?_))
  have g4 := below_trans g2 b4
  obtain ⟨rows, q1, q2, q3, q4, q5⟩ := OwnTS.le g2.size oT
  obtain ⟨gT, cT, rfl⟩ := own_some q3 (by omega)
  obtain ⟨vu, vp, vc, hrow, o1', o2', o3'⟩ := q4 k hk
  obtain ⟨prows, z1, z2, z3, z4⟩ := o2'
  obtain ⟨gP, cP, rfl⟩ := own_some z3 (by omega)
  have hix := idx_node gT t.length cT k hk
  have hip := idx_prop gP t[k].2.2.2.1.length cP j hj
  have tc : w4.cell? ⟨gT, k * 5 + 3, none⟩ = some (.slice (some ⟨gP, 0, none⟩) t[k].2.2.2.1.length cP) := own_cell q3 (k * 5 + 3) _ (by rw [flat_get rows 5 k 3 q2 (by omega) (by decide), hrow]; rfl)
  have hne : gP ≠ gT := by
    intro e
    subst e
    rcases q3.2 with ⟨hh, _⟩ | ⟨g', c', cur, hh, _, x1, _⟩
    · simp at hh
    · rcases z3.2 with ⟨hh2, _⟩ | ⟨g2', c2', cur2, hh2, _, x2, _⟩
      · simp at hh2
      · simp at hh hh2
        obtain ⟨rfl, -⟩ := hh
        obtain ⟨rfl, -⟩ := hh2
        rw [x1] at x2
        simp at x2
  have HS : Hid (∀ W, Below w4.heap.size w4 W → W.cell? ⟨gT, k * 5 + 3, none⟩ = some (.slice (some ⟨gP, 0, none⟩) t[k].2.2.2.1.length cP)) := fun W g => below_cell g tc
  have hrd : Hid (Below w4.heap.size w4 w4.drew) := below_drewN (Below.refl _ _) 1
  have hbd : Hid (Below w.heap.size w w4.drew) := below_drewN g4 1
  have CD := hid cd
  have Z3 := hid z3
  have hjl : j * 2 + 1 < prows.flatten.length := by
    rw [flat_len prows 2 z2, z1]
    omega
  obtain ⟨old, hold⟩ : ∃ u, prows.flatten[j * 2 + 1]? = some u := ⟨_, List.getElem?_eq_getElem hjl⟩
  have Hold := hid hold
  have T1 : Hid (∀ qD, Below w4.heap.size w4 qD → qD.ownsRow w.heap.size 65 2 (.slice (some ⟨gP, 0, none⟩) t[k].2.2.2.1.length cP) t[k].2.2.2.1.length prows.flatten) := fun qD g => own_kept (T := 5) (Kept.below g) (by decide) z3
  have T2 : Hid (∀ qD, Below w4.heap.size w4 qD → qD.cell? ⟨gP, j * 2 + 1, none⟩ = some old) := fun qD g => own_cell (T1.out qD g) (j * 2 + 1) _ hold
  have T3 : Hid (∀ qD, Below w4.heap.size w4 qD → qD.frozen? ⟨gP, j * 2 + 1, none⟩ = false) := fun qD g => (T1.out qD g).frozenAt (j * 2 + 1)
  have T4 : Hid (∀ qD, Below w4.heap.size w4 qD → ∀ u, (qD.setCell ⟨gP, j * 2 + 1, none⟩ u).cell? ⟨gT, k * 5 + 3, none⟩ = some (.slice (some ⟨gP, 0, none⟩) t[k].2.2.2.1.length cP)) := fun qD g u => by
    rw [World.cell?_setCell_far _ _ _ _ (by exact hne)]
    exact HS.out _ g
  clear cd tc z3 hold
  refine hid ?_
  go_wp2_with fail
  go_region_held (fun W => W.cell? ⟨gT, k * 5 + 3, none⟩ = some (.slice (some ⟨gP, 0, none⟩) t[k].2.2.2.1.length cP)) (first | with_reducible exact HS.out _ hrd.out | with_reducible exact HS.out _ RD.out | with_reducible exact HK.out _)
    (first | (go_at_call 47; refine (CD.out _ (by with_reducible exact hbd.out)).mono ?_; rintro e qD ⟨vD, rfl, oD, bD'⟩; obtain ⟨dd, dcap, rfl⟩ := own_form oD; have RD : Hid (Below w4.heap.size w4 qD) := below_trans hrd.out bD'; have y1 := T2.out qD RD.out; have y2 := T3.out qD RD.out; have HK := hid (T4.out qD RD.out); have OD := hid oD; clear oD bD'))
  go_wp2_with fail
  go_ret2
  have bD := RD.out
  have z3' := T1.out qD bD
  obtain ⟨w6, hw6⟩ : ∃ w6, qD.setCell ⟨gP, j * 2 + 1, none⟩ (.slice dd d.length dcap) = w6 := ⟨_, rfl⟩
  have gr : qD.grownBy w6 (some gP) := by rw [← hw6]; exact (z3'.stored (j * 2 + 1) _).2
  have kp : Kept 65 qD w6 := Kept.own z3' gr
  obtain ⟨vo, ho, -⟩ := z4 j hj
  have hx : propO w.heap.size w6 ((prows.getD j []).set 1 (.slice dd d.length dcap)) (t[k].2.2.2.1[j].1, d) := by
    rw [ho]
    exact ⟨_, rfl, own_kept kp (by decide) (own_le hbd.out.size OD.out)⟩
  have hset := OwnR.set (propO_apt (by decide)) z1 z2 z3' (fun i hi => propO_below bD _ _ (z4 i hi)) j 1 hj (by decide) (.slice dd d.length dcap) (t[k].2.2.2.1[j].1, d) (by rw [hw6]; exact hx)
  rw [hw6] at hset ⊢
  have hgd : t[k].2.2.2.1.getD j ([], []) = t[k].2.2.2.1[j] := by rw [List.getD_eq_getElem?_getD, List.getElem?_eq_getElem hj]; rfl
  rw [hgd]
  refine ⟨_, rfl, ts_in q1 q2 (own_kept (T := 5) (Kept.below bD) (by decide) q3) (fun i hi => nodO_below bD _ _ (q4 i hi)) q5 hk hrow gr kp hset.1, ?_⟩
  rw [← hw6]
  exact below_set (below_trans g4 bD) gP _ _ (z3'.lt gP rfl).1

end Go.Proofs.YtkdaimagdmbnfaaDoor
