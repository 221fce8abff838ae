/-
  Texts of one proof, laid one behind the other: Tfa Rt9 Plc Pbd Plq Plf Ps3 Pp3 Pp4 Tfb Tfc Tre Tal Teq.
-/
import Derived.Test.YtkdaimagdmbnfaaDoorB5
import Derived.Deep.RegionLaw
import Derived.BigFrame
import Derived.Lib.Bytealg
import Derived.Lib.Strings
import Derived.Lib.Builder
import Derived.Lib.AppendStr
import Derived.Lib.UnsafeStr
import Derived.Laws.BitsAllLaws
import Derived.Deep.RegionHeld
namespace Go.Proofs.YtkdaimagdmbnfaaDoor
open Go.ChangeShapes Go.WideShapes Go.ChangeAt Go.RowKit
set_option linter.unusedVariables false
set_option linter.unusedSimpArgs false

/-
  The library's Delete at properties, and package tree's Drop.
-/
theorem zeroP8 (w : World) : (zeroValue 65).run Tryd.prog w = .ok (.agg #[.string ⟨#[]⟩, .slice none 0 0]) w := by kernel_rfl
theorem cut_3 (g m c j : Nat) (h : j + 1 ≤ m) (hmc : m ≤ c) : ∃ v3, ∀ w, (Instr.slice 54 (.slice (some ⟨g, 0, none⟩) m c) (some (.int .i64 (j : Int))) (some (.int .i64 ((j : Int) + 1))) (some (.int .i64 (m : Int)))).run Tryd.prog w = .ok v3 w := by
  refine ⟨sliced (some ⟨g, 0, none⟩) j (j + 1) m 2, fun w => ?_⟩
  rw [run_slice_lhm w 54 (some ⟨g, 0, none⟩) m c uR .i64 .i64 .i64 (j : Int) ((j : Int) + 1) (m : Int) (by omega) (by omega) (by omega) (by omega), zR]
  simp only [Result.andThen, Int.toNat_natCast]
  rw [show ((j : Int) + 1).toNat = j + 1 by omega]
theorem cut_A (g m c j : Nat) (h : j + 1 ≤ m) (hmc : m ≤ c) : ∃ A, (∀ w, (Instr.slice 54 (.slice (some ⟨g, 0, none⟩) m c) (some (.int .i64 ((j : Int) + 1))) none none).run Tryd.prog w = .ok (.slice (some A) (m - (j + 1)) (c - (j + 1))) w) ∧ (j + 1 < m → A = ⟨g, (j + 1) * 2, none⟩) := by
  obtain ⟨a, h1, h2, h3⟩ := cut_l g m c (j + 1) h hmc
  rw [show ((j + 1 : Nat) : Int) = (j : Int) + 1 by omega] at h1
  by_cases hj : j + 1 < m
  · have := h2 hj
    subst this
    exact ⟨_, h1, fun _ => rfl⟩
  · have h4 := h1 default
    rw [run_slice_l default 54 (some ⟨g, 0, none⟩) m c uR .i64 ((j : Int) + 1) (by omega) (by omega), zR] at h4
    simp only [Result.andThen, sliced] at h4
    cases a with
    | none =>
      exfalso
      simp at h4
      split at h4 <;> cases h4
    | some A => exact ⟨A, h1, fun hh => absurd hh hj⟩
theorem cut_last (g M m c : Nat) (hm : m = M + 1) (hmc : m ≤ c) : ∀ w, (Instr.slice 54 (.slice (some ⟨g, 0, none⟩) M c) (some (.int .i64 (M : Int))) (some (.int .i64 (m : Int))) none).run Tryd.prog w = .ok (.slice (some ⟨g, M * 2, none⟩) 1 (c - M)) w := by
  intro w
  rw [run_slice_lh w 54 (some ⟨g, 0, none⟩) M c uR .i64 .i64 (M : Int) (m : Int) (by omega) (by omega) (by omega), zR]
  simp only [Result.andThen, sliced, Int.toNat_natCast]
  rw [if_neg (by omega), show m - M = 1 by omega]
  simp only [Option.map_some]
  congr 3
  unfold Addr.add
  split
  · rename_i hz; rw [hz]
  · simp
theorem clear_P (g o c : Nat) (W : World) (hc : ∀ i, i < 2 → (W.cell? ⟨g, o + i, none⟩).isSome = true) (hf : ∀ i, i < 2 → W.frozen? ⟨g, o + i, none⟩ = false) :
    ∀ ty, (Builtin.clear_ #[54] ty #[.slice (some ⟨g, o, none⟩) 1 c]).run Tryd.prog W = .ok (.tuple #[]) (W.setCells g o [.string ⟨#[]⟩, .slice none 0 0]) := by
  intro ty
  have hst := run_storeCells_cells (P := Tryd.prog) g o [.string ⟨#[]⟩, .slice none 0 0] 0 W (by simpa using hc) (by simpa using hf) (by intro u hu; simp at hu; rcases hu with rfl | rfl <;> rfl)
  simp only [Nat.add_zero] at hst
  have hzc : (Builtin.zeroCells (Value.agg #[.string ⟨#[]⟩, .slice none 0 0]).cells 1).toList = [.string ⟨#[]⟩, .slice none 0 0] := by kernel_rfl
  have hu := run_underlying (P := Tryd.prog) uR
  simp [Builtin.clear_, hu, eR, zeroP8, hzc, hst]

set_option maxHeartbeats 2000000 in
set_option maxRecDepth 100000 in
theorem w_pdelete (g m M cap j base : Nat) (rows : List (List Value)) (w : World) (o : w.ownsRow base 65 2 (.slice (some ⟨g, 0, none⟩) m cap) m rows.flatten) (h1 : rows.length = m) (h2 : ∀ r ∈ rows, r.length = 2) (h3 : ∀ r ∈ rows, ∀ u ∈ r, u.oneCell' = true) (hm : m = M + 1) (hj : j ≤ M) (hmc : m ≤ cap) (hmx : cap ≤ maxLen) :
    Calls Tryd.prog 56 #[.slice (some ⟨g, 0, none⟩) m cap, .int .i64 (j : Int), .int .i64 ((j : Int) + 1)] w fun e w' => e = .returned (.slice (some ⟨g, 0, none⟩) M cap) ∧ w'.ownsRow base 65 2 (.slice (some ⟨g, 0, none⟩) M cap) M (rows.take j ++ rows.drop (j + 1)).flatten ∧ w.grownBy w' (some g) := by
  obtain ⟨i9, hi9, hz9, hz8, hz7⟩ := info_parts infoProp
  obtain ⟨v3, c3⟩ := cut_3 g m cap j (by omega) hmc
  have ch := cut_h g m cap j (by omega)
  obtain ⟨A, cA, hA⟩ := cut_A g m cap j (by omega) hmc
  have cl := cut_last g M m cap hm hmc
  have hM : m - (j + 1) = M - j := by omega
  rw [hM] at cA
  obtain ⟨news, hnews⟩ : ∃ news, news = (rows.drop (j + 1)).flatten := ⟨_, rfl⟩
  have hd2 : ∀ r ∈ rows.drop (j + 1), r.length = 2 := fun r hr => h2 r (List.mem_of_mem_drop hr)
  have hlen : news.length = (M - j) * 2 := by rw [hnews, flat_len _ 2 hd2, List.length_drop]; omega
  have hFl : rows.flatten.length = m * 2 := by rw [flat_len rows 2 h2, h1]
  have od : w.drew.ownsRow base 65 2 (.slice (some ⟨g, 0, none⟩) m cap) m rows.flatten := own_kept (T := 5) (Kept.below (below_drewN (Below.refl _ w) 1)) (by decide) o
  have hsrc : Hid (∀ t u, news[t]? = some u → w.drew.cell? (A.add t) = some u) := by
    show ∀ t u, _
    intro t u hu
    have ht : t < news.length := (List.getElem?_eq_some_iff.1 hu).1
    have := hA (by omega)
    subst this
    have e1 : (⟨g, (j + 1) * 2, none⟩ : Addr).add t = ⟨g, (j + 1) * 2 + t, none⟩ := by unfold Addr.add; split <;> simp_all
    rw [e1]
    refine own_cell od _ _ ?_
    rw [hnews, ← flat_drop rows 2 (j + 1) h2, List.getElem?_drop] at hu
    exact hu
  have hone : Hid (∀ u ∈ news, u.oneCell' = true) := by
    show ∀ u ∈ news, _
    intro u hu
    rw [hnews, List.mem_flatten] at hu
    obtain ⟨r, hr, hu⟩ := hu
    exact h3 r (List.mem_of_mem_drop hr) u hu
  have hsp : Hid (∀ t, t < news.length → (w.drew.cell? ⟨g, 0 + j * 2 + t, none⟩).isSome = true ∧ w.drew.frozen? ⟨g, 0 + j * 2 + t, none⟩ = false) := by
    show ∀ t, _
    intro t ht
    refine ⟨?_, od.frozenAt _⟩
    rw [own_cell od (0 + j * 2 + t) _ (List.getElem?_eq_getElem (by rw [hFl]; omega))]
    rfl
  obtain ⟨W1, hW1⟩ : ∃ W1, W1 = w.drew.setCells g (0 + j * 2) news := ⟨_, rfl⟩
  obtain ⟨o1, g1⟩ := own_setCells news w.drew rows.flatten (0 + j * 2) od
  rw [← hW1] at o1 g1
  have hcl := clear_P g (M * 2) (cap - M) W1 (fun i hi => by rw [own_cell o1 (M * 2 + i) _ (List.getElem?_eq_getElem (by rw [setL_len, hFl]; omega))]; rfl) (fun i hi => o1.frozenAt _)
  obtain ⟨o2, g2⟩ := own_setCells [.string ⟨#[]⟩, .slice none 0 0] W1 _ (M * 2) o1
  have o3 := own_take o2 M (by omega)
  have hfin : (setL (setL rows.flatten (0 + j * 2) news) (M * 2) [.string ⟨#[]⟩, .slice none 0 0]).take (M * 2) = (rows.take j ++ rows.drop (j + 1)).flatten := by
    rw [setL_eq _ _ _ (by rw [setL_len, hFl]; simp only [List.length_cons, List.length_nil]; omega), List.append_assoc, List.take_left' (by rw [List.length_take, setL_len, hFl]; omega), setL_eq _ _ _ (by rw [hFl, hlen]; omega), List.flatten_append, ← hnews, Nat.zero_add, flat_take rows 2 j h2]
    have hl : ((rows.take j).flatten ++ news).length = M * 2 := by
      rw [List.length_append, flat_len _ 2 (fun r hr => h2 r (List.mem_of_mem_take hr)), List.length_take, hlen]
      omega
    exact List.take_left' hl
  rw [hfin] at o3
  have O3 := hid o3
  have GG : Hid (w.grownBy (W1.setCells g (M * 2) [.string ⟨#[]⟩, .slice none 0 0]) (some g)) := ⟨g2.os.trans g1.os, g2.tape.trans g1.tape, g2.output.trans g1.output, Nat.le_trans g1.size g2.size, fun k hk hne => (g2.block k (Nat.lt_of_lt_of_le hk g1.size) hne).trans (g1.block k hk hne)⟩
  have hW : Hid (W1 = w.drew.setCells g (0 + j * 2) news) := hW1
  have hjM : Hid (j + (M - j) = M) := by show _ = _; omega
  have hl2 := hid hlen
  have hrm : Hid (j + (M - j) ≤ cap) := by show _ ≤ _; omega
  have hj0 : ((j : Int) == (j : Int) + 1) = false := by rw [beq_eq_false_iff_ne]; omega
  clear o1 o2 o3 g1 g2 hW1 hfin hFl hlen hnews hd2 hM hm h1 h2 h3 od hA o
  go_enter Tryd.func56, Tryd.ntmps56
  go_wp2_with fail
  go_region_law (refine step_append_room rfl (.tmp 22) (.tmp 25) 54 rfl 65 i9 2 Tryd.underlying54 hi9 hz8 g 0 j cap (by simp [Act.eval, Act.put]) A (M - j) (cap - (j + 1)) news (by simp [Act.eval, Act.put]) hl2.out hsrc.out hone.out hrm.out hsp.out ?_; rw [← hW.out, hjM.out])
  all_goals (
    go_wp2_with (simp only [hcl])
    go_ret
    exact ⟨rfl, O3.out, GG.out⟩)

set_option maxHeartbeats 4000000 in
set_option maxRecDepth 100000 in
theorem w_p8drop_ok (v : Value) (t : List Nd) (k j : Nat) (s : ByteArray) (w : World) (h : RdT w v t) (bt : ∀ x ∈ t, bytN x) (ls : ∀ x ∈ t, lenN x) (hw : wrgF t (k : Int) = 0) (hk : k < t.length) (hp : pfF t[k].2.2.2.1 (L s) = some j) :
    Calls Tryd.prog 21 #[v, .int .i64 k, .string s] w fun e w' => ∃ v1, e = .returned (.tuple #[v1, .int .i64 0]) ∧ RdT w' v1 (t.set k (t[k].1, t[k].2.1, t[k].2.2.1, drpP t[k].2.2.2.1 j, t[k].2.2.2.2)) ∧ Below w.heap.size w w' := by
  have cf := w_pfind v t k s w h bt ls
  obtain ⟨hf, h0, hl⟩ := wrg_ok hw
  obtain ⟨hl32, hsz⟩ := frm_siz hf
  obtain ⟨p16, pok⟩ := frm_props hf hl
  have hpr : prpF t (k : Int) = t[k].2.2.2.1 := by
    have := prp_at (t := t) (n := (k : Int)) (by simpa using hk)
    simpa using this
  rw [hpr] at p16
  obtain ⟨hj, _, _⟩ := pf_some hp
  have eF : fnpF t (k : Int) (L s) = ((j : Int), 0) := by unfold fnpF; rw [if_neg (by simpa using hw), hpr, hp]
  rw [eF] at cf
  have cc := fun w' (g : Below w.heap.size w w') => w_p8copyS v t w' (h.below g) (by omega) hsz
  have hjb : (j : Int) ≤ 16 := by omega
  have hj3 : (0 : Int) ≤ j := by omega
  clear eF hw hf hpr pok
  go_enter Tryd.func21, Tryd.ntmps21
  go_upto_region 5 with (first
    | (go_at_call 55; refine cf.mono ?_; rintro e w1 ⟨rfl, b1⟩)
    | (go_at_call 13; refine (cc _ b1).mono ?_; rintro e w4 ⟨vT, rfl, oT, b4⟩))
  have g4 := below_trans b1 b4
  obtain ⟨rows, q1, q2, q3, q4, q5⟩ := OwnTS.le b1.size oT
  obtain ⟨gT, cT, rfl⟩ := own_some q3 (by omega)
  obtain ⟨vu, vp, vc, hrow, o1', o2', o3'⟩ := q4 k hk
  obtain ⟨prows, z1, z2, z3, z4⟩ := o2'
  obtain ⟨gP, cP, rfl⟩ := own_some z3 (by omega)
  have hcP : t[k].2.2.2.1.length ≤ cP ∧ cP ≤ maxLen := by
    rcases z3.2 with ⟨hh, _⟩ | ⟨g', c', cur, hh, _, _, hc1, hc2, _⟩
    · simp at hh
    · simp at hh
      obtain ⟨rfl, rfl⟩ := hh
      exact ⟨hc1, hc2⟩
  have hix := idx_node gT t.length cT k hk
  have hcell : rows.flatten[k * 5 + 3]? = some (.slice (some ⟨gP, 0, none⟩) t[k].2.2.2.1.length cP) := by rw [flat_get rows 5 k 3 q2 (by omega) (by decide), hrow]; rfl
  have tc := own_cell q3 _ _ hcell
  have one : ∀ r ∈ prows, ∀ u ∈ r, u.oneCell' = true := by
    intro r hr
    obtain ⟨i, hi, rfl⟩ := List.getElem_of_mem hr
    have := prop_one (z4 i (by omega))
    rwa [List.getD_eq_getElem?_getD, List.getElem?_eq_getElem hi] at this
  obtain ⟨M, hM⟩ : ∃ M, t[k].2.2.2.1.length = M + 1 := ⟨t[k].2.2.2.1.length - 1, by omega⟩
  have cd := w_pdelete gP t[k].2.2.2.1.length M cP j w.heap.size prows w4 z3 z1 z2 one hM (by omega) hcP.1 hcP.2
  have HC := hid hcell
  have HM := hid hM
  clear cc cf hcell hM
  go_wp2_with (go_at_call 56; refine cd.mono ?_; rintro e w6 ⟨rfl, o6, gr⟩; have kp := Kept.own z3 gr; have oT6 := own_kept kp (by decide) q3; have y1 := own_cell oT6 (k * 5 + 3) _ HC.out; have y2 := oT6.frozenAt (k * 5 + 3))
  go_ret2
  have hdl : (drpP t[k].2.2.2.1 j).length = M := by have := HM.out; unfold drpP; simp; omega
  have hpN : OwnR 65 2 (propO w.heap.size) w.heap.size w6 (.slice (some ⟨gP, 0, none⟩) M cP) (drpP t[k].2.2.2.1 j) := by
    refine ⟨prows.take j ++ prows.drop (j + 1), ?_, fun r hr => ?_, ?_, part_get z1 j hj (fun i hi => propO_apt (by decide) _ _ _ _ kp (z4 i hi))⟩
    · have := HM.out
      rw [List.length_append, List.length_take, List.length_drop, hdl]
      omega
    · rcases List.mem_append.1 hr with hr | hr
      · exact z2 r (List.mem_of_mem_take hr)
      · exact z2 r (List.mem_of_mem_drop hr)
    · rw [hdl]
      exact o6
  exact ⟨_, rfl, ownT8_read (t8_put q1 q2 q3 q4 q5 hk hrow gr kp hpN), below_set (below_grown g4 gr (fun q hq => by cases hq; exact (z3.lt gP rfl).1)) gT _ _ (q3.lt gT rfl).1⟩

set_option maxHeartbeats 1000000 in
theorem w_p8drop' (v : Value) (t : List Nd) (n : Int) (s : ByteArray) (w : World) (h : RdT w v t) (bt : ∀ x ∈ t, bytN x) (ls : ∀ x ∈ t, lenN x) :
    Calls Tryd.prog 21 #[v, .int .i64 n, .string s] w fun e w' => ∃ v1, e = .returned (.tuple #[v1, .int .i64 (drpF t n (L s)).2]) ∧ RdT w' v1 (drpF t n (L s)).1 ∧ Below w.heap.size w w' := by
  have cf := w_pfind v t n s w h bt ls
  by_cases hw : wrgF t n = 0
  · obtain ⟨hf, h0, hl⟩ := wrg_ok hw
    obtain ⟨k, rfl⟩ : ∃ k : Nat, n = k := ⟨n.toNat, by omega⟩
    have hk : k < t.length := by simpa using hl
    have hpr : prpF t (k : Int) = t[k].2.2.2.1 := by
      have := prp_at (t := t) (n := (k : Int)) (by simpa using hk)
      simpa using this
    cases hp : pfF t[k].2.2.2.1 (L s) with
    | none =>
      have e : drpF t (k : Int) (L s) = ([], 2) := by unfold drpF; rw [if_neg (by simpa using hw), hpr, hp]
      have eF : fnpF t (k : Int) (L s) = (0, 2) := by unfold fnpF; rw [if_neg (by simpa using hw), hpr, hp]
      rw [e]
      rw [eF] at cf
      clear e eF hp hpr hw hf
      go_enter Tryd.func21, Tryd.ntmps21
      go_wp2_with (go_at_call 55; refine cf.mono ?_; rintro e w1 ⟨rfl, b1⟩)
      go_ret2
      exact ⟨_, rfl, SlR.nil, b1⟩
    | some j =>
      have e : drpF t (k : Int) (L s) = (t.set k (t[k].1, t[k].2.1, t[k].2.2.1, drpP t[k].2.2.2.1 j, t[k].2.2.2.2), 0) := by unfold drpF; rw [if_neg (by simpa using hw), hpr, hp]; simp only [put_at8 hk]
      rw [e]
      exact w_p8drop_ok v t k j s w h bt ls hw hk hp
  · have e : drpF t n (L s) = ([], wrgF t n) := by unfold drpF; rw [if_pos hw]
    have eF : fnpF t n (L s) = (0, wrgF t n) := by unfold fnpF; rw [if_pos hw]
    rw [e]
    rw [eF] at cf
    obtain ⟨E, hE⟩ : ∃ E, wrgF t n = E := ⟨_, rfl⟩
    rw [hE] at hw
    simp only [hE] at cf ⊢
    have hb : (E != 0) = true := by simpa using hw
    clear e eF hE hw
    go_enter Tryd.func21, Tryd.ntmps21
    go_wp2_with (go_at_call 55; refine cf.mono ?_; rintro e q1 ⟨rfl, b1⟩)
    go_ret2
    exact ⟨_, rfl, SlR.nil, b1⟩

/-
  Steps and Path of the document's answer for trees.
-/
theorem infoStp8 : (Tryd.prog.info? 78).map (fun i => (i.zero, i.size, i.bytes)) = some (some (.agg #[.string ⟨#[]⟩, .slice none 0 0, .string ⟨#[]⟩]), 3, 56) := by kernel_rfl
theorem one3 (nm : ByteArray) (a : Option Addr) (l c : Nat) (ar : ByteArray) : ∀ u ∈ [Value.string nm, .slice a l c, .string ar], u.oneCell' = true := by
  intro u hu
  simp at hu
  rcases hu with rfl | rfl | rfl <;> rfl
theorem own_slc {w : World} {base : Nat} {v : Value} {xs : List Sp} (h : OwnP base w v xs) : ∃ rows, SlC 3 w v rows ∧ rows.length = xs.length ∧ (∀ r ∈ rows, ∀ u ∈ r, u.oneCell' = true) ∧ ∀ i (h : i < xs.length), stpO base w (rows.getD i []) xs[i] := by
  obtain ⟨rows, h1, h2, h3, h4⟩ := h
  have h5 : SlR 3 (fun _ cs (r : List Value) => cs = r) w v rows := slr_rows (n := xs.length) (e := 78) (fun r => r) h2 (by decide) (by simpa using h3) (fun r hr => rfl)
  obtain ⟨rows2, k1, k2, k3⟩ := h5
  have e : rows2 = rows := by
    apply List.ext_getElem k2
    intro i hi hi2
    have := k3 i hi2
    rw [List.getD_eq_getElem?_getD, List.getElem?_eq_getElem hi] at this
    simpa using this
  subst e
  refine ⟨rows2, k1, h1, fun r hr u hu => ?_, h4⟩
  obtain ⟨i, hi, rfl⟩ := List.getElem_of_mem hr
  obtain ⟨vv, hv, hO⟩ := h4 i (by omega)
  rw [List.getD_eq_getElem?_getD, List.getElem?_eq_getElem hi] at hv
  simp at hv
  obtain ⟨ao, cap, rfl⟩ := own_form hO
  rw [hv] at hu
  exact one3 _ _ _ _ _ u hu

theorem nm_len {l : List Int} (h : nmF l = true) : l.length ≤ 31 := by
  unfold nmF at h
  simp only [Bool.and_eq_true, decide_eq_true_eq] at h
  omega
theorem wtS_le : ∀ l : List Sp, (∀ x ∈ l, x.1.length ≤ 31 ∧ x.2.1.length ≤ 4 ∧ x.2.2.length ≤ 0) → wtS l ≤ 36 * l.length
  | [], _ => by simp [wtS]
  | x :: l, h => by
    have h1 := h x (by simp)
    have h2 := wtS_le l fun y hy => h y (by simp [hy])
    simp only [wtS, List.length_cons]
    omega

set_option maxHeartbeats 4000000 in
set_option maxRecDepth 100000 in
theorem w_r8steps (v : Value) (t : List Nd) (n : Nat) (w : World) (h : RdT w v t) (hf : frmT t = true) (hn : n < t.length) :
    Calls Tryd.prog 62 #[v, .int .i64 n] w fun e w' => ∃ v1, e = .returned v1 ∧ OwnP w.heap.size w' v1 (stF t n n) ∧ Below w.heap.size w w' := by
  obtain ⟨i0, hi0, hz0, hz1, hz2⟩ := info_parts infoStp8
  obtain ⟨hl32, hsz⟩ := frm_siz hf
  have hstl := st_len hf n hn
  go_enter Tryd.func62, Tryd.ntmps62
  go_wp2_with fail
  go_loopw [1, 5] (fun I U wx => ∃ (m : Nat) (xs : List Sp), m < t.length ∧ I = .int .i64 m ∧ Hid (stF t n n = stF t m m ++ xs) ∧ OwnP w.heap.size wx U xs ∧ Below w.heap.size w wx) (fun I _ _ => (intOf I).toNat)
  case atStart => exact ⟨n, [], hn, rfl, hid (by simp), ownP_nil _ _, Below.refl _ _⟩
  case round =>
    obtain ⟨m, xs, hm, rfl, hin, ho, hb⟩ := hrel
    have hxl : xs.length ≤ 32 := by
      have := congrArg List.length hin.out
      rw [List.length_append] at this
      omega
    by_cases h0 : (0 : Int) < m
    · obtain ⟨b1, o1, nm, u1, p1, c1, r1, f0, f1, f2, f3, f4, e1, hu1, hp1, hc1⟩ := nod_at h m hm
      obtain ⟨ua, uq, rfl⟩ := rd_slice hu1
      obtain ⟨s1, -, -, -⟩ := hsz _ (List.getElem_mem hm)
      obtain ⟨q1, q2, q3, q4, -⟩ := frm_at hf hm (by omega)
      have hst := st_step hf hm (by omega)
      obtain ⟨P, hP⟩ : ∃ P : Nat, t[m].2.2.1 = P := ⟨t[m].2.2.1.toNat, by omega⟩
      rw [hP] at f2 q3 q4 hst
      rw [Int.toNat_natCast] at hst
      have l0 := below_cell hb f0
      have l1 := below_cell hb f1
      have cu := fun W (g : Below w.heap.size w W) => w_r3copy _ _ W (hu1.below g) (by unfold maxLen; omega) s1
      have hin2 : Hid (stF t n n = stF t P P ++ ((t[m].1, t[m].2.1, []) :: xs)) := by
        show _ = _
        rw [hin.out, hst]
        simp
      have HS : Hid (∀ W, Below wr.heap.size wr W → W.cell? ⟨b1, o1, none⟩ = some (.string nm) ∧ W.cell? ⟨b1, o1 + 1, none⟩ = some (.slice ua t[m].2.1.length uq)) := fun W g => ⟨below_cell g l0, below_cell g l1⟩
      have hrd : Hid (Below wr.heap.size wr wr.drew) := below_drewN (Below.refl _ _) 1
      have hbd : Hid (Below w.heap.size w wr.drew) := below_drewN hb 1
      have CU := hid cu
      clear cu hst l0 l1 hp1 hc1
      go_wp2_with fail
      go_region_held (fun W => W.cell? ⟨b1, o1, none⟩ = some (.string nm) ∧ W.cell? ⟨b1, o1 + 1, none⟩ = some (.slice ua t[m].2.1.length uq)) (exact HS.out _ (by first | with_reducible exact hrd.out | with_reducible exact RU.out | with_reducible exact RU.out.alloc RU.out.size _))
        (first | (go_at_call 46; refine (CU.out _ (by with_reducible exact hbd.out)).mono ?_; rintro e qU ⟨vU, rfl, oU, bU'⟩; obtain ⟨uo, ucap, rfl⟩ := own_form oU; have RU : Hid (Below wr.heap.size wr qU) := below_trans hrd.out bU'; have OU := hid oU; clear oU bU'))
      have bX : Below w.heap.size w (qU.alloc (.cells #[.string nm, .slice uo t[m].2.1.length ucap, .string ⟨#[]⟩] 78)) := below_trans hb (RU.out.alloc RU.out.size _)
      have hown : (qU.alloc (.cells #[.string nm, .slice uo t[m].2.1.length ucap, .string ⟨#[]⟩] 78)).ownsRow w.heap.size 78 3 (.slice (some ⟨qU.heap.size, 0, none⟩) 1 1) 1 [Value.string nm, .slice uo t[m].2.1.length ucap, .string ⟨#[]⟩] := ⟨rfl, Or.inr ⟨qU.heap.size, 1, #[.string nm, .slice uo t[m].2.1.length ucap, .string ⟨#[]⟩], rfl, (below_trans hb RU.out).size, heap_alloc_new qU _, Nat.le_refl _, by decide, rfl, rfl⟩⟩
      obtain ⟨rows, k1, k2, k3, k4⟩ := own_slc (ownP_below ho (RU.out.alloc RU.out.size (.cells #[.string nm, .slice uo t[m].2.1.length ucap, .string ⟨#[]⟩] 78)))
      have hu9 : (qU.alloc (.cells #[.string nm, .slice uo t[m].2.1.length ucap, .string ⟨#[]⟩] 78)).ownsRow w.heap.size 58 1 (.slice uo t[m].2.1.length ucap) t[m].2.1.length (t[m].2.1.map (Value.int .u32)) := World.ownsRow.alloc (own_le hbd.out.size OU.out) _
      have hk4 := hid k4
      have hk3 := hid k3
      clear k4 k3
      go_wp2_with (at_builtin; refine wpList_append_rows rfl _ _ 48 rfl w.heap.size 78 i0 _ 3 56 Tryd.underlying48 hi0 hz0 hz1 hz2 rfl (by decide) _ 1 _ rfl hown _ rows rfl k1 hk3.out (by rw [k2]; unfold maxLen; omega) (by rw [k2]; omega) bX.size ?_; intro v9 w9 ho9 hg9; have b9 := below_grown bX hg9 (fun k hk => (hown.lt k hk).1); have l9 := below_cell b9 f2)
      have hk9 := Kept.own hown hg9
      have oT9 : OwnP w.heap.size w9 v9 ((t[m].1, t[m].2.1, []) :: xs) := by
        refine ⟨[Value.string nm, .slice uo t[m].2.1.length ucap, .string ⟨#[]⟩] :: rows, by simp [k2], fun r hr => ?_, ?_, fun i hi => ?_⟩
        · rw [List.mem_cons] at hr
          rcases hr with rfl | hr
          · rfl
          · obtain ⟨i, hi, rfl⟩ := List.getElem_of_mem hr
            obtain ⟨vv, hv, -⟩ := hk4.out i (by omega)
            rw [List.getD_eq_getElem?_getD, List.getElem?_eq_getElem hi] at hv
            simp at hv
            rw [hv]
            rfl
        · rw [List.length_cons, ← k2, Nat.add_comm]
          simpa using ho9
        · cases i with
          | zero => exact ⟨_, by simp [e1, show strOfNums ([] : List Int) = ⟨#[]⟩ by decide +kernel], own_kept hk9 (by decide) hu9⟩
          | succ i =>
            obtain ⟨vv, hv, hO⟩ := hk4.out i (by simpa using hi)
            exact ⟨vv, by simpa using hv, own_kept hk9 (by decide) hO⟩
      go_roundw
      case rel => exact ⟨P, _, by omega, rfl, hin2, oT9, b9⟩
      case measure => simp [intOf]; omega
    · have hm0 : m = 0 := by omega
      subst hm0
      have e : Hid (stF t n n = xs) := by show _ = _; rw [hin.out, st_root]; simp
      go_wp2_with fail
      go_ret
      rw [e.out]
      exact ⟨_, rfl, ho, hb⟩

set_option maxHeartbeats 1000000 in
theorem w_r8path (v : Value) (t : List Nd) (n : Int) (w : World) (h : RdT w v t) (bt : ∀ x ∈ t, bytN x) (ls : ∀ x ∈ t, lenN x) (ct : ∀ x ∈ t, cells x.2.1) :
    Calls Tryd.prog 34 #[v, .int .i64 n] w fun e w' => e = .returned (.tuple #[.string (strOfNums (pthF t n).1), .int .i64 (pthF t n).2]) ∧ Below w.heap.size w w' := by
  have cw := w_r8wrong v t n w h bt ls
  by_cases hw : wrgF t n = 0
  · have hfr : frmT t = true ∧ 0 ≤ n ∧ n < t.length := by
      unfold wrgF at hw
      split at hw
      · cases hw
      · rename_i g1
        split at hw
        · cases hw
        · rename_i g2
          have g1 : frmT t = true := by simpa using g1
          exact ⟨g1, by omega, by omega⟩
    obtain ⟨hf, n0, n1⟩ := hfr
    obtain ⟨k, rfl⟩ : ∃ k : Nat, n = k := ⟨n.toNat, by omega⟩
    have hk : k < t.length := by omega
    have e : pthF t k = shpF (stF t k k) := by unfold pthF; rw [if_neg (by simp [hw])]; rfl
    have hok := st_ok hf k hk
    have hlen := st_len hf k hk
    obtain ⟨hl32, -⟩ := frm_siz hf
    rw [e]
    rw [hw] at cw
    have cs := fun w' (g : Below w.heap.size w w') => w_r8steps v t k w' (h.below g) hf hk
    have hbx : ∀ x ∈ stF t k k, bytesL x.1 ∧ bytesL x.2.2 := fun x hx => by
      obtain ⟨_, y, hy, h1, h2, h3⟩ := hok x hx
      rw [h1, h3]
      exact ⟨(bt y hy).1, fun c hc => by simp at hc⟩
    have hcx : ∀ x ∈ stF t k k, cells x.2.1 := fun x hx => by
      obtain ⟨_, y, hy, h1, h2, h3⟩ := hok x hx
      rw [h2]
      exact ct y hy
    have hsz : ∀ x ∈ stF t k k, x.1.length ≤ 31 ∧ x.2.1.length ≤ 4 ∧ x.2.2.length ≤ 0 := fun x hx => by
      obtain ⟨ho, y, hy, h1, h2, h3⟩ := hok x hx
      obtain ⟨o1, o2, o3⟩ := ok_parts ho
      exact ⟨nm_len o1, o2, by rw [h3]; simp⟩
    have hz : (shpT (stF t k k)).length ≤ 100000000000 := by
      have h1 := shp_wt (stF t k k) hcx
      have h2 := wtS_le (stF t k k) hsz
      omega
    have csh := fun w' v1 (g : SlR 3 stpR w' v1 (stF t k k)) => w_rshow7 v1 (stF t k k) w' g hbx hcx hz (fun x hx => by have := hsz x hx; omega)
    obtain ⟨A, E, hAE⟩ : ∃ A E, shpF (stF t k k) = (A, E) := ⟨_, _, rfl⟩
    simp only [hAE] at csh ⊢
    obtain ⟨xs, hxs⟩ : ∃ xs, stF t k k = xs := ⟨_, rfl⟩
    simp only [hxs] at csh cs
    clear hAE e hok hlen hbx hcx hsz hz hxs hw
    go_enter Tryd.func34, Tryd.ntmps34
    go_wp2_with (first
      | (go_at_call 52; refine cw.mono ?_; rintro e w1 ⟨rfl, b1⟩)
      | (go_at_call 62; refine (cs _ b1).mono ?_; rintro e w2 ⟨v2, rfl, o2, b2⟩; have r2 := ownP_read o2)
      | (go_at_call 61; refine (csh _ v2 r2).mono ?_; rintro e w3 ⟨rfl, b3⟩))
    go_ret2
    exact ⟨rfl, below_trans (below_trans b1 b2) b3⟩
  · have e : pthF t n = ([], wrgF t n) := by unfold pthF; rw [if_pos hw]
    rw [e]
    obtain ⟨W, hW⟩ : ∃ W, wrgF t n = W := ⟨_, rfl⟩
    rw [hW] at cw hw ⊢
    have hwb : (W != 0) = true := by simpa using hw
    clear hW hw e
    go_enter Tryd.func34, Tryd.ntmps34
    go_wp2_with (go_at_call 52; refine cw.mono ?_; rintro e w1 ⟨rfl, b1⟩)
    go_ret2
    exact ⟨rfl, b1⟩

/-
  The library's functions of texts that package path leans on, as plain functions of lists of numbers: Index, Contains, Cut, HasPrefix, CutPrefix at one byte, LastIndex and Count of a slash.
-/
/-- what Cut at the byte c answers -/
def CutB (c : Int) (l : List Int) (A B : ByteArray) (f : Bool) : Prop := (f = false ∧ L A = l ∧ L B = [] ∧ ∀ x ∈ l, ¬ x = c) ∨ (f = true ∧ l = L A ++ c :: L B ∧ ∀ x ∈ L A, ¬ x = c)

set_option maxHeartbeats 1000000 in
set_option maxRecDepth 100000 in
theorem w_slix47 (s : ByteArray) (w : World) :
    Calls Tryd.prog 88 #[.string s, .string ⟨#[47]⟩] w fun e w' => ∃ i, e = .returned (.int .i64 i) ∧ AtB (L s) 47 i ∧ w' = w := by
  go_enter Tryd.func88, Tryd.ntmps88
  go_wp2_with (go_at_call 83; refine (w_slib s 47 _ (by decide) (by decide)).mono ?_; rintro e w1 ⟨i, rfl, hi, rfl⟩)
  · have h : ([47] == s.toList) = true := by assumption
    go_ret
    have e : s.data.toList = [47] := by rw [← ByteArray.toList_eq]; exact (beq_iff_eq.1 h).symm
    refine ⟨_, rfl, Or.inr ⟨0, rfl, ?_, ?_, fun x hx => by simp at hx⟩, rfl⟩
    · simp [L, e]
    · simp [L, e]
  · go_ret
    exact ⟨i, rfl, hi, rfl⟩

set_option maxHeartbeats 1000000 in
set_option maxRecDepth 100000 in
theorem w_six47 (s : ByteArray) (w : World) :
    Calls Tryd.prog 84 #[.string s, .string ⟨#[47]⟩] w fun e w' => ∃ i, e = .returned (.int .i64 i) ∧ AtB (L s) 47 i ∧ w' = w := by
  go_enter Tryd.func84, Tryd.ntmps84
  go_wp2_with (go_at_call 88; refine (w_slix47 s _).mono ?_; rintro e w1 ⟨i, rfl, hi, rfl⟩)
  go_ret
  exact ⟨i, rfl, hi, rfl⟩

set_option maxHeartbeats 1000000 in
set_option maxRecDepth 100000 in
theorem w_slix58 (s : ByteArray) (w : World) :
    Calls Tryd.prog 88 #[.string s, .string ⟨#[58]⟩] w fun e w' => ∃ i, e = .returned (.int .i64 i) ∧ AtB (L s) 58 i ∧ w' = w := by
  go_enter Tryd.func88, Tryd.ntmps88
  go_wp2_with (go_at_call 83; refine (w_slib s 58 _ (by decide) (by decide)).mono ?_; rintro e w1 ⟨i, rfl, hi, rfl⟩)
  · have h : ([58] == s.toList) = true := by assumption
    go_ret
    have e : s.data.toList = [58] := by rw [← ByteArray.toList_eq]; exact (beq_iff_eq.1 h).symm
    refine ⟨_, rfl, Or.inr ⟨0, rfl, ?_, ?_, fun x hx => by simp at hx⟩, rfl⟩
    · simp [L, e]
    · simp [L, e]
  · go_ret
    exact ⟨i, rfl, hi, rfl⟩

set_option maxHeartbeats 1000000 in
set_option maxRecDepth 100000 in
theorem w_six58 (s : ByteArray) (w : World) :
    Calls Tryd.prog 84 #[.string s, .string ⟨#[58]⟩] w fun e w' => ∃ i, e = .returned (.int .i64 i) ∧ AtB (L s) 58 i ∧ w' = w := by
  go_enter Tryd.func84, Tryd.ntmps84
  go_wp2_with (go_at_call 88; refine (w_slix58 s _).mono ?_; rintro e w1 ⟨i, rfl, hi, rfl⟩)
  go_ret
  exact ⟨i, rfl, hi, rfl⟩

set_option maxHeartbeats 1000000 in
set_option maxRecDepth 100000 in
theorem w_slix64 (s : ByteArray) (w : World) :
    Calls Tryd.prog 88 #[.string s, .string ⟨#[64]⟩] w fun e w' => ∃ i, e = .returned (.int .i64 i) ∧ AtB (L s) 64 i ∧ w' = w := by
  go_enter Tryd.func88, Tryd.ntmps88
  go_wp2_with (go_at_call 83; refine (w_slib s 64 _ (by decide) (by decide)).mono ?_; rintro e w1 ⟨i, rfl, hi, rfl⟩)
  · have h : ([64] == s.toList) = true := by assumption
    go_ret
    have e : s.data.toList = [64] := by rw [← ByteArray.toList_eq]; exact (beq_iff_eq.1 h).symm
    refine ⟨_, rfl, Or.inr ⟨0, rfl, ?_, ?_, fun x hx => by simp at hx⟩, rfl⟩
    · simp [L, e]
    · simp [L, e]
  · go_ret
    exact ⟨i, rfl, hi, rfl⟩

set_option maxHeartbeats 1000000 in
set_option maxRecDepth 100000 in
theorem w_six64 (s : ByteArray) (w : World) :
    Calls Tryd.prog 84 #[.string s, .string ⟨#[64]⟩] w fun e w' => ∃ i, e = .returned (.int .i64 i) ∧ AtB (L s) 64 i ∧ w' = w := by
  go_enter Tryd.func84, Tryd.ntmps84
  go_wp2_with (go_at_call 88; refine (w_slix64 s _).mono ?_; rintro e w1 ⟨i, rfl, hi, rfl⟩)
  go_ret
  exact ⟨i, rfl, hi, rfl⟩

theorem first_is47 (s : ByteArray) (h : 1 ≤ s.size) : ((s.extract 0 1).toList == [47]) = decide ((L s).head? = some 47) := by
  rw [Bool.eq_iff_iff, beq_iff_eq, decide_eq_true_iff]
  rw [ByteArray.toList_eq, ByteArray.data_extract, Array.toList_extract]
  unfold L
  cases hd : s.data.toList with
  | nil => have := Lib.size_eq s; rw [hd, List.length_nil] at this; omega
  | cons a t =>
    simp only [List.extract_eq_take_drop, List.drop_zero, List.map_cons, List.head?_cons, Option.some.injEq]
    simp only [List.take_succ_cons, List.take_zero, List.cons.injEq, and_true]
    constructor
    · rintro rfl; rfl
    · intro h
      exact UInt8.toNat_inj.1 (by
        have : ((47 : UInt8).toNat : Int) = 47 := by decide
        omega)

theorem first_is58 (s : ByteArray) (h : 1 ≤ s.size) : ((s.extract 0 1).toList == [58]) = decide ((L s).head? = some 58) := by
  rw [Bool.eq_iff_iff, beq_iff_eq, decide_eq_true_iff]
  rw [ByteArray.toList_eq, ByteArray.data_extract, Array.toList_extract]
  unfold L
  cases hd : s.data.toList with
  | nil => have := Lib.size_eq s; rw [hd, List.length_nil] at this; omega
  | cons a t =>
    simp only [List.extract_eq_take_drop, List.drop_zero, List.map_cons, List.head?_cons, Option.some.injEq]
    simp only [List.take_succ_cons, List.take_zero, List.cons.injEq, and_true]
    constructor
    · rintro rfl; rfl
    · intro h
      exact UInt8.toNat_inj.1 (by
        have : ((58 : UInt8).toNat : Int) = 58 := by decide
        omega)

set_option maxHeartbeats 1000000 in
set_option maxRecDepth 100000 in
theorem w_cont47 (s : ByteArray) (w : World) :
    Calls Tryd.prog 79 #[.string s, .string ⟨#[47]⟩] w fun e w' => e = .returned (.bool (!((L s).all (fun c => decide (¬ c = 47))))) ∧ w' = w := by
  go_enter Tryd.func79, Tryd.ntmps79
  go_wp2_with (go_at_call 84; refine (w_six47 s _).mono ?_; rintro e w1 ⟨i, rfl, hi, rfl⟩)
  go_ret
  refine ⟨?_, rfl⟩
  rcases hi with ⟨rfl, h2⟩ | ⟨k, rfl, h2, h3, h4⟩
  · have : (L s).all (fun c => decide (¬ c = 47)) = true := List.all_eq_true.2 fun x hx => decide_eq_true (h2 x hx)
    rw [this]; rfl
  · have : (L s).all (fun c => decide (¬ c = 47)) = false := by
      rw [h3]; simp
    rw [this]
    have : decide ((k : Int) ≥ 0) = true := decide_eq_true (by omega)
    first | rw [this]; rfl | simp

/-- where c stands last: -1, or the place -/
def LastB (l : List Int) (c i : Int) : Prop := (i = -1 ∧ ∀ x ∈ l, ¬ x = c) ∨ ∃ k : Nat, i = k ∧ k < l.length ∧ l = l.take k ++ c :: l.drop (k + 1) ∧ ∀ x ∈ l.drop (k + 1), ¬ x = c

/-
  strings.Builder: a text written behind what it holds, and all that it holds as a text.
-/
theorem bldS : (Tryd.prog.info? 91).map (·.size) = some 2 := by kernel_rfl
theorem bldL : liesAt Tryd.prog Tryd.prog.depth 91 (2 / Tryd.prog.cellsOf 91) 0 91 1 = true := by kernel_rfl
theorem cellsB : Tryd.prog.cellsOf 5 = 1 := by kernel_rfl

set_option maxHeartbeats 1000000 in
set_option maxRecDepth 100000 in
theorem w_bcc_used (b : Nat) (w : World) (h0 : w.cell? ⟨b, 0, none⟩ = some (.pointer (some ⟨b, 0, none⟩))) :
    Calls Tryd.prog 80 #[.pointer (some ⟨b, 0, none⟩)] w fun e w' => e = .returned (.tuple #[]) ∧ w' = w := by
  obtain ⟨j, hj, _⟩ := Option.map_eq_some_iff.1 bldS
  go_enter Tryd.func80, Tryd.ntmps80
  go_wp2
  rw [Lib.run_neq_ptr_same w _ Tryd.underlying89 hj]
  go_wp2
  go_end0
  exact ⟨rfl, rfl⟩

set_option maxHeartbeats 1000000 in
set_option maxRecDepth 100000 in
theorem w_bcc_fresh (b : Nat) (w : World) (h0 : w.cell? ⟨b, 0, none⟩ = some (.pointer none)) (hsh : w.shape? b = some (91, 2)) (hfz : w.frozen? ⟨b, 0, none⟩ = false) :
    Calls Tryd.prog 80 #[.pointer (some ⟨b, 0, none⟩)] w fun e w' => e = .returned (.tuple #[]) ∧ w' = w.setCell ⟨b, 0, none⟩ (.pointer (some ⟨b, 0, none⟩)) := by
  obtain ⟨j, hj, hjs⟩ := Option.map_eq_some_iff.1 bldS
  go_enter Tryd.func80, Tryd.ntmps80
  go_wp2
  rw [Lib.run_to_unsafe w ⟨b, 0, none⟩ Tryd.underlying89 Tryd.underlying106 hj (by rw [hjs]; decide) hsh (Nat.zero_lt_succ 1)]
  simp only [Result.andThen]
  rw [Oper.upon_value]
  go_wp2
  rw [run_callFunc_extern Tryd.func85 (by kernel_rfl) (by kernel_rfl) (by kernel_rfl) (e := Extern.AbiNoEscape.same) (by kernel_rfl)]
  rw [Lib.run_noEscape]
  simp only [Result.andThen]
  rw [Oper.upon_value]
  go_wp2
  rw [Lib.run_from_unsafe w ⟨b, 0, none⟩ Tryd.underlying106 Tryd.underlying89 hj hsh bldL]
  simp only [Result.andThen]
  rw [Oper.upon_value]
  go_wp2
  go_end0
  exact ⟨rfl, rfl⟩

abbrev BldA (B b : Nat) (p : Value) (ys : List Int) (w : World) : Prop := Lib.BuilderAt 91 5 B b p (ys.map (Value.int .u8)) w
abbrev Bld (B b : Nat) (ys : List Int) (w : World) : Prop := Lib.IsBuilder 91 5 B b (ys.map (Value.int .u8)) w

/-- every step that stands still stands -/
def KeptS (w w' : World) : Prop := ∀ c cs, Stands w c cs 78 → Stands w' c cs 78
theorem stands_ne {w : World} {c b : Nat} {cs ds : Array Value} (h : Stands w c cs 78) (g : w.heap[b]? = some (.cells ds 91 (0, 0))) : c ≠ b := by
  intro e
  subst e
  unfold Stands at h
  rw [h] at g
  simp at g
theorem bld_below {w w' : World} {B b : Nat} {ys : List Int} (h : Bld B b ys w) (g : Below w.heap.size w w') : Bld B b ys w' := by
  have go : ∀ p, BldA B b p ys w → BldA B b p ys w' := fun p ⟨h1, v, h2, h3, h4⟩ => ⟨h1, v, Stands.below h2 g, own_below h3 g, h4⟩
  rcases h with h | h
  · exact Or.inl (go _ h)
  · exact Or.inr (go _ h)

theorem w_bcc (B b : Nat) (ys : List Int) (w : World) (h : Bld B b ys w) :
    Calls Tryd.prog 80 #[.pointer (some ⟨b, 0, none⟩)] w fun e w' => e = .returned (.tuple #[]) ∧ (BldA B b (.pointer (some ⟨b, 0, none⟩)) ys w' ∧ Below B w w' ∧ KeptS w w') := by
  rcases h with h | h
  · refine (w_bcc_fresh b w h.cell0 h.shape h.frozen0).mono ?_
    rintro e w' ⟨rfl, rfl⟩
    refine ⟨rfl, h.used _, (Below.refl B w).setCell (p := ⟨b, 0, none⟩) h.1 _, fun c cs hc => ?_⟩
    obtain ⟨_, v, hbk, _⟩ := h
    exact hc.other 0 _ (stands_ne hc hbk)
  · refine (w_bcc_used b w h.cell0).mono ?_
    rintro e w' ⟨rfl, rfl⟩
    exact ⟨rfl, h, Below.refl B _, fun c cs hc => hc⟩

set_option maxHeartbeats 2000000 in
set_option maxRecDepth 100000 in
theorem w_bws (B b : Nat) (ys : List Int) (s : ByteArray) (w : World) (h : Bld B b ys w) (hlen : ys.length + s.size ≤ 140737488355328) (hBw : B ≤ w.heap.size) :
    Calls Tryd.prog 72 #[.pointer (some ⟨b, 0, none⟩), .string s] w fun e w' => e = .returned (.tuple #[.int .i64 s.size, .nilIface]) ∧ (Bld B b (ys ++ L s) w' ∧ Below B w w' ∧ KeptS w w') := by
  obtain ⟨i0, hi, hz0, hz1, hz2⟩ := info_parts infoU8
  go_enter Tryd.func72, Tryd.ntmps72
  go_wp2_with (go_at_call 80; refine (w_bcc B b ys _ h).mono ?_)
  rintro e w1 ⟨rfl, h1, hb1, hk1⟩
  obtain ⟨hB, v, hbk, hown, hne⟩ := h1
  have c0 : w1.cell? ⟨b, 0, none⟩ = some (.pointer (some ⟨b, 0, none⟩)) := by rw [Lib.cell_of_heap hbk]; rfl
  have c1 : w1.cell? ⟨b, 1, none⟩ = some v := by rw [Lib.cell_of_heap hbk]; rfl
  go_wp2_with (at_builtin; refine Lib.wpList_append_own_string _ rfl _ _ 28 9 rfl B 5 i0 Tryd.underlying28 Tryd.underlying9 hi hz0 hz1 hz2 _ _ _ rfl hown s rfl ?c3 ?c4 ?c5 ?_)
  case c3 => rw [List.length_map]; unfold maxLen; omega
  case c4 => rw [List.length_map]; omega
  case c5 => have := hb1.size; omega
  intro v' w2 hown' hgrow _
  have hlt : b < w1.heap.size := by
    rcases Nat.lt_or_ge b w1.heap.size with h' | h'
    · exact h'
    · simp [Array.getElem?_eq_none h'] at hbk
  have hb2 : w2.heap[b]? = some (.cells #[.pointer (some ⟨b, 0, none⟩), v] 91 (0, 0)) := by
    rw [hgrow.block b hlt (fun e => hne e.symm)]
    exact hbk
  have d0 : w2.cell? ⟨b, 0, none⟩ = some (.pointer (some ⟨b, 0, none⟩)) := by rw [Lib.cell_of_heap hb2]; rfl
  have d1 : w2.cell? ⟨b, 1, none⟩ = some v := by rw [Lib.cell_of_heap hb2]; rfl
  have f1 : w2.frozen? ⟨b, 1, none⟩ = false := Lib.frozen_of_heap hb2 1
  obtain ⟨ao, n', cap, rfl⟩ : ∃ ao n' cap, v' = .slice ao n' cap := by
    rcases hown'.2 with ⟨hv, _⟩ | ⟨g, cap, cur, hv, _⟩
    · exact ⟨_, _, _, hv⟩
    · exact ⟨_, _, _, hv⟩
  go_wp2
  go_ret2
  have hsc : Lib.strCells s = (L s).map (Value.int .u8) := by simp [Lib.strCells, L]
  refine ⟨rfl, Or.inr ?_, ?_, fun c cs hc => ?_⟩
  · refine Lib.BuilderAt.put (T := 91) (e := 5) hB hb2 (bs' := (ys ++ L s).map (Value.int .u8)) ?_ (by decide)
    rw [List.map_append, ← hsc, List.length_append, Lib.strCells_length, List.length_map]
    exact hown'
  · exact (hb1.grown hgrow (by have := hb1.size; omega) (fun k hk => (hown.lt k hk).1)).setCell (p := ⟨b, 1, none⟩) hB _
  · have h1 := hk1 c cs hc
    have h2 : Stands w2 c cs 78 := h1.grown hgrow (stands_apart h1 hown (by decide))
    exact h2.other 1 _ (stands_ne h1 hbk)

set_option maxHeartbeats 2000000 in
set_option maxRecDepth 100000 in
theorem w_bstr (B b : Nat) (ys : List Int) (w : World) (h : Bld B b ys w) (h0 : ys ≠ []) (hby : bytesL ys) :
    Calls Tryd.prog 75 #[.pointer (some ⟨b, 0, none⟩)] w fun e w' => e = .returned (.string (strOfNums ys)) ∧ Below B w w' := by
  obtain ⟨l, hl⟩ : ∃ l : List UInt8, (strOfNums ys).data.toList = l := ⟨_, rfl⟩
  have hlb : ys.map (Value.int .u8) = Lib.byteCells l := by
    have := LB_nums ys hby
    rw [← hl, Lib.byteCells]
    conv => lhs; rw [← this]
    simp [LB, L]
  have hse : strOfNums ys = ⟨l.toArray⟩ := by rw [← hl]
  rw [hse]
  have h0 : l ≠ [] := by
    intro e
    apply h0
    rw [e] at hlb
    simpa [Lib.byteCells] using hlb
  unfold Bld at h
  rw [hlb] at h
  clear hlb hse hl
  obtain ⟨p, hB, v, hbk, hown, hne⟩ : ∃ p, Lib.BuilderAt 91 5 B b p (Lib.byteCells l) w := by
    rcases h with h | h
    · exact ⟨_, h⟩
    · exact ⟨_, h⟩
  have hl0 : l.length ≠ 0 := by simpa using h0
  rw [Lib.byteCells_length] at hown
  obtain ⟨g, cap, cur, rfl, hbg, hg, hnc, hcm, hcs, htake⟩ : ∃ g cap cur, v = .slice (some ⟨g, 0, none⟩) l.length cap ∧ B ≤ g ∧ w.heap[g]? = some (.cells cur 5 (0, 0)) ∧ l.length ≤ cap ∧ cap ≤ maxLen ∧ cur.size = cap * 1 ∧ cur.toList.take (l.length * 1) = Lib.byteCells l := by
    rcases hown.2 with ⟨_, hz⟩ | ⟨g, cap, cur, hv, r⟩
    · exact absurd hz hl0
    · exact ⟨g, cap, cur, hv, r⟩
  have c1 : w.drew.cell? ⟨b, 1, none⟩ = some (.slice (some ⟨g, 0, none⟩) l.length cap) := by
    have : w.drew.heap[b]? = some (.cells #[p, .slice (some ⟨g, 0, none⟩) l.length cap] 91 (0, 0)) := hbk
    rw [Lib.cell_of_heap this]; rfl
  have hSD : (Builtin.unsafeSliceData_ #[28] 103 #[.slice (some ⟨g, 0, none⟩) l.length cap]).run Tryd.prog w.drew = .ok (.pointer (some ⟨g, 0, none⟩)) w.drew :=
    Lib.run_unsafeSliceData_row _ _ _ _ _ _ (by omega)
  have hUS : (Builtin.unsafeString_ #[103, 3] 9 #[.pointer (some ⟨g, 0, none⟩), .int .i64 l.length]).run Tryd.prog w.drew = .ok (.string ⟨l.toArray⟩) (w.drew.freeze ⟨g, 0, none⟩ l.length) := by
    refine Lib.run_unsafeString_row w.drew 103 3 9 5 Tryd.underlying103 cellsB g cur.size (by have hg' : w.drew.heap[g]? = some (.cells cur 5 (0, 0)) := hg; simp [World.shape?, hg']) l h0 (by omega) (by unfold maxLen at hcm; omega) ?_
    intro j x hx
    have := hown.cells (g := g) rfl j (.int .u8 x.toNat) (by simp [Lib.byteCells, hx])
    exact this
  go_enter Tryd.func75, Tryd.ntmps75
  go_wp2
  go_region
  all_goals (go_wp2; go_ret; exact ⟨rfl, Lib.below_freeze (Below.drew (Below.refl B w)) (p := ⟨g, 0, none⟩) hbg _⟩)

theorem bld_new (w : World) : Bld w.heap.size w.heap.size [] (w.alloc (.cells #[.pointer none, .slice none 0 0] 91)) :=
  Or.inl ⟨Nat.le_refl _, .slice none 0 0, heap_alloc_new w _, World.ownsRow_nil _ _ _ _, by simp [Value.ownBlock]⟩

/-
  One number of a unit address, as package prop reads it.
-/


/-
  The library's AppendUint at base 16: the digits of a number of 32 bits behind a row of the call's own.
-/
/-- the digits laid so far stand at the row's end -/
def Lain (c : Array Value) (p : Nat) (D : List Int) : Prop := c.size = 65 ∧ p + D.length = 65 ∧ ∀ j, j < D.length → c[p + j]? = some (.int .u8 (D.getD j 0))
theorem lain0 (c : Array Value) (h : c.size = 65) : Lain c 65 [] := ⟨h, rfl, fun j hj => by simp at hj⟩
theorem lain_step (c : Array Value) (p : Nat) (D : List Int) (h : Lain c (p + 1) D) (x : Int) : Lain (c.setIfInBounds p (.int .u8 x)) p (x :: D) := by
  obtain ⟨h1, h2, h3⟩ := h
  refine ⟨by simpa using h1, by simp; omega, fun j hj => ?_⟩
  rw [Array.getElem?_setIfInBounds]
  cases j with
  | zero => rw [if_pos (by rfl), if_pos (by omega)]; rfl
  | succ j =>
    have hj' : j < D.length := by simpa using hj
    rw [if_neg (by omega)]
    have := h3 j hj'
    rw [show p + (j + 1) = p + 1 + j by omega, this]
    simp
set_option maxRecDepth 100000 in
theorem run_cutB (B p : Nat) (hp : (p : Int) ≤ 64) (w : World) : (Instr.sliceAt 122 (.pointer (some ⟨B, 0, none⟩)) (some (.int .i64 (p : Int))) none none).run Tryd.prog w = .ok (.slice (some ⟨B, p, none⟩) (65 - p) (65 - p)) w := by
  have hu : Tryd.prog.underlying 122 = some (.array (Tryd.prog.arrayLen 122) (Tryd.prog.elem 122)) := by kernel_rfl
  have hl : Tryd.prog.arrayLen 122 = 65 := by kernel_rfl
  have he : Tryd.prog.elem 122 = 5 := by kernel_rfl
  rw [run_sliceAt_array_l w 122 ⟨B, 0, none⟩ hu .i64 (p : Int) (by omega) (by rw [hl]; omega), he, hl, Tryd.sizeOf5]
  have e : ((p : Int)).toNat = p := by omega
  simp only [Result.andThen, slicedAt, e]
  rw [if_neg (by omega)]
  congr 2
  unfold Addr.add
  split
  · rename_i h; simp at h; subst h; rfl
  · simp

set_option maxRecDepth 100000 in
/-- the digits' text, at a place below 16 -/
theorem run_dig (k : Int) (h0 : 0 ≤ k) (h1 : k < 16) (w : World) : (Instr.index 9 (.string ⟨#[48, 49, 50, 51, 52, 53, 54, 55, 56, 57, 97, 98, 99, 100, 101, 102, 103, 104, 105, 106, 107, 108, 109, 110, 111, 112, 113, 114, 115, 116, 117, 118, 119, 120, 121, 122]⟩) (.int .u64 k)).run Tryd.prog w = .ok (.int .u8 (dg k)) w := by
  rw [run_index_string (h := Tryd.underlying9)]
  have : k = 0 ∨ k = 1 ∨ k = 2 ∨ k = 3 ∨ k = 4 ∨ k = 5 ∨ k = 6 ∨ k = 7 ∨ k = 8 ∨ k = 9 ∨ k = 10 ∨ k = 11 ∨ k = 12 ∨ k = 13 ∨ k = 14 ∨ k = 15 := by omega
  rcases this with rfl | rfl | rfl | rfl | rfl | rfl | rfl | rfl | rfl | rfl | rfl | rfl | rfl | rfl | rfl | rfl <;> rfl

theorem w_tz64 (w : World) (hT : Tab w) : Calls Tryd.prog 104 #[.int .u64 16] w fun e w' => e = .returned (.int .i64 4) ∧ w' = w := by
  obtain ⟨-, h⟩ := hT
  have e1 : bits .and .u64 16 (IntKind.u64.wrap (-16)) = 16 := by decide +kernel
  have e2 : IntKind.u64.wrap (16 * 285870213051353865) = 4573923408821661840 := by decide +kernel
  go_enter Tryd.func104, Tryd.ntmps104
  go_wp2_with fail
  go_ret
  exact ⟨rfl, rfl⟩

theorem w_tz (w : World) (hT : Tab w) : Calls Tryd.prog 102 #[.int .u64 16] w fun e w' => e = .returned (.int .i64 4) ∧ w' = w := by
  go_enter Tryd.func102, Tryd.ntmps102
  go_wp2_with (go_at_call 104; refine (w_tz64 _ hT).mono ?_; rintro e w1 ⟨rfl, rfl⟩)
  go_ret
  exact ⟨rfl, rfl⟩

theorem w_pow2 (w : World) : Calls Tryd.prog 101 #[.int .i64 16] w fun e w' => e = .returned (.bool true) ∧ w' = w := by
  go_enter Tryd.func101, Tryd.ntmps101
  go_wp2_with fail
  go_ret
  exact ⟨rfl, rfl⟩

theorem and15 (m : Int) (h0 : 0 ≤ m) (h1 : m < 4294967296) : bits .and .u64 m 15 = m % 16 := by
  rw [u64_and m 15 h0 (by omega) (by decide) (by decide)]
  have := Nat.and_two_pow_sub_one_eq_mod m.toNat 4
  rw [show (15 : Int).toNat = 2 ^ 4 - 1 by decide, this]
  omega
theorem rd_lain (w : World) (c : Array Value) (p : Nat) (D : List Int) (h : Lain c p D) (h0 : 0 < D.length) (T : TypeId) : Rd .u8 (w.alloc (.cells c T)) (.slice (some ⟨w.heap.size, p, none⟩) (65 - p) (65 - p)) D := by
  obtain ⟨h1, h2, h3⟩ := h
  refine Or.inr ⟨w.heap.size, p, 65 - p, by rw [show D.length = 65 - p by omega], h0, by omega, by unfold maxLen; omega, fun i hi => ?_⟩
  rw [World.cell?_alloc_new]
  exact h3 i hi

set_option maxHeartbeats 4000000 in
set_option maxRecDepth 100000 in
theorem w_fbits (v : Value) (ys : List Int) (n : Int) (B : Nat) (w : World) (hT : Tab w) (hO : w.ownsRow B 5 1 v ys.length (ys.map (Value.int .u8))) (hB : B ≤ w.heap.size) (n0 : 0 ≤ n) (n1 : n < 4294967296) (hz : ys.length + 8 ≤ 140737488355328) :
    Calls Tryd.prog 96 #[v, .int .u64 n, .int .i64 16, .bool false, .bool true] w fun e w' => ∃ v', e = .returned (.tuple #[v', .string ⟨#[]⟩]) ∧ w'.ownsRow B 5 1 v' (ys ++ sh 16 n).length ((ys ++ sh 16 n).map (Value.int .u8)) ∧ Below B w w' := by
  obtain ⟨i0, hi, hz0, hz1, hz2⟩ := info_parts infoU8
  go_enter Tryd.func96, Tryd.ntmps96
  go_wp2_with (first
    | (go_at_call 101; refine (w_pow2 _).mono ?_; rintro e w1 ⟨rfl, rfl⟩)
    | (go_at_call 102; refine (w_tz _ (hT.below (box_below _ _))).mono ?_; rintro e w2 ⟨rfl, rfl⟩))
  go_loopw [1, 13] (fun U I wx => ∃ (q : Nat) (m : Int) (c : Array Value) (D : List Int), (q : Int) ≤ 7 ∧ U = .int .u64 m ∧ I = .int .i64 ((q : Int) + 58) ∧ 0 ≤ m ∧ m < 4294967296 ∧ Hid (m < 16 ^ (q + 1)) ∧ Hid (sh 16 n = shF 16 (q + 24 + 1) m ++ D) ∧ Hid (Lain c (q + 58) D) ∧ wx = w.alloc (.cells c 122)) (fun _ I _ => (intOf I).toNat)
  case atStart => exact ⟨7, n, _, [], by omega, rfl, rfl, n0, n1, by show _ < _; simpa using n1, by show _ = _; simp [sh], lain0 _ (by kernel_rfl), rfl⟩
  case round =>
    obtain ⟨q, m, c, D, hq, rfl, rfl, m0, m1, hm, hsh, hL, hwx⟩ := hrel
    subst hwx
    have hand := and15 m m0 m1
    by_cases hmb : m < 16
    · have hfin : Hid (sh 16 n = dg m :: D) := by show _ = _; rw [hsh.out, shF_lo 16 m (q + 24) hmb]; rfl
      have hdg := run_dig m m0 hmb
      have hcut := run_cutB w.heap.size (q + 57) (by omega)
      rw [show ((q + 57 : Nat) : Int) = (q : Int) + 58 - 1 by omega] at hcut
      obtain ⟨v0, hcp⟩ : ∃ v, c[q + 57]? = some v := ⟨_, Array.getElem?_eq_getElem (by rw [hL.out.1]; omega)⟩
      have hL2 := hid (lain_step c (q + 57) D hL.out (dg m))
      have hDl : Hid ((dg m :: D).length ≤ 8) := by show _ ≤ _; have := hL.out.2.1; simp; omega
      have hr := hid (rd_lain w _ _ _ hL2.out (by simp) 122)
      have hO2 := World.ownsRow.alloc hO (.cells (c.setIfInBounds (q + 57) (.int .u8 (dg m))) 122)
      clear hm hsh hL hand
      obtain ⟨R, hR⟩ : ∃ R, 65 - (q + 57) = R := ⟨_, rfl⟩
      rw [hR] at hr
      simp only [hR] at hcut
      clear hR
      obtain ⟨E, hE⟩ : ∃ E, dg m :: D = E := ⟨_, rfl⟩
      rw [hE] at hfin hDl hr
      have hel := hDl.out
      clear hE hDl hL2
      go_wp2_with (at_builtin; refine wpList_append_rd (k := .u8) rfl _ _ 28 rfl B 5 i0 1 Tryd.underlying28 hi hz0 hz1 hz2 v ys rfl hO2 _ E rfl hr.out (by unfold maxLen; omega) (by omega) (Nat.le_trans hB (box_below w _).size) ?_; intro v5 w5 ho5 hg5)
      go_ret2
      exact ⟨v5, rfl, by rw [← hfin.out] at ho5; simpa using ho5, ((Below.refl _ w).alloc hB _).grown hg5 (Nat.le_trans hB (box_below w _).size) (fun k hk => (hO2.lt k hk).1)⟩
    · have hpp : 0 < q := by
        rcases Nat.eq_zero_or_pos q with h | h
        · exfalso; have := hm.out; rw [h] at this; simp at this; omega
        · exact h
      obtain ⟨r, rfl⟩ : ∃ r, q = r + 1 := ⟨q - 1, by omega⟩
      have hdg := run_dig (m % 16) (by omega) (by omega)
      obtain ⟨v0, hcp⟩ : ∃ v, c[r + 58]? = some v := ⟨_, Array.getElem?_eq_getElem (by rw [hL.out.1]; omega)⟩
      have hm2 : Hid (m / 16 < 16 ^ (r + 1)) := by
        show _ < _
        have := hm.out
        rw [Int.pow_succ] at this
        omega
      have hs2 : Hid (sh 16 n = shF 16 (r + 24 + 1) (m / 16) ++ dg (m % 16) :: D) := by
        show _ = _
        rw [hsh.out, shF_hi 16 m (r + 1 + 24) hmb, show r + 1 + 24 = r + 24 + 1 by omega]
        simp
      have hL2 := hid (lain_step c (r + 58) D hL.out (dg (m % 16)))
      clear hm hsh hL
      go_wp2_with fail
      go_roundw
      case rel => exact ⟨r, m / 16, _, dg (m % 16) :: D, by omega, rfl, by go_num, by omega, by omega, hm2, hs2, hL2, rfl⟩
      case measure => simp [intOf]; omega

set_option maxHeartbeats 1000000 in
theorem w_iapp (v : Value) (ys : List Int) (n : Int) (B : Nat) (w : World) (hT : Tab w) (hO : w.ownsRow B 5 1 v ys.length (ys.map (Value.int .u8))) (hB : B ≤ w.heap.size) (n0 : 0 ≤ n) (n1 : n < 4294967296) (hz : ys.length + 8 ≤ 140737488355328) :
    Calls Tryd.prog 89 #[v, .int .u64 n, .int .i64 16] w fun e w' => ∃ v', e = .returned v' ∧ w'.ownsRow B 5 1 v' (ys ++ sh 16 n).length ((ys ++ sh 16 n).map (Value.int .u8)) ∧ Below B w w' := by
  go_enter Tryd.func89, Tryd.ntmps89
  go_wp2_with (go_at_call 96; refine (w_fbits v ys n B _ hT hO hB n0 n1 hz).mono ?_; rintro e w1 ⟨v1, rfl, h1, h2⟩)
  go_ret
  exact ⟨v1, rfl, h1, h2⟩

set_option maxHeartbeats 1000000 in
theorem w_sapp (v : Value) (ys : List Int) (n : Int) (B : Nat) (w : World) (hT : Tab w) (hO : w.ownsRow B 5 1 v ys.length (ys.map (Value.int .u8))) (hB : B ≤ w.heap.size) (n0 : 0 ≤ n) (n1 : n < 4294967296) (hz : ys.length + 8 ≤ 140737488355328) :
    Calls Tryd.prog 86 #[v, .int .u64 n, .int .i64 16] w fun e w' => ∃ v', e = .returned v' ∧ w'.ownsRow B 5 1 v' (ys ++ sh 16 n).length ((ys ++ sh 16 n).map (Value.int .u8)) ∧ Below B w w' := by
  go_enter Tryd.func86, Tryd.ntmps86
  go_wp2_with (go_at_call 89; refine (w_iapp v ys n B _ hT hO hB n0 n1 hz).mono ?_; rintro e w1 ⟨v1, rfl, h1, h2⟩)
  go_ret
  exact ⟨v1, rfl, h1, h2⟩

/-
  Unit addresses, parsed and shown, as package prop answers them.
-/
theorem spl_none (l : List Int) (h : ∀ x ∈ l, ¬ x = 44) : spl 44 [] l = [l] := by
  have := spl_skip 44 l [] h []
  rw [List.append_nil, List.nil_append] at this
  rw [this]
  rfl
theorem spl_some (a b : List Int) (h : ∀ x ∈ a, ¬ x = 44) : spl 44 [] (a ++ 44 :: b) = a :: spl 44 [] b := by
  rw [spl_skip 44 a _ h, List.nil_append, spl, if_pos rfl]
/-- what is read is known: the pieces ahead, and what is left -/
def PU (l : List Int) (P : List (List Int)) (M : Bool) (r : List Int) : Prop := spl 44 [] l = P ++ (if M = true then spl 44 [] r else [])
theorem pu_bad {l : List Int} {P Q : List (List Int)} {p : List Int} (h : spl 44 [] l = P ++ p :: Q) (hp : pcOk p = false) : punF l = ([], 15) := by
  unfold punF
  rw [if_pos]
  rw [h, List.all_append, List.all_cons, hp]
  simp
theorem pu_long {l : List Int} {P : List (List Int)} (h : spl 44 [] l = P) (hp : P.all pcOk = true) (hl : 4 < P.length) : punF l = ([], 3) := by
  unfold punF
  rw [h, hp, if_neg (by decide), if_pos hl]
theorem pu_ok {l : List Int} {P : List (List Int)} (h : spl 44 [] l = P) (hp : P.all pcOk = true) (hl : ¬ 4 < P.length) : punF l = (P.map (num 16), 0) := by
  unfold punF
  rw [h, hp, if_neg (by decide), if_neg hl]
/-- the same call with its three answers told apart -/
theorem cutC_split {l : List Int} {A B : ByteArray} {f : Bool} (h : CutC l A B f) : spl 44 [] l = L A :: (if f = true then spl 44 [] (L B) else []) ∧ A.size ≤ l.length ∧ (f = true → A.size + 1 + B.size = l.length) := by
  rcases h with ⟨rfl, h1, h2⟩ | ⟨rfl, h1, h2⟩
  · refine ⟨?_, ?_, fun h => by cases h⟩
    · rw [spl_none l h2, h1]; rfl
    · rw [← h1, L_len]; exact Nat.le_refl _
  · refine ⟨?_, ?_, fun _ => ?_⟩
    · rw [h1, spl_some _ _ h2]; rfl
    · rw [h1, List.length_append, L_len]; omega
    · rw [h1, List.length_append, List.length_cons, L_len, L_len]; omega
def strOf : Value → Nat | .string s => s.size | _ => 0
def boolOf : Value → Bool | .bool b => b | _ => false

set_option maxHeartbeats 4000000 in
set_option maxRecDepth 100000 in
theorem w_psunit (v : Value) (xs : List Int) (w : World) (hT : Tab w) (h : Rd .u32 w v xs) (hC : cells xs) (hz : xs.length * 16 ≤ 140737488355328) :
    Calls Tryd.prog 81 #[v] w fun e w' => e = .returned (.string (strOfNums (shoF xs))) ∧ Below w.heap.size w w' := by
  have hlen := rd_len h uU (P := Tryd.prog)
  obtain ⟨i0, hi, hz0, hz1, hz2⟩ := info_parts infoU8
  obtain ⟨F, hF⟩ : ∃ F, strOfNums (shoF xs) = F := ⟨_, rfl⟩
  have HF := hid hF
  rw [hF]
  clear hF
  go_enter Tryd.func81, Tryd.ntmps81
  go_wp2_with fail
  go_loopw [3, 8] (fun U I wx => ∃ (k : Nat) (ys : List Int), (k : Int) ≤ xs.length ∧ I = .int .i64 k ∧ Hid (ys = shoF (xs.take k)) ∧ (ys.length : Int) ≤ 9 * k ∧ Own8 w.heap.size wx U ys ∧ Below w.heap.size w wx) (fun _ I _ => (xs.length - intOf I).toNat)
  case atStart => exact ⟨0, [], by omega, rfl, hid rfl, by simp, World.ownsRow_nil _ _ _ _, Below.refl _ _⟩
  case round =>
    obtain ⟨k, ys, hk, rfl, hys, hyl, ho, hb⟩ := hrel
    by_cases hlt : (k : Int) < xs.length
    · have hkk : k < xs.length := by omega
      obtain ⟨ad, g1, cw⟩ := rd_idx h uU zU k (by omega) hlt
      have hx := hC xs[k] (List.getElem_mem hkk)
      have hgk : xs.getD (k : Int).toNat 0 = xs[k] := by rw [Int.toNat_natCast, List.getD_eq_getElem?_getD, List.getElem?_eq_getElem hkk]; rfl
      rw [hgk] at cw
      have htk : xs.take (k + 1) = xs.take k ++ [xs[k]] := List.take_succ_eq_append_getElem hkk
      obtain ⟨x, hxx⟩ : ∃ x, xs[k] = x := ⟨_, rfl⟩
      rw [hxx] at cw hx htk
      obtain ⟨x0, x1⟩ := hx
      have c1 := below_cell hb cw
      have hsl := (sh16_len x x0 x1).2
      rcases Nat.eq_zero_or_pos k with hk0 | hk0
      · have hyn : ys = [] := List.eq_nil_of_length_eq_zero (by omega)
        subst hyn
        have hys2 : Hid ([] ++ sh 16 x = shoF (xs.take (k + 1))) := by show _ = _; rw [htk, hk0]; simp [shoF_one]
        have hkn : ¬ (0 : Int) < k := by omega
        clear hxx hgk htk hys hk0
        go_wp2_with (go_at_call 86; refine (w_sapp _ [] x w.heap.size _ (hT.below hb) ho hb.size x0 x1 (by simp)).mono ?_; rintro e w5 ⟨v5, rfl, ho5, hb5⟩)
        go_roundw
        case rel => exact ⟨k + 1, [] ++ sh 16 x, by omega, by go_num, hys2, by simp; omega, ho5, hb.trans hb5⟩
        case measure => simp [intOf]; omega
      · have hne : xs.take k ≠ [] := by
          have hl : (xs.take k).length = k := by rw [List.length_take]; omega
          intro h
          rw [h] at hl
          simp at hl
          omega
        have hys2 : Hid ((ys ++ [44]) ++ sh 16 x = shoF (xs.take (k + 1))) := by
          show _ = _
          rw [htk, shoF_snoc _ _ hne, hys.out]
          simp
        have hkp : (0 : Int) < k := by omega
        have ho3 := World.ownsRow.alloc ho (.cells #[.int .u8 44] 5)
        have hb3 := hb.alloc hb.size (.cells #[.int .u8 44] 5)
        clear hxx hgk htk hys hne ho
        go_wp2_with (first
          | (at_builtin; refine wpList_append_rd (k := .u8) rfl _ _ 28 rfl w.heap.size 5 i0 1 Tryd.underlying28 hi hz0 hz1 hz2 _ ys rfl ho3 _ [44] rfl (rd_one _ 44 5) (by unfold maxLen; simp; omega) (by simp; omega) hb3.size ?_; intro v4 w4 ho4 hg4; have hb4 := below_grown hb3 hg4 (fun k hk => (ho3.lt k hk).1))
          | (go_at_call 86; refine (w_sapp _ (ys ++ [44]) x w.heap.size _ (hT.below hb4) ho4 hb4.size x0 x1 (by simp; omega)).mono ?_; rintro e w5 ⟨v5, rfl, ho5, hb5⟩))
        go_roundw
        case rel => exact ⟨k + 1, (ys ++ [44]) ++ sh 16 x, by omega, by go_num, hys2, by simp; omega, ho5, hb4.trans hb5⟩
        case measure => simp [intOf]; omega
    · have hr := (Rd_own ho).1
      have cs := rd_strT hr
      have e : strOfNums ys = F := by rw [← HF.out, hys.out, List.take_of_length_le (by omega)]
      rw [e] at cs
      clear e
      go_wp2_with fail
      go_ret
      exact ⟨rfl, hb⟩

/-
  formed, showStep and short of package path.
-/
set_option maxHeartbeats 4000000 in
set_option maxRecDepth 100000 in
theorem w_pformed (nm ar : ByteArray) (v : Value) (u : List Int) (w : World) (hr : Rd .u32 w v u) (hn : nm.size ≤ maxLen) (ha : ar.size ≤ maxLen) :
    Calls Tryd.prog 71 #[.agg #[.string nm, v, .string ar]] w fun e w' => e = .returned (.bool (okS (L nm, u, L ar))) ∧ Below w.heap.size w w' := by
  have hlen := rd_len hr uU (P := Tryd.prog)
  obtain ⟨ao, cap, rfl, -⟩ := rd_form hr
  have b0 := box_below w (.cells #[.string nm, .slice ao u.length cap, .string ar] 78)
  have sx := stands_new w #[.string nm, .slice ao u.length cap, .string ar] 78
  obtain ⟨w1, hw1⟩ : ∃ w1, w.alloc (.cells #[.string nm, .slice ao u.length cap, .string ar] 78) = w1 := ⟨_, rfl⟩
  rw [hw1] at b0 sx
  have x0 := sx.cell 0 _ rfl
  have cn := w_pnamed nm w1 hn
  have ca := fun w => w_cont47 ar w
  have hok : okS (L nm, u, L ar) = (nmF (L nm) && (decide (u.length ≤ 4) && (L ar).all (fun c => decide (¬ c = 47)))) := rfl
  rw [hok]
  clear hok
  cases hnm : nmF (L nm)
  · rw [hnm] at cn
    go_enter Tryd.func71, Tryd.ntmps71
    go_wp2_with (go_at_call 53; refine cn.mono ?_; rintro e w2 ⟨rfl, b2⟩)
    go_ret
    exact ⟨rfl, below_trans b0 b2⟩
  · rw [hnm] at cn
    by_cases h4 : (u.length : Int) ≤ 4
    · have e4 : decide (u.length ≤ 4) = true := decide_eq_true (by omega)
      rw [e4]
      go_enter Tryd.func71, Tryd.ntmps71
      go_wp2_with (first
        | (go_at_call 53; refine cn.mono ?_; rintro e w2 ⟨rfl, b2⟩; have s2 := sx.below b2; have y1 := s2.cell 1 _ rfl; have y2 := s2.cell 2 _ rfl)
        | (go_at_call 79; refine (ca _).mono ?_; rintro e w3 ⟨rfl, rfl⟩))
      go_ret
      refine ⟨?_, below_trans b0 b2⟩
      have e : (L ar).all (fun c => decide (¬ c = 47)) = (L ar).all (fun c => !decide (c = 47)) := by simp only [decide_not]
      rw [e]
      rfl
    · have e4 : decide (u.length ≤ 4) = false := decide_eq_false (by omega)
      rw [e4]
      go_enter Tryd.func71, Tryd.ntmps71
      go_wp2_with (go_at_call 53; refine cn.mono ?_; rintro e w2 ⟨rfl, b2⟩; have s2 := sx.below b2; have y1 := s2.cell 1 _ rfl; have y2 := s2.cell 2 _ rfl)
      go_ret
      exact ⟨rfl, below_trans b0 b2⟩

set_option maxHeartbeats 1000000 in
set_option maxRecDepth 100000 in
theorem w_pshort (s : ByteArray) (w : World) (hs : s.size ≤ maxLen) :
    Calls Tryd.prog 74 #[.string s] w fun e w' => e = .returned (if 256 < s.size then .tuple #[.string ⟨#[]⟩, .int .i64 3] else .tuple #[.string s, .int .i64 0]) ∧ w' = w := by
  unfold maxLen at hs
  by_cases h : (256 : Int) < s.size
  · rw [if_pos (by omega)]
    go_enter Tryd.func74, Tryd.ntmps74
    go_wp2_with fail
    go_ret2
    exact ⟨rfl, rfl⟩
  · rw [if_neg (by omega)]
    go_enter Tryd.func74, Tryd.ntmps74
    go_wp2_with fail
    go_ret2
    exact ⟨rfl, rfl⟩

set_option maxHeartbeats 4000000 in
set_option maxRecDepth 100000 in
theorem w_pshowstep (nm ar : ByteArray) (v : Value) (u : List Int) (w : World) (hT : Tab w) (hr : Rd .u32 w v u) (hC : cells u) (hz : u.length ≤ 4) (hn : nm.size ≤ 100000000000) (ha : ar.size ≤ 100000000000) :
    Calls Tryd.prog 73 #[.agg #[.string nm, v, .string ar]] w fun e w' => ∃ S, e = .returned (.string S) ∧ L S = bodT (L nm, u, L ar) ∧ Below w.heap.size w w' := by
  have hlen := rd_len hr uU (P := Tryd.prog)
  obtain ⟨ao, cap, rfl, -⟩ := rd_form hr
  have b0 := box_below w (.cells #[.string nm, .slice ao u.length cap, .string ar] 78)
  have sx := stands_new w #[.string nm, .slice ao u.length cap, .string ar] 78
  obtain ⟨w1, hw1⟩ : ∃ w1, w.alloc (.cells #[.string nm, .slice ao u.length cap, .string ar] 78) = w1 := ⟨_, rfl⟩
  rw [hw1] at b0 sx
  have x0 := sx.cell 0 _ rfl
  have x1 := sx.cell 1 _ rfl
  have x2 := sx.cell 2 _ rfl
  have cu := w_psunit _ u w1 (hT.below b0) (hr.below b0) hC (by omega)
  have hSL : L (strOfNums (shoF u)) = shoF u := LB_nums _ (shoF_bytes u hC)
  have hSs : (strOfNums (shoF u)).size ≤ 36 := by
    have := shoF_len u hC
    rw [← L_len, hSL]
    omega
  obtain ⟨S, hS⟩ : ∃ S, strOfNums (shoF u) = S := ⟨_, rfl⟩
  rw [hS] at cu hSs hSL
  have HS := hid hSL
  have hA : ∀ b, (!ar.toList.isEmpty) = b → (L ar = []) = (b = false) := by
    intro b hb
    have : L ar = [] ↔ ar.toList.isEmpty = true := by
      rw [ByteArray.toList_eq, List.isEmpty_iff]
      unfold L
      rw [List.map_eq_nil_iff]
    rw [this, ← hb]
    cases ar.toList.isEmpty <;> simp
  have HA := hid hA
  clear hS hSL hA
  go_enter Tryd.func73, Tryd.ntmps73
  go_wp2_with (go_at_call 81; refine cu.mono ?_; rintro e w2 ⟨rfl, b2⟩; have s2 := sx.below b2; have y1 := s2.cell 1 _ rfl; have y2 := s2.cell 2 _ rfl)
  · rename_i h1 h2
    go_ret
    refine ⟨_, rfl, ?_, below_trans b0 b2⟩
    have hu : ¬ u = [] := by intro e; rw [e] at h1; simp at h1
    have ha : ¬ L ar = [] := by rw [HA.out _ h2]; simp
    show L ((nm ++ (_ ++ S)) ++ (_ ++ ar)) = _
    rw [L_app, L_app, L_app, L_app, HS.out]
    show _ = L nm ++ ((if u = [] then [] else 64 :: shoF u) ++ (if L ar = [] then [] else 58 :: L ar))
    rw [if_neg hu, if_neg ha]
    simp [L]
  · rename_i h1 h2
    go_ret
    refine ⟨_, rfl, ?_, below_trans b0 b2⟩
    have hu : ¬ u = [] := by intro e; rw [e] at h1; simp at h1
    have ha : L ar = [] := by rw [HA.out _ h2]
    show L (nm ++ (_ ++ S)) = _
    rw [L_app, L_app, HS.out]
    show _ = L nm ++ ((if u = [] then [] else 64 :: shoF u) ++ (if L ar = [] then [] else 58 :: L ar))
    rw [if_neg hu, if_pos ha]
    simp [L]
  · rename_i h1 h2
    go_ret
    refine ⟨_, rfl, ?_, b0⟩
    have hu : u = [] := List.eq_nil_of_length_eq_zero (by omega)
    have ha : ¬ L ar = [] := by rw [HA.out _ h2]; simp
    show L (nm ++ (_ ++ ar)) = _
    rw [L_app, L_app]
    show _ = L nm ++ ((if u = [] then [] else 64 :: shoF u) ++ (if L ar = [] then [] else 58 :: L ar))
    rw [if_pos hu, if_neg ha]
    simp [L]
  · rename_i h1 h2
    go_ret
    refine ⟨_, rfl, ?_, b0⟩
    have hu : u = [] := List.eq_nil_of_length_eq_zero (by omega)
    have ha : L ar = [] := by rw [HA.out _ h2]
    show L nm = _
    show _ = L nm ++ ((if u = [] then [] else 64 :: shoF u) ++ (if L ar = [] then [] else 58 :: L ar))
    rw [if_pos hu, if_pos ha]
    simp

/-
  Show of package path.
-/
theorem shpT_bytes7 : ∀ l : List Sp, (∀ x ∈ l, bytesL x.1 ∧ bytesL x.2.2) → (∀ x ∈ l, cells x.2.1) → bytesL (shpT l) := by
  intro l
  induction l with
  | nil => intro _ _ x hx; simp [shpT] at hx
  | cons y l ih =>
    intro hb hc x hx
    have h1 := hb y (by simp)
    simp only [shpT, List.mem_cons, List.mem_append, bodT] at hx
    rcases hx with rfl | (hx | hx | hx) | hx
    · omega
    · exact h1.1 x hx
    · split at hx
      · simp at hx
      · simp only [List.mem_cons] at hx
        rcases hx with rfl | hx
        · omega
        · exact shoF_bytes y.2.1 (hc y (by simp)) x hx
    · split at hx
      · simp at hx
      · simp only [List.mem_cons] at hx
        rcases hx with rfl | hx
        · omega
        · exact h1.2 x hx
    · exact ih (fun z hz => hb z (by simp [hz])) (fun z hz => hc z (by simp [hz])) x hx

set_option maxHeartbeats 4000000 in
set_option maxRecDepth 100000 in
theorem w_pshow7 (v : Value) (xs : List Sp) (w : World) (h : SlR 3 stpR w v xs) (bx : ∀ x ∈ xs, bytesL x.1 ∧ bytesL x.2.2) (cx : ∀ x ∈ xs, cells x.2.1) (hz : (shpT xs).length ≤ 100000000000) (hsz : ∀ x ∈ xs, x.1.length ≤ 100000000000 ∧ x.2.1.length ≤ 100000000000 ∧ x.2.2.length ≤ 100000000000) (hT : Tab w) :
    Calls Tryd.prog 60 #[v] w fun e w' => e = .returned (.tuple #[.string (strOfNums (shpF xs).1), .int .i64 (shpF xs).2]) ∧ Below w.heap.size w w' := by
  have hla := slr_len h uP (P := Tryd.prog)
  have hma := slr_max h
  unfold maxLen at hma
  obtain ⟨A, E, hAE⟩ : ∃ A E, shpF xs = (A, E) := ⟨_, _, rfl⟩
  have HAE := hid hAE
  rw [hAE]
  show Calls _ _ _ _ fun e w' => e = .returned (.tuple #[.string (strOfNums A), .int .i64 E]) ∧ _
  clear hAE
  go_enter Tryd.func60, Tryd.ntmps60
  go_wp2_with fail
  go_loopw [11] (fun I wx => ∃ (i : Nat), (i : Int) ≤ xs.length ∧ I = .int .i64 i ∧ Hid ((xs.take i).all okS = true) ∧ Below w.heap.size w wx) (fun I _ => (xs.length - intOf I).toNat)
  case atStart => exact ⟨0, by omega, rfl, hid rfl, Below.refl _ _⟩
  case round =>
    obtain ⟨i, hi, rfl, hall, hb⟩ := hrel
    by_cases hlt : (i : Int) < xs.length
    · have hil : i < xs.length := by omega
      obtain ⟨b, o, nm, ar, ao, n, cap, r, a0, a1, a2, e0, e2, hU⟩ := stp_at h i hil
      have c0 := below_cell hb a0
      have c1 := below_cell hb a1
      have c2 := below_cell hb a2
      have hNL : L nm = xs[i].1 := by rw [← e0]; exact LB_nums _ (bx _ (List.getElem_mem hil)).1
      have hAL : L ar = xs[i].2.2 := by rw [← e2]; exact LB_nums _ (bx _ (List.getElem_mem hil)).2
      have hNs : nm.size ≤ 100000000000 := by rw [← L_len, hNL]; exact (hsz _ (List.getElem_mem hil)).1
      have hAs : ar.size ≤ 100000000000 := by rw [← L_len, hAL]; exact (hsz _ (List.getElem_mem hil)).2.2
      have hb0 := hb.alloc hb.size (.cells #[.string nm, .slice ao n cap, .string ar] 78)
      have st0 := stands_new wr #[.string nm, .slice ao n cap, .string ar] 78
      have x0 := st0.cell 0 _ rfl
      have x1 := st0.cell 1 _ rfl
      have x2 := st0.cell 2 _ rfl
      have cf := w_pformed nm ar (.slice ao n cap) xs[i].2.1 (wr.alloc (.cells #[.string nm, .slice ao n cap, .string ar] 78)) (hU.below hb0) (by unfold maxLen; omega) (by unfold maxLen; omega)
      rw [hNL, hAL] at cf
      have hoo : okS (xs[i].1, xs[i].2.1, xs[i].2.2) = okS xs[i] := rfl
      rw [hoo] at cf
      cases hok : okS xs[i]
      · have e : Hid (shpF xs = ([], 1)) := shp_bad xs i hil hok
        rw [hok] at cf
        clear e0 e2 hNL hAL hok hoo
        go_wp2_with (go_at_call 71; refine cf.mono ?_; rintro e w2 ⟨rfl, b2⟩)
        go_ret2
        obtain ⟨rfl, rfl⟩ := Prod.mk.inj (HAE.out.symm.trans e.out)
        exact ⟨rfl, below_trans hb0 b2⟩
      · rw [hok] at cf
        have hall2 : Hid ((xs.take (i + 1)).all okS = true) := by
          show _ = _
          rw [List.take_succ_eq_append_getElem hil, List.all_append, hall.out]
          simp [hok]
        clear e0 e2 hNL hAL hok hoo
        go_wp2_with (go_at_call 71; refine cf.mono ?_; rintro e w2 ⟨rfl, b2⟩)
        go_roundw
        case rel => exact ⟨i + 1, by omega, by go_num, hall2, below_trans hb0 b2⟩
        case measure => simp [intOf]; omega
    · have hok : Hid (xs.all okS = true) := by
        show _ = _
        have := hall.out
        rw [List.take_of_length_le (by omega)] at this
        exact this
      clear hall
      by_cases hx0 : xs.length = 0
      · have hxe : xs = [] := List.eq_nil_of_length_eq_zero hx0
        subst hxe
        have e : Hid (shpF [] = ([47], 0)) := hid (by decide +kernel)
        clear hz hsz bx cx hok
        go_wp2_with fail
        go_ret2
        obtain ⟨rfl, rfl⟩ := Prod.mk.inj (HAE.out.symm.trans e.out)
        exact ⟨rfl, hb⟩
      · have hxb : ((xs.length : Int) == 0) = false := by simpa using hx0
        obtain ⟨W, rfl⟩ : ∃ W, W = wr := ⟨_, rfl⟩
        have hbn := bld_new W
        go_wp2_with fail
        go_loopw [24] (fun I wx => ∃ (j : Nat) (ys : List Int), (j : Int) ≤ xs.length ∧ I = .int .i64 j ∧ Hid (ys = shpT (xs.take j)) ∧ Bld W.heap.size W.heap.size ys wx ∧ Below W.heap.size W wx) (fun I _ => (xs.length - intOf I).toNat)
        case atStart => exact ⟨0, [], by omega, rfl, hid rfl, hbn, box_below _ _⟩
        case round =>
          obtain ⟨j, ys, hj, rfl, hys, hbd, hbw⟩ := hrel
          have hbx := below_trans hb hbw
          by_cases hjt : (j : Int) < xs.length
          · have hil : j < xs.length := by omega
            obtain ⟨b, o, nm, ar, ao, n, cap, r, a0, a1, a2, e0, e2, hU⟩ := stp_at h j hil
            have c0 := below_cell hbx a0
            have c1 := below_cell hbx a1
            have c2 := below_cell hbx a2
            have hNL : L nm = xs[j].1 := by rw [← e0]; exact LB_nums _ (bx _ (List.getElem_mem hil)).1
            have hAL : L ar = xs[j].2.2 := by rw [← e2]; exact LB_nums _ (bx _ (List.getElem_mem hil)).2
            have hNs : nm.size ≤ 100000000000 := by rw [← L_len, hNL]; exact (hsz _ (List.getElem_mem hil)).1
            have hAs : ar.size ≤ 100000000000 := by rw [← L_len, hAL]; exact (hsz _ (List.getElem_mem hil)).2.2
            have hF : shpT (xs.take (j + 1)) = ys ++ 47 :: bodT xs[j] := by rw [List.take_succ_eq_append_getElem hil, shp_snoc, hys.out]
            have hol := shp_take xs (j + 1)
            rw [hF] at hol
            simp only [List.length_append, List.length_cons] at hol
            have hcu := cx _ (List.getElem_mem hil)
            have hu4 : xs[j].2.1.length ≤ 4 := (ok_parts (List.all_eq_true.1 hok.out _ (List.getElem_mem hil))).2.1
            have hbo : bodT (L nm, xs[j].2.1, L ar) = bodT xs[j] := by rw [hNL, hAL]
            have hB0 := box_below wr (.cells #[.string nm, .slice ao n cap, .string ar] 78)
            have hbw0 := hbw.alloc hbw.size (.cells #[.string nm, .slice ao n cap, .string ar] 78)
            have hbx0 := below_trans hbx hB0
            have st0 := stands_new wr #[.string nm, .slice ao n cap, .string ar] 78
            have hbd0 := bld_below hbd hB0
            have cw1 := w_bws W.heap.size W.heap.size ys ⟨#[47]⟩ (wr.alloc (.cells #[.string nm, .slice ao n cap, .string ar] 78)) hbd0 (by show _ + 1 ≤ _; omega) hbw0.size
            have cs2 := fun w' (g : Below w.heap.size w w') => w_pshowstep nm ar (.slice ao n cap) xs[j].2.1 w' (hT.below g) (hU.below g) hcu hu4 hNs hAs
            have cw3 := fun w' S (g : Bld W.heap.size W.heap.size (ys ++ [47]) w') (gl : L S = bodT xs[j]) (gs : W.heap.size ≤ w'.heap.size) => w_bws W.heap.size W.heap.size (ys ++ [47]) S w' g (by rw [← L_len, gl]; simp; omega) gs
            rw [hbo] at cs2
            rw [show L ⟨#[47]⟩ = [47] by decide +kernel] at cw1
            have HF := hid hF
            clear e0 e2 hNL hAL hbo hF hol
            go_wp2_with (first
              | (go_at_call 72; refine (cw3 _ S d2 hSL hbw2.size).mono ?_; rintro e w3 ⟨rfl, d3, b3, -⟩; have hbw3 := hbw2.trans b3; have HSL := hid hSL; clear hSL)
              | (go_at_call 73; refine (cs2 _ hbx1).mono ?_; rintro e w2 ⟨S, rfl, hSL, b2⟩; have d2 := bld_below d1 b2; have hbw2 := below_trans hbw1 b2)
              | (go_at_call 72; refine cw1.mono ?_; rintro e w1 ⟨rfl, d1, b1, k1⟩; have st1 := k1 _ _ st0; have y0 := st1.cell 0 _ rfl; have y1 := st1.cell 1 _ rfl; have y2 := st1.cell 2 _ rfl; have hbw1 := hbw0.trans b1; have hbx1 := below_trans hb hbw1))
            go_roundw
            case rel =>
              refine ⟨j + 1, ys ++ [47] ++ L S, by omega, by go_num, hid ?_, d3, hbw3⟩
              rw [HF.out, HSL.out]
              simp
            case measure => simp [intOf]; omega
          · have hye : ys = shpT xs := by
              rw [hys.out, List.take_of_length_le (by omega)]
            have hyb : bytesL ys := by rw [hye]; exact shpT_bytes7 xs bx cx
            have hxn : ¬ xs = [] := fun e => hx0 (by rw [e]; rfl)
            have hyn : ys ≠ [] := by
              rw [hye]
              cases xs with
              | nil => exact absurd rfl hxn
              | cons y l => simp [shpT]
            have hss : (strOfNums ys).size = ys.length := by
              rw [← L_len]
              exact congrArg List.length (LB_nums ys hyb)
            have cst := w_bstr W.heap.size W.heap.size ys wr hbd hyn hyb
            have csh := fun w' => w_pshort (strOfNums ys) w' (by rw [hss]; unfold maxLen; rw [hye]; omega)
            rw [hss] at csh
            have e : Hid (shpF xs = if 256 < ys.length then ([], 3) else (ys, 0)) := by
              show _ = _
              unfold shpF
              rw [hok.out, if_neg (by simp), if_neg hxn, hye]
            clear hye hyb hyn hss
            by_cases h256 : 256 < ys.length
            · rw [if_pos h256] at e
              simp only [h256, if_true] at csh
              go_wp2_with (first
                | (go_at_call 75; refine cst.mono ?_; rintro e w1 ⟨rfl, b1⟩; have hbw1 := hbw.trans b1)
                | (go_at_call 74; refine (csh _).mono ?_; rintro e w2 ⟨rfl, rfl⟩))
              go_ret2
              obtain ⟨rfl, rfl⟩ := Prod.mk.inj (HAE.out.symm.trans e.out)
              exact ⟨rfl, below_trans hb hbw1⟩
            · rw [if_neg h256] at e
              simp only [h256, if_false] at csh
              go_wp2_with (first
                | (go_at_call 75; refine cst.mono ?_; rintro e w1 ⟨rfl, b1⟩; have hbw1 := hbw.trans b1)
                | (go_at_call 74; refine (csh _).mono ?_; rintro e w2 ⟨rfl, rfl⟩))
              go_ret2
              obtain ⟨rfl, rfl⟩ := Prod.mk.inj (HAE.out.symm.trans e.out)
              exact ⟨rfl, below_trans hb hbw1⟩

/-
  The library's Reverse at steps, and package tree's Path.
-/
theorem flat_setL {α : Type} (rows : List (List α)) (sz i : Nat) (row : List α) (h : ∀ r ∈ rows, r.length = sz) (hi : i < rows.length) (hr : row.length = sz) : setL rows.flatten (i * sz) row = (rows.set i row).flatten := by
  have hl := flat_len rows sz h
  have hle : (i + 1) * sz ≤ rows.length * sz := Nat.mul_le_mul_right _ hi
  rw [Nat.add_mul, Nat.one_mul] at hle
  rw [setL_eq _ _ _ (by rw [hl, hr]; exact hle), flat_take rows sz i h, hr, show i * sz + sz = (i + 1) * sz by rw [Nat.add_mul, Nat.one_mul], flat_drop rows sz (i + 1) h, List.set_eq_take_append_cons_drop, if_pos hi]
  simp
theorem idx_step (g m cap n : Nat) (h : n < m) : ∀ w', (Instr.indexAt 48 (.slice (some ⟨g, 0, none⟩) m cap) (.int .i64 (n : Int))).run Tryd.prog w' = .ok (.pointer (some ⟨g, n * 3, none⟩)) w' := by
  intro w'
  rw [run_indexAt_slice (h := uP), if_pos ⟨by omega, by omega⟩, zP]
  simp only [Result.andThen, Int.toNat_natCast]
  congr 3
  unfold Addr.add
  split
  · rename_i hz; rw [hz]
  · simp
/-- reversed from both ends, i rows each -/
def RvI (rows : List (List Value)) (i : Nat) (rs : List (List Value)) : Prop := rs.length = rows.length ∧ ∀ p, p < rows.length → rs.getD p [] = if p < i ∨ rows.length ≤ p + i then rows.getD (rows.length - 1 - p) [] else rows.getD p []
theorem rv_end {rows rs : List (List Value)} {i : Nat} (h : RvI rows i rs) (hi : rows.length ≤ 2 * i + 1) : rs = rows.reverse := by
  apply List.ext_getElem
  · rw [h.1, List.length_reverse]
  · intro p h1 h2
    have hp : p < rows.length := by rw [← h.1]; exact h1
    have e := h.2 p hp
    rw [List.getD_eq_getElem?_getD, List.getElem?_eq_getElem h1] at e
    simp only [Option.getD_some] at e
    rw [e, List.getElem_reverse]
    split
    · rw [List.getD_eq_getElem?_getD, List.getElem?_eq_getElem (by omega)]
      rfl
    · have hpp : rows.length - 1 - p = p := by omega
      simp only [hpp]
      rw [List.getD_eq_getElem?_getD, List.getElem?_eq_getElem hp]
      rfl
theorem rv_step {rows rs : List (List Value)} {i : Nat} (h : RvI rows i rs) (hi : 2 * i + 1 < rows.length) : RvI rows (i + 1) ((rs.set i (rs.getD (rows.length - 1 - i) [])).set (rows.length - 1 - i) (rs.getD i [])) := by
  have e1 := h.2 i (by omega)
  have e2 := h.2 (rows.length - 1 - i) (by omega)
  rw [if_neg (by omega)] at e1 e2
  refine ⟨by simp [h.1], fun p hp => ?_⟩
  by_cases h1 : p = rows.length - 1 - i
  · subst h1
    rw [set_getD _ _ _ (by simp [h.1]; omega), e1, if_pos (by omega), show rows.length - 1 - (rows.length - 1 - i) = i by omega]
  · rw [List.getD_eq_getElem?_getD, List.getElem?_set_ne (fun e => h1 e.symm), ← List.getD_eq_getElem?_getD]
    by_cases h2 : p = i
    · subst h2
      rw [set_getD _ _ _ (by rw [h.1]; omega), e2, if_pos (by omega)]
    · rw [List.getD_eq_getElem?_getD, List.getElem?_set_ne (fun e => h2 e.symm), ← List.getD_eq_getElem?_getD, h.2 p hp]
      by_cases h3 : p < i ∨ rows.length ≤ p + i
      · rw [if_pos h3, if_pos (by omega)]
      · rw [if_neg h3, if_neg (by omega)]

set_option maxHeartbeats 4000000 in
set_option maxRecDepth 100000 in
theorem w_preverse (g m cap base : Nat) (rows : List (List Value)) (w : World) (o : w.ownsRow base 78 3 (.slice (some ⟨g, 0, none⟩) m cap) m rows.flatten) (hl : rows.length = m) (h2 : ∀ r ∈ rows, ∃ (nm ar : ByteArray) (a : Option Addr) (l c : Nat), r = [.string nm, .slice a l c, .string ar]) (hm : (m : Int) ≤ 1000) :
    Calls Tryd.prog 59 #[.slice (some ⟨g, 0, none⟩) m cap] w fun e w' => e = .returned (.tuple #[]) ∧ w'.ownsRow base 78 3 (.slice (some ⟨g, 0, none⟩) m cap) m rows.reverse.flatten ∧ w.grownBy w' (some g) := by
  have H2 := hid h2
  have O := hid o
  have HL := hid hl
  clear h2 o hl
  go_enter Tryd.func59, Tryd.ntmps59
  go_wp2_with fail
  go_loopw [2, 3] (fun I J wx => ∃ (i : Nat) (rs : List (List Value)), I = .int .i64 i ∧ J = .int .i64 ((m : Int) - 1 - i) ∧ Hid (2 * i ≤ m + 1 ∧ RvI rows i rs) ∧ Hid (∀ r ∈ rs, ∃ (nm ar : ByteArray) (a : Option Addr) (l c : Nat), r = [.string nm, .slice a l c, .string ar]) ∧ Hid (wx.ownsRow base 78 3 (.slice (some ⟨g, 0, none⟩) m cap) m rs.flatten) ∧ Hid (w.grownBy wx (some g))) (fun I _ _ => (m - intOf I).toNat)
  case atStart =>
    refine ⟨0, rows, rfl, ?_, hid ⟨by omega, rfl, fun p hp => ?_⟩, H2, O, hid (gb_refl _ _)⟩
    · congr 1
      omega
    · rw [if_neg (by omega)]
  case round =>
    obtain ⟨i, rs, rfl, rfl, hRv, hsh, hown, hgr⟩ := hrel
    by_cases hlt : (i : Int) < (m : Int) - 1 - i
    · obtain ⟨j, hj⟩ : ∃ j : Nat, (m : Int) - 1 - i = j := ⟨m - 1 - i, by omega⟩
      have hjm : j = m - 1 - i := by omega
      have hjI : (j : Int) < m := by omega
      have hiI : (i : Int) < m := by omega
      have hij : (i : Int) < j := by omega
      have hrl : rs.length = m := by rw [hRv.out.2.1, HL.out]
      obtain ⟨n1, a1, u1, l1, c1, r1⟩ := hsh.out _ (List.getElem_mem (show i < rs.length by omega))
      obtain ⟨n2, a2, u2, l2, c2, r2⟩ := hsh.out _ (List.getElem_mem (show j < rs.length by omega))
      have d1 : rs.getD i [] = [.string n1, .slice u1 l1 c1, .string a1] := by rw [List.getD_eq_getElem?_getD, List.getElem?_eq_getElem (by omega)]; exact r1
      have d2 : rs.getD j [] = [.string n2, .slice u2 l2 c2, .string a2] := by rw [List.getD_eq_getElem?_getD, List.getElem?_eq_getElem (by omega)]; exact r2
      have hlen3 : ∀ r ∈ rs, r.length = 3 := fun r hr => by
        obtain ⟨_, _, _, _, _, e⟩ := hsh.out r hr
        rw [e]
        rfl
      have x1 := idx_step g m cap i (by omega)
      have x2 := idx_step g m cap j (by omega)
      have oo := hown.out
      have ci0 : wr.cell? ⟨g, i * 3 + 0, none⟩ = some (.string n1) := own_cell oo _ _ (by rw [flat_get rs 3 i 0 hlen3 (by omega) (by decide), d1]; rfl)
      have ci1 : wr.cell? ⟨g, i * 3 + 1, none⟩ = some (.slice u1 l1 c1) := own_cell oo _ _ (by rw [flat_get rs 3 i 1 hlen3 (by omega) (by decide), d1]; rfl)
      have ci2 : wr.cell? ⟨g, i * 3 + 2, none⟩ = some (.string a1) := own_cell oo _ _ (by rw [flat_get rs 3 i 2 hlen3 (by omega) (by decide), d1]; rfl)
      have cj0 : wr.cell? ⟨g, j * 3 + 0, none⟩ = some (.string n2) := own_cell oo _ _ (by rw [flat_get rs 3 j 0 hlen3 (by omega) (by decide), d2]; rfl)
      have cj1 : wr.cell? ⟨g, j * 3 + 1, none⟩ = some (.slice u2 l2 c2) := own_cell oo _ _ (by rw [flat_get rs 3 j 1 hlen3 (by omega) (by decide), d2]; rfl)
      have cj2 : wr.cell? ⟨g, j * 3 + 2, none⟩ = some (.string a2) := own_cell oo _ _ (by rw [flat_get rs 3 j 2 hlen3 (by omega) (by decide), d2]; rfl)
      rw [Nat.add_zero] at ci0 cj0
      have fr : ∀ q, wr.frozen? ⟨g, q, none⟩ = false := fun q => oo.frozenAt q
      have z0 := fr (i * 3)
      have y1 : ((wr).setCell ⟨g, i * 3, none⟩ (.string n2)).cell? ⟨g, i * 3 + 1, none⟩ = some (.slice u1 l1 c1) := by
        rw [World.cell?_setCell_other _ _ _ _ (by intro e; simp only [Addr.mk.injEq, true_and, and_true] at e; omega)]
        exact ci1
      have z1 : ((wr).setCell ⟨g, i * 3, none⟩ (.string n2)).frozen? ⟨g, i * 3 + 1, none⟩ = false := by
        have q := (own_setCells [(.string n2)] wr _ (i * 3) oo).1
        exact q.frozenAt _
      have y2 : (((wr).setCell ⟨g, i * 3, none⟩ (.string n2)).setCell ⟨g, i * 3 + 1, none⟩ (.slice u2 l2 c2)).cell? ⟨g, i * 3 + 2, none⟩ = some (.string a1) := by
        rw [World.cell?_setCell_other _ _ _ _ (by intro e; simp only [Addr.mk.injEq, true_and, and_true] at e; omega)]
        rw [World.cell?_setCell_other _ _ _ _ (by intro e; simp only [Addr.mk.injEq, true_and, and_true] at e; omega)]
        exact ci2
      have z2 : (((wr).setCell ⟨g, i * 3, none⟩ (.string n2)).setCell ⟨g, i * 3 + 1, none⟩ (.slice u2 l2 c2)).frozen? ⟨g, i * 3 + 2, none⟩ = false := by
        have q := (own_setCells [(.string n2), (.slice u2 l2 c2)] wr _ (i * 3) oo).1
        exact q.frozenAt _
      have y3 : ((((wr).setCell ⟨g, i * 3, none⟩ (.string n2)).setCell ⟨g, i * 3 + 1, none⟩ (.slice u2 l2 c2)).setCell ⟨g, i * 3 + 2, none⟩ (.string a2)).cell? ⟨g, j * 3, none⟩ = some (.string n2) := by
        rw [World.cell?_setCell_other _ _ _ _ (by intro e; simp only [Addr.mk.injEq, true_and, and_true] at e; omega)]
        rw [World.cell?_setCell_other _ _ _ _ (by intro e; simp only [Addr.mk.injEq, true_and, and_true] at e; omega)]
        rw [World.cell?_setCell_other _ _ _ _ (by intro e; simp only [Addr.mk.injEq, true_and, and_true] at e; omega)]
        exact cj0
      have z3 : ((((wr).setCell ⟨g, i * 3, none⟩ (.string n2)).setCell ⟨g, i * 3 + 1, none⟩ (.slice u2 l2 c2)).setCell ⟨g, i * 3 + 2, none⟩ (.string a2)).frozen? ⟨g, j * 3, none⟩ = false := by
        have q := (own_setCells [(.string n2), (.slice u2 l2 c2), (.string a2)] wr _ (i * 3) oo).1
        exact q.frozenAt _
      have y4 : (((((wr).setCell ⟨g, i * 3, none⟩ (.string n2)).setCell ⟨g, i * 3 + 1, none⟩ (.slice u2 l2 c2)).setCell ⟨g, i * 3 + 2, none⟩ (.string a2)).setCell ⟨g, j * 3, none⟩ (.string n1)).cell? ⟨g, j * 3 + 1, none⟩ = some (.slice u2 l2 c2) := by
        rw [World.cell?_setCell_other _ _ _ _ (by intro e; simp only [Addr.mk.injEq, true_and, and_true] at e; omega)]
        rw [World.cell?_setCell_other _ _ _ _ (by intro e; simp only [Addr.mk.injEq, true_and, and_true] at e; omega)]
        rw [World.cell?_setCell_other _ _ _ _ (by intro e; simp only [Addr.mk.injEq, true_and, and_true] at e; omega)]
        rw [World.cell?_setCell_other _ _ _ _ (by intro e; simp only [Addr.mk.injEq, true_and, and_true] at e; omega)]
        exact cj1
      have z4 : (((((wr).setCell ⟨g, i * 3, none⟩ (.string n2)).setCell ⟨g, i * 3 + 1, none⟩ (.slice u2 l2 c2)).setCell ⟨g, i * 3 + 2, none⟩ (.string a2)).setCell ⟨g, j * 3, none⟩ (.string n1)).frozen? ⟨g, j * 3 + 1, none⟩ = false := by
        have q := (own_setCells [(.string n2), (.slice u2 l2 c2), (.string a2)] wr _ (i * 3) oo).1
        have q2 := (own_setCells [(.string n1)] _ _ (j * 3) q).1
        exact q2.frozenAt _
      have y5 : ((((((wr).setCell ⟨g, i * 3, none⟩ (.string n2)).setCell ⟨g, i * 3 + 1, none⟩ (.slice u2 l2 c2)).setCell ⟨g, i * 3 + 2, none⟩ (.string a2)).setCell ⟨g, j * 3, none⟩ (.string n1)).setCell ⟨g, j * 3 + 1, none⟩ (.slice u1 l1 c1)).cell? ⟨g, j * 3 + 2, none⟩ = some (.string a2) := by
        rw [World.cell?_setCell_other _ _ _ _ (by intro e; simp only [Addr.mk.injEq, true_and, and_true] at e; omega)]
        rw [World.cell?_setCell_other _ _ _ _ (by intro e; simp only [Addr.mk.injEq, true_and, and_true] at e; omega)]
        rw [World.cell?_setCell_other _ _ _ _ (by intro e; simp only [Addr.mk.injEq, true_and, and_true] at e; omega)]
        rw [World.cell?_setCell_other _ _ _ _ (by intro e; simp only [Addr.mk.injEq, true_and, and_true] at e; omega)]
        rw [World.cell?_setCell_other _ _ _ _ (by intro e; simp only [Addr.mk.injEq, true_and, and_true] at e; omega)]
        exact cj2
      have z5 : ((((((wr).setCell ⟨g, i * 3, none⟩ (.string n2)).setCell ⟨g, i * 3 + 1, none⟩ (.slice u2 l2 c2)).setCell ⟨g, i * 3 + 2, none⟩ (.string a2)).setCell ⟨g, j * 3, none⟩ (.string n1)).setCell ⟨g, j * 3 + 1, none⟩ (.slice u1 l1 c1)).frozen? ⟨g, j * 3 + 2, none⟩ = false := by
        have q := (own_setCells [(.string n2), (.slice u2 l2 c2), (.string a2)] wr _ (i * 3) oo).1
        have q2 := (own_setCells [(.string n1), (.slice u1 l1 c1)] _ _ (j * 3) q).1
        exact q2.frozenAt _
      obtain ⟨o3, g3⟩ := own_setCells [(.string n2), (.slice u2 l2 c2), (.string a2)] wr _ (i * 3) oo
      rw [flat_setL rs 3 i _ hlen3 (by omega) rfl] at o3
      obtain ⟨o4, g4⟩ := own_setCells [(.string n1), (.slice u1 l1 c1), (.string a1)] _ _ (j * 3) o3
      have hlen4 : ∀ r ∈ rs.set i [(.string n2), (.slice u2 l2 c2), (.string a2)], r.length = 3 := fun r hr => by
        rcases List.mem_or_eq_of_mem_set hr with hr | rfl
        · exact hlen3 r hr
        · rfl
      rw [flat_setL _ 3 j _ hlen4 (by simp; omega) rfl] at o4
      have GN : Hid (w.grownBy (((((((wr).setCell ⟨g, i * 3, none⟩ (.string n2)).setCell ⟨g, i * 3 + 1, none⟩ (.slice u2 l2 c2)).setCell ⟨g, i * 3 + 2, none⟩ (.string a2)).setCell ⟨g, j * 3, none⟩ (.string n1)).setCell ⟨g, j * 3 + 1, none⟩ (.slice u1 l1 c1)).setCell ⟨g, j * 3 + 2, none⟩ (.string a1)) (some g)) := ⟨g4.os.trans (g3.os.trans hgr.out.os), g4.tape.trans (g3.tape.trans hgr.out.tape), g4.output.trans (g3.output.trans hgr.out.output), Nat.le_trans hgr.out.size (Nat.le_trans g3.size g4.size), fun k hk hne => (g4.block k (Nat.lt_of_lt_of_le hk (Nat.le_trans hgr.out.size g3.size)) hne).trans ((g3.block k (Nat.lt_of_lt_of_le hk hgr.out.size) hne).trans (hgr.out.block k hk hne))⟩
      have ON : Hid ((((((((wr).setCell ⟨g, i * 3, none⟩ (.string n2)).setCell ⟨g, i * 3 + 1, none⟩ (.slice u2 l2 c2)).setCell ⟨g, i * 3 + 2, none⟩ (.string a2)).setCell ⟨g, j * 3, none⟩ (.string n1)).setCell ⟨g, j * 3 + 1, none⟩ (.slice u1 l1 c1)).setCell ⟨g, j * 3 + 2, none⟩ (.string a1)).ownsRow base 78 3 (.slice (some ⟨g, 0, none⟩) m cap) m ((rs.set i [(.string n2), (.slice u2 l2 c2), (.string a2)]).set j [(.string n1), (.slice u1 l1 c1), (.string a1)]).flatten) := o4
      have RN : Hid (2 * (i + 1) ≤ m + 1 ∧ RvI rows (i + 1) ((rs.set i [(.string n2), (.slice u2 l2 c2), (.string a2)]).set j [(.string n1), (.slice u1 l1 c1), (.string a1)])) := by
        have q := rv_step hRv.out.2 (by rw [HL.out]; omega)
        rw [HL.out, ← hjm, d1, d2] at q
        exact ⟨by omega, q⟩
      have SN : Hid (∀ r ∈ (rs.set i [(.string n2), (.slice u2 l2 c2), (.string a2)]).set j [(.string n1), (.slice u1 l1 c1), (.string a1)], ∃ (nm ar : ByteArray) (a : Option Addr) (l c : Nat), r = [.string nm, .slice a l c, .string ar]) := by
        show ∀ r ∈ _, _
        intro r hr
        rcases List.mem_or_eq_of_mem_set hr with hr | rfl
        · rcases List.mem_or_eq_of_mem_set hr with hr | rfl
          · exact hsh.out r hr
          · exact ⟨_, _, _, _, _, rfl⟩
        · exact ⟨_, _, _, _, _, rfl⟩
      rw [hj]
      rw [hj] at hlt
      have HJ := hid hj
      clear hj hjm o3 o4 g3 g4 r1 r2 d1 d2 oo
      go_wp2_with fail
      go_region
      all_goals (
        go_wp2_with fail
        go_roundw
        case rel =>
          have := HJ.out
          refine ⟨i + 1, _, by go_num, ?_, RN, SN, hid (own_kept (T := 5) (Kept.below (below_drewN (Below.refl _ _) 1)) (by decide) ON.out), hid (gb_below GN.out (below_drewN (Below.refl _ _) 1))⟩
          rw [← this]
          go_num
        case measure => simp [intOf]; omega)
    · have hfin : Hid (rs = rows.reverse) := hid (rv_end hRv.out.2 (by rw [HL.out]; omega))
      go_wp2_with fail
      go_end0
      rw [← hfin.out]
      exact ⟨rfl, hown.out, hgr.out⟩

/-
  Package tree's Path.
-/
/-- a step whose unit address lies in an old world -/
def stpW (w0 : World) (_ : World) (cs : List Value) (x : Sp) : Prop := ∃ (nm : ByteArray) (a : Option Addr) (l c : Nat), cs = [.string nm, .slice a l c, .string ⟨#[]⟩] ∧ strOfNums x.1 = nm ∧ x.2.2 = [] ∧ Rd .u32 w0 (.slice a l c) x.2.1
theorem stpW_apt (w0 : World) (T : TypeId) : Apt T (stpW w0) := fun _ _ _ _ _ h => h
theorem stpW_R {w0 w : World} (g : Below w0.heap.size w0 w) (cs : List Value) (x : Sp) (h : stpW w0 w cs x) : stpR w cs x := by
  obtain ⟨nm, a, l, c, rfl, h1, h2, h3⟩ := h
  exact ⟨_, by rw [h1, h2, show strOfNums ([] : List Int) = ⟨#[]⟩ by decide +kernel], h3.below g⟩

set_option maxHeartbeats 1000000 in
theorem w_preverse_nil (w : World) : Calls Tryd.prog 59 #[.slice none 0 0] w fun e w' => e = .returned (.tuple #[]) ∧ w' = w := by
  go_enter Tryd.func59, Tryd.ntmps59
  go_wp2_with fail
  go_rounds 1
  go_end0
  exact ⟨rfl, rfl⟩
/-- steps of the call's own, reversed -/
theorem w_preverseS (v : Value) (xs : List Sp) (base : Nat) (w0 w : World) (h : OwnR 78 3 (stpW w0) base w v xs) (hb : Below w0.heap.size w0 w) (hbase : base = w0.heap.size) (hm : (xs.length : Int) ≤ 1000) :
    Calls Tryd.prog 59 #[v] w fun e w' => e = .returned (.tuple #[]) ∧ SlR 3 stpR w' v xs.reverse ∧ Below w0.heap.size w0 w' := by
  obtain ⟨rows, h1, h2, h3, h4⟩ := h
  have hsh : ∀ r ∈ rows, ∃ (nm ar : ByteArray) (a : Option Addr) (l c : Nat), r = [.string nm, .slice a l c, .string ar] := by
    intro r hr
    obtain ⟨i, hi, rfl⟩ := List.getElem_of_mem hr
    obtain ⟨nm, a, l, c, e, -⟩ := h4 i (by omega)
    rw [List.getD_eq_getElem?_getD, List.getElem?_eq_getElem hi] at e
    exact ⟨nm, ⟨#[]⟩, a, l, c, e⟩
  rcases h3.2 with ⟨hv, hn⟩ | ⟨g, cap, cur, hv, hg, _⟩
  · have hx : xs = [] := List.eq_nil_of_length_eq_zero hn
    subst hx
    subst hv
    refine (w_preverse_nil w).mono ?_
    rintro e w' ⟨rfl, rfl⟩
    exact ⟨rfl, SlR.nil, hb⟩
  · subst hv
    refine (w_preverse g xs.length cap base rows w h3 h1 hsh hm).mono ?_
    rintro e w' ⟨rfl, o, gr⟩
    have hb2 : Below w0.heap.size w0 w' := below_grown hb gr (fun k hk => by cases hk; rw [← hbase]; exact hg)
    refine ⟨rfl, ?_, hb2⟩
    have hR : OwnR 78 3 (stpW w0) base w' (.slice (some ⟨g, 0, none⟩) xs.length cap) xs.reverse := by
      refine ⟨rows.reverse, by simp [h1], fun r hr => h2 r (by simpa using hr), by simpa using o, fun i hi => ?_⟩
      have hi2 : i < xs.length := by simpa using hi
      rw [List.getD_eq_getElem?_getD, List.getElem?_reverse (by omega), List.getElem_reverse, ← List.getD_eq_getElem?_getD, h1]
      exact h4 (xs.length - 1 - i) (by omega)
    exact hR.read (by decide) (stpW_R hb2)

set_option maxHeartbeats 4000000 in
set_option maxRecDepth 100000 in
theorem w_p8path' (v : Value) (t : List Nd) (n : Int) (w : World) (h : RdT w v t) (bt : ∀ x ∈ t, bytN x) (ls : ∀ x ∈ t, lenN x) (ct : ∀ x ∈ t, cells x.2.1) (hT : Tab w) :
    Calls Tryd.prog 33 #[v, .int .i64 n] w fun e w' => e = .returned (.tuple #[.string (strOfNums (pthF t n).1), .int .i64 (pthF t n).2]) ∧ Below w.heap.size w w' := by
  have cw := w_pdevice v t n w h bt ls
  obtain ⟨i0, hi0, hz0, hz1, hz2⟩ := info_parts infoStp8
  by_cases hw : wrgF t n = 0
  · obtain ⟨hf, n0, n1⟩ := wrg_ok hw
    obtain ⟨k, rfl⟩ : ∃ k : Nat, n = k := ⟨n.toNat, by omega⟩
    have hk : k < t.length := by simpa using n1
    have e : pthF t k = shpF (stF t k k) := by unfold pthF; rw [if_neg (by simp [hw])]; rfl
    have hok := st_ok hf k hk
    have hlen := st_len hf k hk
    obtain ⟨hl32, -⟩ := frm_siz hf
    rw [e]
    rw [hw] at cw
    have hbx : ∀ x ∈ stF t k k, bytesL x.1 ∧ bytesL x.2.2 := fun x hx => by
      obtain ⟨_, y, hy, h1, h2, h3⟩ := hok x hx
      rw [h1, h3]
      exact ⟨(bt y hy).1, fun c hc => by simp at hc⟩
    have hcx : ∀ x ∈ stF t k k, cells x.2.1 := fun x hx => by
      obtain ⟨_, y, hy, h1, h2, h3⟩ := hok x hx
      rw [h2]
      exact ct y hy
    have hsz : ∀ x ∈ stF t k k, x.1.length ≤ 31 ∧ x.2.1.length ≤ 4 ∧ x.2.2.length ≤ 0 := fun x hx => by
      obtain ⟨ho, y, hy, h1, h2, h3⟩ := hok x hx
      obtain ⟨o1, o2, o3⟩ := ok_parts ho
      exact ⟨nm_len o1, o2, by rw [h3]; simp⟩
    have hz : (shpT (stF t k k)).length ≤ 100000000000 := by
      have h1 := shp_wt (stF t k k) hcx
      have h2 := wtS_le (stF t k k) hsz
      omega
    have csh := fun w' v1 (g : SlR 3 stpR w' v1 (stF t k k)) hT' => w_pshow7 v1 (stF t k k) w' g hbx hcx hz (fun x hx => by have := hsz x hx; omega) hT'
    obtain ⟨A, E, hAE⟩ : ∃ A E, shpF (stF t k k) = (A, E) := ⟨_, _, rfl⟩
    simp only [hAE] at csh ⊢
    obtain ⟨S, hS⟩ : ∃ S, stF t k k = S := ⟨_, rfl⟩
    rw [hS] at hlen
    simp only [hS] at csh
    have HS := hid hS
    have HF := hid hf
    have CSH := hid csh
    have hSl : (S.length : Int) ≤ 32 := by omega
    clear hAE e hok hlen hbx hcx hsz hz hS hw hf csh
    go_enter Tryd.func33, Tryd.ntmps33
    go_wp2_with (go_at_call 48; refine cw.mono ?_; rintro e w1 ⟨rfl, b1⟩)
    go_loopw [1, 7] (fun I U wx => ∃ (m : Nat) (xs : List Sp), m < t.length ∧ I = .int .i64 m ∧ Hid (S = stF t m m ++ xs.reverse) ∧ OwnR 78 3 (stpW w) w.heap.size wx U xs ∧ Below w.heap.size w wx) (fun I _ _ => (intOf I).toNat)
    case atStart => exact ⟨k, [], hk, rfl, hid (by rw [HS.out]; simp), OwnR.nil _ _ _ _ _, b1⟩
    case round =>
      clear b1 cw
      obtain ⟨m, xs, hm, rfl, hin, ho, hb⟩ := hrel
      have hxl : xs.length ≤ 32 := by
        have := congrArg List.length hin.out
        rw [List.length_append, List.length_reverse] at this
        omega
      by_cases h0 : m = 0
      · subst h0
        have e : S = xs.reverse := by rw [hin.out, st_root]; simp
        have cr := w_preverseS _ xs w.heap.size w wr ho hb rfl (by omega)
        rw [← e] at cr
        clear e
        go_wp2_with (first
          | (go_at_call 59; refine cr.mono ?_; rintro e w2 ⟨rfl, r2, b2⟩)
          | (go_at_call 60; refine (CSH.out _ _ r2 (hT.below b2)).mono ?_; rintro e w3 ⟨rfl, b3⟩))
        go_ret2
        exact ⟨rfl, below_trans b2 b3⟩
      · have hm0 : ((m : Int) != 0) = true := by simp; exact h0
        obtain ⟨b1, o1, nm, u1, p1, c1, r1, f0, f1, f2, f3, f4, e1, hu1, hp1, hc1⟩ := nod_at h m hm
        obtain ⟨ua, uq, rfl⟩ := rd_slice hu1
        obtain ⟨q1, q2, q3, q4, -⟩ := frm_at HF.out hm h0
        have hst := st_step HF.out hm h0
        obtain ⟨P, hP⟩ : ∃ P : Nat, t[m].2.2.1 = P := ⟨t[m].2.2.1.toNat, by omega⟩
        rw [hP] at f2 q3 q4 hst
        rw [Int.toNat_natCast] at hst
        have hin2 : Hid (S = stF t P P ++ (xs ++ [(t[m].1, t[m].2.1, [])]).reverse) := by
          show _ = _
          rw [hin.out, hst]
          simp
        have HC : Hid (∀ W, Below w.heap.size w W → W.cell? ⟨b1, o1, none⟩ = some (.string nm) ∧ W.cell? ⟨b1, o1 + 1, none⟩ = some (.slice ua t[m].2.1.length uq)) := fun W g => ⟨below_cell g f0, below_cell g f1⟩
        have H2 := hid f2
        have hbd : Hid (Below w.heap.size w wr.drew) := below_drewN hb 1
        have HO := hid ho
        have hx : stpW w (wr.drew.alloc (.cells #[.string nm, .slice ua t[m].2.1.length uq, .string ⟨#[]⟩] 78)) [Value.string nm, .slice ua t[m].2.1.length uq, .string ⟨#[]⟩] (t[m].1, t[m].2.1, []) := ⟨nm, ua, _, uq, rfl, e1, rfl, hu1⟩
        have HX := hid hx
        clear hst hp1 hc1 f0 f1 f2 f3 f4 hx hP ho
        go_wp2_with fail
        refine wp_region_held_drew (S := fun W => W.cell? ⟨b1, o1, none⟩ = some (.string nm) ∧ W.cell? ⟨b1, o1 + 1, none⟩ = some (.slice ua t[m].2.1.length uq)) (by kernel_rfl) (HC.out _ hbd.out) (fun hHeld => ?_)
        refine wpAnyH_take (i := 0) (v := ?v1) rfl (by kernel_rfl) (by kernel_rfl) (by kernel_rfl) (fun _ _ _ h => h) (Or.inl ⟨by rfl, ?h1⟩) (by assumption) ?r1
        case h1 => intro W hSw; (try dsimp only at hSw); obtain ⟨s0, s1⟩ := hSw; go_simp; try with_reducible rfl
        simp only [Act.put, List.setIfInBounds_toArray, List.set_cons_zero, List.set_cons_succ]
        refine wpAnyH_take (i := 1) (v := ?v2) rfl (by kernel_rfl) (by kernel_rfl) (by kernel_rfl) (fun _ _ _ h => h) (Or.inl ⟨by rfl, ?h2⟩) (by assumption) ?r2
        case h2 => intro W hSw; (try dsimp only at hSw); obtain ⟨s0, s1⟩ := hSw; go_simp; try with_reducible rfl
        simp only [Act.put, List.setIfInBounds_toArray, List.set_cons_zero, List.set_cons_succ]
        refine wpAnyH_take (i := 2) (v := ?v3) rfl (by kernel_rfl) (by kernel_rfl) (by kernel_rfl) (fun _ _ _ h => h) (Or.inl ⟨by rfl, ?h3⟩) (by assumption) ?r3
        case h3 => intro W hSw; (try dsimp only at hSw); obtain ⟨s0, s1⟩ := hSw; go_simp; try with_reducible rfl
        simp only [Act.put, List.setIfInBounds_toArray, List.set_cons_zero, List.set_cons_succ]
        refine wpAnyH_take (i := 3) (v := ?v4) rfl (by kernel_rfl) (by kernel_rfl) (by kernel_rfl) (fun _ _ _ h => h) (Or.inl ⟨by rfl, ?h4⟩) (by assumption) ?r4
        case h4 => intro W hSw; (try dsimp only at hSw); obtain ⟨s0, s1⟩ := hSw; go_simp; try with_reducible rfl
        simp only [Act.put, List.setIfInBounds_toArray, List.set_cons_zero, List.set_cons_succ]
        refine wpAnyH_take (i := 4) (v := ?v5) rfl (by kernel_rfl) (by kernel_rfl) (by kernel_rfl) (fun _ _ _ h => h) (Or.inl ⟨by rfl, ?h5⟩) (by assumption) ?r5
        case h5 => intro W hSw; (try dsimp only at hSw); obtain ⟨s0, s1⟩ := hSw; go_simp; try with_reducible rfl
        simp only [Act.put, List.setIfInBounds_toArray, List.set_cons_zero, List.set_cons_succ]
        refine wpAnyH_take (i := 5) (v := ?v6) rfl (by kernel_rfl) (by kernel_rfl) (by kernel_rfl) (fun _ _ _ h => h) (Or.inl ⟨by rfl, ?h6⟩) (by assumption) ?r6
        case h6 => intro W hSw; (try dsimp only at hSw); obtain ⟨s0, s1⟩ := hSw; go_simp; try with_reducible rfl
        simp only [Act.put, List.setIfInBounds_toArray, List.set_cons_zero, List.set_cons_succ]
        refine wpAnyH_take (i := 6) (v := ?v7) rfl (by kernel_rfl) (by kernel_rfl) (by kernel_rfl) (fun _ _ _ h => h) (Or.inl ⟨by rfl, ?h7⟩) (by assumption) ?r7
        case h7 => intro W hSw; (try dsimp only at hSw); obtain ⟨s0, s1⟩ := hSw; go_simp; try with_reducible rfl
        simp only [Act.put, List.setIfInBounds_toArray, List.set_cons_zero, List.set_cons_succ]
        refine wpAnyH_take (i := 7) (v := ?v8) rfl (by kernel_rfl) (by kernel_rfl) (by kernel_rfl) (fun _ _ _ h => h) (Or.inl ⟨by rfl, ?h8⟩) (by assumption) ?r8
        case h8 => intro W hSw; (try dsimp only at hSw); obtain ⟨s0, s1⟩ := hSw; go_simp; try with_reducible rfl
        simp only [Act.put, List.setIfInBounds_toArray, List.set_cons_zero, List.set_cons_succ]
        refine wpAnyH_take (i := 8) (v := ?v9) rfl (by kernel_rfl) (by kernel_rfl) (by kernel_rfl) (fun _ _ _ h => h) (Or.inl ⟨by rfl, ?h9⟩) (by assumption) ?r9
        case h9 => intro W hSw; (try dsimp only at hSw); obtain ⟨s0, s1⟩ := hSw; go_simp; try with_reducible rfl
        simp only [Act.put, List.setIfInBounds_toArray, List.set_cons_zero, List.set_cons_succ]
        refine wpAnyH_take (i := 9) (v := ?v10) rfl (by kernel_rfl) (by kernel_rfl) (by kernel_rfl) (fun _ _ _ h => h) (Or.inl ⟨by rfl, ?h10⟩) (by assumption) ?r10
        case h10 => intro W hSw; (try dsimp only at hSw); obtain ⟨s0, s1⟩ := hSw; go_simp; try with_reducible rfl
        simp only [Act.put, List.setIfInBounds_toArray, List.set_cons_zero, List.set_cons_succ]
        refine wpAnyH_take (i := 10) (v := ?v11) rfl (by kernel_rfl) (by kernel_rfl) (by kernel_rfl) (fun _ _ _ h => h) (Or.inl ⟨by rfl, ?h11⟩) (by assumption) ?r11
        case h11 => intro W hSw; (try dsimp only at hSw); obtain ⟨s0, s1⟩ := hSw; go_simp; try with_reducible rfl
        simp only [Act.put, List.setIfInBounds_toArray, List.set_cons_zero, List.set_cons_succ]
        refine wpAnyH_take (i := 11) (v := ?v12) rfl (by kernel_rfl) (by kernel_rfl) (by kernel_rfl) (fun _ _ _ h => h) (Or.inl ⟨by rfl, ?h12⟩) (by assumption) ?r12
        case h12 => intro W hSw; (try dsimp only at hSw); obtain ⟨s0, s1⟩ := hSw; go_simp; try with_reducible rfl
        simp only [Act.put, List.setIfInBounds_toArray, List.set_cons_zero, List.set_cons_succ]
        refine wpAnyH_ready (rs := [12]) (by kernel_rfl) (by simp) ?_
        refine AllReadyH.cons rfl (fun K hK => ?_) AllReadyH.nil
        go_simp
        refine hK.out _ _ (HC.out _ (hbd.out.alloc hbd.out.size _)) (fun hHeld => ?_)
        clear hK K
        have BX : Below w.heap.size w (wr.drew.alloc (.cells #[.string nm, .slice ua t[m].2.1.length uq, .string ⟨#[]⟩] 78)) := hbd.out.alloc hbd.out.size _
        have BR : Below wr.heap.size wr (wr.drew.alloc (.cells #[.string nm, .slice ua t[m].2.1.length uq, .string ⟨#[]⟩] 78)) := (below_drewN (Below.refl _ wr) 1).alloc (below_drewN (Below.refl _ wr) 1).size _
        obtain ⟨rows, k1, k2, k3, k4⟩ := OwnR.below HO.out BR (fun _ _ q => q)
        refine wpAnyH_ready (rs := [13]) (by kernel_rfl) (by simp) ?_
        refine AllReadyH.cons rfl (fun K hK => ?_) AllReadyH.nil
        refine step_append_rows rfl _ _ 48 rfl w.heap.size 78 i0 _ 3 56 Tryd.underlying48 hi0 hz0 hz1 hz2 rfl (by decide) _ xs.length _ rfl k3 _ [[Value.string nm, .slice ua t[m].2.1.length uq, .string ⟨#[]⟩]] rfl (slc_one wr.drew [Value.string nm, .slice ua t[m].2.1.length uq, .string ⟨#[]⟩] 78 3 rfl) (fun r hr => by rw [List.mem_singleton] at hr; subst hr; exact one3 _ _ _ _ _) (by unfold maxLen; simp only [List.length_singleton]; omega) (by simp only [List.length_singleton]; omega) BX.size ?_
        intro v9 w9 ho9 hg9
        have oT9 := hid (OwnR.snoc (stpW_apt w 78) k1 k2 k3 k4 rfl HX.out (by simpa using ho9) hg9)
        have b9 : Hid (Below w.heap.size w w9) := below_grown BX hg9 (fun k hk => (k3.lt k hk).1)
        refine hK.out _ _ (HC.out _ b9.out) (fun hHeld => ?_)
        clear hK K
        clear k1 k2 k3 k4 ho9 hg9 BX BR
        refine wpAnyH_ready (rs := [14]) (by kernel_rfl) (by simp) ?_
        refine AllReadyH.cons rfl (fun K hK => ?_) AllReadyH.nil
        go_simp
        refine hK.out _ _ (HC.out _ b9.out) (fun hHeld => ?_)
        clear hK K
        refine wpAnyH_done (by kernel_rfl) ?_ _
        have l9 := below_cell b9.out H2.out
        go_wp2_with fail
        go_roundw
        case rel => exact ⟨P, _, by omega, rfl, hin2, oT9.out, b9.out⟩
        case measure => simp [intOf]; omega
  · have e : pthF t n = ([], wrgF t n) := by unfold pthF; rw [if_pos hw]
    rw [e]
    obtain ⟨W, hW⟩ : ∃ W, wrgF t n = W := ⟨_, rfl⟩
    rw [hW] at cw hw
    simp only [hW]
    have hwb : (W != 0) = true := by simpa using hw
    have es : strOfNums ([] : List Int) = ⟨#[]⟩ := by decide +kernel
    rw [es]
    clear hW hw e es
    go_enter Tryd.func33, Tryd.ntmps33
    go_wp2_with (go_at_call 48; refine cw.mono ?_; rintro e w1 ⟨rfl, b1⟩)
    go_ret2
    exact ⟨rfl, b1⟩

/-
  Package tree's calls, as the laws take them.
-/
theorem w_p8new (w : World) (hT : Tab w) : Calls Tryd.prog 14 #[] w fun e w' => ∃ v, e = .returned v ∧ RdT w' v [([], [], -1, [], [])] ∧ Below w.heap.size w w' := w_p8new' w

theorem w_p8formed (v : Value) (t : List Nd) (w : World) (hT : Tab w) (h : RdT w v t) (g : goodT t) :
    Calls Tryd.prog 10 #[v] w fun e w' => e = .returned (.bool (frmT t)) ∧ Below w.heap.size w w' := w_p8formed' v t w h g.byt g.len

theorem w_p8copy (v : Value) (t : List Nd) (w : World) (hT : Tab w) (h : RdT w v t) (g : goodT t) (hz : t.length * 96 ≤ 140737488351232) :
    Calls Tryd.prog 13 #[v] w fun e w' => ∃ v1, e = .returned v1 ∧ RdT w' v1 t ∧ Below w.heap.size w w' := by
  refine (w_p8copyS v t w h (by omega) g.siz).mono ?_
  rintro e w' ⟨v1, rfl, o, b⟩
  exact ⟨v1, rfl, ownT8_read o.own, b⟩

theorem w_p8add (v : Value) (t : List Nd) (p : Int) (s : ByteArray) (vu : Value) (un : List Int) (w : World) (hT : Tab w) (h : RdT w v t) (g : goodT t) (hz : t.length * 96 ≤ 140737488351232) (hp : (Lit.int .i64 p).wf = true) (hs : s.size ≤ maxLen) (hu : Rd .u32 w vu un) (cu : cells un) :
    Calls Tryd.prog 17 #[v, .int .i64 p, .string s, vu] w fun e w' => ∃ v1, e = .returned (.tuple #[v1, .int .i64 (addF t p (L s) un).2.1, .int .i64 (addF t p (L s) un).2.2]) ∧ RdT w' v1 (addF t p (L s) un).1 ∧ Below w.heap.size w w' := w_p8add' v t p s vu un w h hu g.byt g.len hs

theorem w_p8set (v : Value) (t : List Nd) (n : Int) (s : ByteArray) (vd : Value) (d : List Int) (w : World) (hT : Tab w) (h : RdT w v t) (g : goodT t) (hz : t.length * 96 ≤ 140737488351232) (hn : (Lit.int .i64 n).wf = true) (hs : s.size ≤ maxLen) (hd : Rd .u8 w vd d) (bd : bytesL d) :
    Calls Tryd.prog 19 #[v, .int .i64 n, .string s, vd] w fun e w' => ∃ v1, e = .returned (.tuple #[v1, .int .i64 (setF t n (L s) d).2]) ∧ RdT w' v1 (setF t n (L s) d).1 ∧ Below w.heap.size w w' := w_p8set' v t n s vd d w h hd g.byt g.len hs

theorem w_p8drop (v : Value) (t : List Nd) (n : Int) (s : ByteArray) (w : World) (hT : Tab w) (h : RdT w v t) (g : goodT t) (hz : t.length * 96 ≤ 140737488351232) (hn : (Lit.int .i64 n).wf = true) (hs : s.size ≤ maxLen) :
    Calls Tryd.prog 21 #[v, .int .i64 n, .string s] w fun e w' => ∃ v1, e = .returned (.tuple #[v1, .int .i64 (drpF t n (L s)).2]) ∧ RdT w' v1 (drpF t n (L s)).1 ∧ Below w.heap.size w w' := w_p8drop' v t n s w h g.byt g.len

theorem w_p8get (v : Value) (t : List Nd) (n : Int) (s : ByteArray) (w : World) (hT : Tab w) (h : RdT w v t) (g : goodT t) (hz : t.length * 96 ≤ 140737488351232) (hn : (Lit.int .i64 n).wf = true) (hs : s.size ≤ maxLen) :
    Calls Tryd.prog 23 #[v, .int .i64 n, .string s] w fun e w' => ∃ v1, e = .returned (.tuple #[v1, .int .i64 (getF t n (L s)).2]) ∧ Rd .u8 w' v1 (getF t n (L s)).1 ∧ Below w.heap.size w w' := w_p8get' v t n s w h g.byt g.len

theorem w_p8next (v : Value) (t : List Nd) (n : Int) (s : ByteArray) (w : World) (hT : Tab w) (h : RdT w v t) (g : goodT t) (hz : t.length * 96 ≤ 140737488351232) (hn : (Lit.int .i64 n).wf = true) (hs : s.size ≤ maxLen) :
    Calls Tryd.prog 25 #[v, .int .i64 n, .string s] w fun e w' => e = .returned (.tuple #[.string (strOfNums (nxtF t n (L s)).1), .int .i64 (nxtF t n (L s)).2]) ∧ Below w.heap.size w w' := w_p8next' v t n s w h g.byt g.len

theorem w_p8children (v : Value) (t : List Nd) (n : Int) (w : World) (hT : Tab w) (h : RdT w v t) (g : goodT t) (hz : t.length * 96 ≤ 140737488351232) (hn : (Lit.int .i64 n).wf = true) :
    Calls Tryd.prog 29 #[v, .int .i64 n] w fun e w' => ∃ v1, e = .returned v1 ∧ Rd .i64 w' v1 (chiF t n) ∧ Below w.heap.size w w' := w_p8children' v t n w h (by omega)

theorem w_p8find (v vl : Value) (t : List Nd) (l : List Sp) (w : World) (hT : Tab w) (h : RdT w v t) (g : goodT t) (hz : t.length * 96 ≤ 140737488351232) (hl : SlR 3 stpR w vl l) (bl : ∀ x ∈ l, bytesL x.1 ∧ bytesL x.2.2) :
    Calls Tryd.prog 31 #[v, vl] w fun e w' => e = .returned (.tuple #[.int .i64 (finT t l).1, .int .i64 (finT t l).2]) ∧ Below w.heap.size w w' := w_p8find' v vl t l w h hl g.byt g.len bl

theorem w_p8path (v : Value) (t : List Nd) (n : Int) (w : World) (hT : Tab w) (h : RdT w v t) (g : goodT t) (hz : t.length * 96 ≤ 140737488351232) (hn : (Lit.int .i64 n).wf = true) :
    Calls Tryd.prog 33 #[v, .int .i64 n] w fun e w' => e = .returned (.tuple #[.string (strOfNums (pthF t n).1), .int .i64 (pthF t n).2]) ∧ Below w.heap.size w w' := w_p8path' v t n w h g.byt g.len g.cel hT

/-
  The fixed fact of layer 8's statements: alive returns true, out of the calls' plain functions; and what its walks share.
-/
theorem wrapI (n : Int) (h0 : 0 ≤ n) (h1 : n < 4611686018427387904) : IntKind.i64.wrap n = n := by
  simp [IntKind.wrap, IntKind.bits, IntKind.signed]
  omega
theorem L_size (s : ByteArray) : (L s).length = s.size := LB_len s
theorem L_inj {a b : ByteArray} (h : L a = L b) : a = b := by
  have h1 := nums_LB a
  have h2 := nums_LB b
  rw [← h1, ← h2]
  exact congrArg strOfNums h
theorem drp_size (t : List Nd) (n : Int) (nm : List Int) : (drpF t n nm).1.length ≤ t.length := by
  unfold drpF
  split
  · simp
  · split
    · simp
    · simp only [put_len]
      omega
/-- a case in a box -/
theorem cas_cells {q : World} {b : Nat} {ct cd : Value} {n : Int} {s : ByteArray} {T : TypeId} (h : Stands q b #[ct, .int .i64 n, .string s, cd] T) :
    q.cell? ⟨b, 0, none⟩ = some ct ∧ q.cell? ⟨b, 1, none⟩ = some (.int .i64 n) ∧ q.cell? ⟨b, 2, none⟩ = some (.string s) ∧ q.cell? ⟨b, 3, none⟩ = some cd :=
  ⟨h.cell 0 _ rfl, h.cell 1 _ rfl, h.cell 2 _ rfl, h.cell 3 _ rfl⟩
theorem al_add1 : addF [([], [], -1, [], [])] 0 (L ⟨#[112, 99, 105]⟩) [31] = ([([], [], -1, [], []), ([112, 99, 105], [31], 0, [], [])], 1, 0) := by kernel_rfl
theorem al_add2 : addF [([], [], -1, [], []), ([112, 99, 105], [31], 0, [], [])] 1 (L ⟨#[100, 105, 115, 107]⟩) [] = ([([], [], -1, [], []), ([112, 99, 105], [31], 0, [], []), ([100, 105, 115, 107], [], 1, [], [])], 2, 0) := by kernel_rfl
theorem al_pth : pthF [([], [], -1, [], []), ([112, 99, 105], [31], 0, [], []), ([100, 105, 115, 107], [], 1, [], [])] 2 = ([47, 112, 99, 105, 64, 49, 102, 47, 100, 105, 115, 107], 0) := by decide +kernel
theorem al_txt : strOfNums [47, 112, 99, 105, 64, 49, 102, 47, 100, 105, 115, 107] = ⟨#[47, 112, 99, 105, 64, 49, 102, 47, 100, 105, 115, 107]⟩ := by decide +kernel
theorem al_g1 : goodT [([], [], -1, [], []), ([112, 99, 105], [31], 0, [], [])] := by
  have h := add_goodT (t := [([], [], -1, [], [])]) (p := 0) (nm := L ⟨#[112, 99, 105]⟩) (un := [31]) root_good (LB_bytes _) (by decide) (by intro n hn; simp at hn; omega)
  rw [al_add1] at h
  exact h
theorem al_g2 : goodT [([], [], -1, [], []), ([112, 99, 105], [31], 0, [], []), ([100, 105, 115, 107], [], 1, [], [])] := by
  have h := add_goodT (t := [([], [], -1, [], []), ([112, 99, 105], [31], 0, [], [])]) (p := 1) (nm := L ⟨#[100, 105, 115, 107]⟩) (un := []) al_g1 (LB_bytes _) (by decide) (by intro n hn; simp at hn)
  rw [al_add2] at h
  exact h

set_option maxHeartbeats 1000000 in
set_option maxRecDepth 100000 in
theorem w_alive8 (w : World) (hT : Tab w) : Calls Tryd.prog 9 #[] w fun e w' => e = .returned (.bool true) ∧ Below w.heap.size w w' := by
  have c1 := fun v w hT h vu hu => w_p8add v [([], [], -1, [], [])] 0 ⟨#[112, 99, 105]⟩ vu [31] w hT h root_good (by simp) (by decide) (by decide) hu (by intro n hn; simp at hn; omega)
  have c2 := fun v w hT h => w_p8add v [([], [], -1, [], []), ([112, 99, 105], [31], 0, [], [])] 1 ⟨#[100, 105, 115, 107]⟩ (.slice none 0 0) [] w hT h al_g1 (by simp) (by decide) (by decide) Rd_nil (by intro n hn; simp at hn)
  have c3 := fun v w hT h => w_p8path v [([], [], -1, [], []), ([112, 99, 105], [31], 0, [], []), ([100, 105, 115, 107], [], 1, [], [])] 2 w hT h al_g2 (by simp) (by decide)
  simp only [al_add1, al_add2, al_pth, al_txt] at c1 c2 c3
  go_enter Tryd.func9, Tryd.ntmps9
  go_wp2_with (first
    | (go_at_call 14; refine (w_p8new _ hT).mono ?_; rintro e w1 ⟨v1, rfl, r1, b1⟩; have bx := box_below w1 (.cells #[.int .u32 31] 58))
    | (go_at_call_of 17 v1; refine (c1 v1 _ ((hT.below b1).below bx) (r1.below bx) _ (rd_one w1 31 58)).mono ?_; rintro e w2 ⟨v2, rfl, r2, b2⟩)
    | (go_at_call_of 17 v2; refine (c2 v2 _ (((hT.below b1).below bx).below b2) r2).mono ?_; rintro e w3 ⟨v3, rfl, r3, b3⟩)
    | (go_at_call 33; refine (c3 v3 _ ((((hT.below b1).below bx).below b2).below b3) r3).mono ?_; rintro e w4 ⟨rfl, b4⟩))
  go_ret
  exact ⟨by simp, below_trans (below_trans (below_trans (below_trans b1 bx) b2) b3) b4⟩

/-
  Two rows of devices that read alike are the same, for the document's answer.
-/
theorem w_r8eq (va vb : Value) (t : List Nd) (w : World) (ha : RdT w va t) (hb : RdT w vb t) (g : goodT t) :
    Calls Tryd.prog 12 #[va, vb] w fun e w' => e = .returned (.bool true) ∧ Below w.heap.size w w' := by
  have := w_r8same va vb t t w ha hb g.byt g.byt
  rw [eqT_of rfl] at this
  exact this

end Go.Proofs.YtkdaimagdmbnfaaDoor
