/-
  The library's Clone at instructions, numbers and what is open; twins of the landed package code.
-/
import Derived.Test.YtfmpeminfcehaaaRk4
import Derived.Lib.SliceRun
namespace Go.Proofs.Ytfmpeminfcehaaa
open Go.ChangeShapes Go.WideShapes Go.ChangeAt Go.RowKit
set_option linter.unusedVariables false
set_option linter.unusedSimpArgs false

set_option maxHeartbeats 1000000 in
theorem w_p10cloneO (v : Value) (rows : List (List Value)) (w : World) (h : SlC 2 w v rows) (h1 : ∀ r ∈ rows, ∀ u ∈ r, u.oneCell' = true) (hb : rows.length * 16 ≤ 140737488355328) :
    Calls Try.prog 35 #[v] w fun e w' => ∃ v', e = .returned v' ∧ w'.ownsRow w.heap.size 37 2 v' rows.length rows.flatten ∧ Below w.heap.size w w' := by
  obtain ⟨i0, hi, hz0, hz1, hz2⟩ := info_parts infoOp10
  obtain ⟨ao, cap, rfl, hc, hn, hx⟩ := h.form
  cases ao with
  | none =>
    have hc0 := hn rfl
    have hl : rows = [] := List.eq_nil_of_length_eq_zero (by omega)
    subst hl
    subst hc0
    show Calls _ _ #[.slice none 0 0] _ _
    have q := Lib.run_eql_slice_nil (P := Try.prog) w 22 37 none 0 0 0 0 Try.underlying22
    go_enter Try.func35, Try.ntmps35
    go_wp2_with fail
    go_ret
    exact ⟨_, rfl, World.ownsRow_nil _ _ _ _, Below.refl _ _⟩
  | some a =>
    have q := Lib.run_eql_slice_nil (P := Try.prog) w 22 37 (some a) rows.length cap 0 0 Try.underlying22
    have ha := h.below (box_below w (.cells #[] 37))
    go_enter Try.func35, Try.ntmps35
    go_wp2_with (at_builtin; refine wpList_append_rows rfl _ _ 22 rfl w.heap.size 37 i0 _ 2 16 Try.underlying22 hi hz0 hz1 hz2 rfl (by decide) _ 0 [] rfl (World.ownsRow_made w #[] 0 (Nat.le_refl _) (Nat.zero_le _) rfl) _ rows rfl ha h1 (by unfold maxLen; omega) (by omega) (by simp) ?_; intro v5 w5 ho5 hg5)
    go_ret
    exact ⟨v5, rfl, by simpa using ho5, below_grown (box_below w _) hg5 (fun k hk => by simp [Value.ownBlock, Act.eval] at hk; omega)⟩

set_option maxHeartbeats 1000000 in
theorem w_p10cloneN (v : Value) (rows : List (List Value)) (w : World) (h : SlC 2 w v rows) (h1 : ∀ r ∈ rows, ∀ u ∈ r, u.oneCell' = true) (hb : rows.length * 32 ≤ 190000000000000) :
    Calls Try.prog 49 #[v] w fun e w' => ∃ v', e = .returned v' ∧ w'.ownsRow w.heap.size 58 2 v' rows.length rows.flatten ∧ Below w.heap.size w w' := by
  obtain ⟨i0, hi, hz0, hz1, hz2⟩ := info_parts infoOn10
  obtain ⟨ao, cap, rfl, hc, hn, hx⟩ := h.form
  cases ao with
  | none =>
    have hc0 := hn rfl
    have hl : rows = [] := List.eq_nil_of_length_eq_zero (by omega)
    subst hl
    subst hc0
    show Calls _ _ #[.slice none 0 0] _ _
    have q := Lib.run_eql_slice_nil (P := Try.prog) w 24 58 none 0 0 0 0 Try.underlying24
    go_enter Try.func49, Try.ntmps49
    go_wp2_with fail
    go_ret
    exact ⟨_, rfl, World.ownsRow_nil _ _ _ _, Below.refl _ _⟩
  | some a =>
    have q := Lib.run_eql_slice_nil (P := Try.prog) w 24 58 (some a) rows.length cap 0 0 Try.underlying24
    have ha := h.below (box_below w (.cells #[] 58))
    go_enter Try.func49, Try.ntmps49
    go_wp2_with (at_builtin; refine wpList_append_rowsB rfl _ _ 24 rfl w.heap.size 58 i0 _ 2 32 Try.underlying24 hi hz0 hz1 hz2 rfl (by decide) _ 0 [] rfl (World.ownsRow_made w #[] 0 (Nat.le_refl _) (Nat.zero_le _) rfl) _ rows rfl ha h1 (by unfold maxLen; omega) (by omega) (by simp) ?_; intro v5 w5 ho5 hg5)
    go_ret
    exact ⟨v5, rfl, by simpa using ho5, below_grown (box_below w _) hg5 (fun k hk => by simp [Value.ownBlock, Act.eval] at hk; omega)⟩

set_option maxHeartbeats 1000000 in
theorem w_p10cloneJ (v : Value) (xs : List Int) (w : World) (h : Rd .i64 w v xs) (hb : xs.length * 8 ≤ 140737488355328) :
    Calls Try.prog 36 #[v] w fun e w' => ∃ v', e = .returned v' ∧ w'.ownsRow w.heap.size 3 1 v' xs.length (xs.map (Value.int .i64)) ∧ Below w.heap.size w w' := by
  obtain ⟨i0, hi, hz0, hz1, hz2⟩ := info_parts infoJ10
  obtain ⟨ao, cap, rfl, hc, hn, hx⟩ := rd_form h
  cases ao with
  | none =>
    have hc0 := hn rfl
    have hl : xs = [] := List.eq_nil_of_length_eq_zero (by omega)
    subst hl
    subst hc0
    show Calls _ _ #[.slice none 0 0] _ _
    have q := Lib.run_eql_slice_nil (P := Try.prog) w 23 3 none 0 0 0 0 Try.underlying23
    go_enter Try.func36, Try.ntmps36
    go_wp2_with fail
    go_ret
    exact ⟨_, rfl, World.ownsRow_nil _ _ _ _, Below.refl _ _⟩
  | some a =>
    have q := Lib.run_eql_slice_nil (P := Try.prog) w 23 3 (some a) xs.length cap 0 0 Try.underlying23
    have ha := h.below (box_below w (.cells #[] 3))
    go_enter Try.func36, Try.ntmps36
    go_wp2_with (at_builtin; refine wpList_append_rd (k := .i64) rfl _ _ 23 rfl w.heap.size 3 i0 8 Try.underlying23 hi hz0 hz1 hz2 _ [] rfl (World.ownsRow_made w #[] 0 (Nat.le_refl _) (Nat.zero_le _) rfl) _ xs rfl ha (by unfold maxLen; simp; omega) (by simp; omega) (by simp) ?_; intro v5 w5 ho5 hg5)
    go_ret
    exact ⟨v5, rfl, by simpa using ho5, below_grown (box_below w _) hg5 (fun k hk => by simp [Value.ownBlock, Act.eval] at hk; omega)⟩

theorem w_p10cloneOps (v : Value) (l : List Opd) (w : World) (h : RdO w v l) (hz : l.length * 16 ≤ 140737488355328) :
    Calls Try.prog 35 #[v] w fun e w' => ∃ v1, e = .returned v1 ∧ OwC w.heap.size w' v1 l ∧ Below w.heap.size w w' := by
  obtain ⟨rows, g1, g2, g3⟩ := h
  obtain ⟨h1, h2⟩ := op_rows10 g2 g3
  refine (w_p10cloneO v rows w g1 h2 (by omega)).mono ?_
  rintro e w' ⟨v1, rfl, o, b⟩
  exact ⟨v1, rfl, ⟨rows, g2, h1, by rw [← g2]; exact o, fun i hi => g3 i hi⟩, b⟩
theorem opn_rows10 {w : World} {l : List Opn} {rows : List (List Value)} (g2 : rows.length = l.length) (g3 : ∀ i (h : i < l.length), opnR w (rows.getD i []) l[i]) : (∀ r ∈ rows, r.length = 2) ∧ ∀ r ∈ rows, ∀ u ∈ r, u.oneCell' = true := by
  have hr : ∀ r ∈ rows, ∃ a b n c, r = [.int .i64 a, .slice b n c] := by
    intro r hr
    obtain ⟨i, hi, rfl⟩ := List.getElem_of_mem hr
    obtain ⟨vo, e, q⟩ := g3 i (by omega)
    obtain ⟨ca, cq, rfl⟩ := rd_slice q
    rw [List.getD_eq_getElem?_getD, List.getElem?_eq_getElem hi] at e
    exact ⟨_, _, _, _, e⟩
  constructor
  · intro r h
    obtain ⟨a, b, n, c, rfl⟩ := hr r h
    rfl
  · intro r h u hu
    obtain ⟨a, b, n, c, rfl⟩ := hr r h
    simp at hu
    rcases hu with rfl | rfl <;> rfl
/-- behind i rounds: the first i rows have branches of the call's own, in blocks apart; the others are as they were laid -/
def TwI (lo : Nat) (v : Value) (l : List Opn) (rows : List (List Value)) (i : Nat) (w : World) : Prop :=
  ∃ rs : List (List Value), rs.length = l.length ∧ (∀ r ∈ rs, r.length = 2) ∧ w.ownsRow lo 58 2 v l.length rs.flatten ∧ (∀ j (h : j < l.length), j < i → opnO lo w (rs.getD j []) l[j]) ∧ (∀ j, i ≤ j → rs.getD j [] = rows.getD j []) ∧
    (∀ j m g, j < m → m < i → m < l.length → ((rs.getD j []).getD 1 (.slice none 0 0)).ownBlock = some g → ((rs.getD m []).getD 1 (.slice none 0 0)).ownBlock ≠ some g) ∧ ∀ j, j < i → j < l.length → LtB ((rs.getD j []).getD 1 (.slice none 0 0)) w.heap.size
theorem TwI.start {lo : Nat} {v : Value} {l : List Opn} {rows : List (List Value)} {w : World} (h1 : rows.length = l.length) (h2 : ∀ r ∈ rows, r.length = 2) (h3 : w.ownsRow lo 58 2 v l.length rows.flatten) : TwI lo v l rows 0 w :=
  ⟨rows, h1, h2, h3, fun j h hj => by omega, fun j _ => rfl, fun j m g _ hm => by omega, fun j hj => by omega⟩
theorem TwI.done {lo : Nat} {v : Value} {l : List Opn} {rows : List (List Value)} {w : World} {i : Nat} (h : TwI lo v l rows i w) (hi : l.length ≤ i) : OwN lo w.heap.size w v l := by
  obtain ⟨rs, h1, h2, h3, h4, h5, h6, h7⟩ := h
  exact ⟨rs, h1, h2, h3, fun j hj => h4 j hj (by omega), fun j m g hjm hm => h6 j m g hjm (by omega) (by omega), own_ltB h3, fun j hj => h7 j (by omega) (by omega)⟩
theorem TwI.own {lo : Nat} {v : Value} {l : List Opn} {rows : List (List Value)} {w : World} {i : Nat} (h : TwI lo v l rows i w) : ∃ cs, w.ownsRow lo 58 2 v l.length cs := by
  obtain ⟨rs, h1, h2, h3, _⟩ := h
  exact ⟨_, h3⟩
theorem TwI.below {lo : Nat} {v : Value} {l : List Opn} {rows : List (List Value)} {w w' : World} {i : Nat} (h : TwI lo v l rows i w) (g : Below w.heap.size w w') : TwI lo v l rows i w' := by
  obtain ⟨rs, h1, h2, h3, h4, h5, h6, h7⟩ := h
  exact ⟨rs, h1, h2, own_belowN h3 g, fun j hj hji => opnO_below g _ _ (h4 j hj hji), h5, h6, fun j hj hl => (h7 j hj hl).le g.size⟩
theorem TwI.cell {lo g cap : Nat} {l : List Opn} {rows : List (List Value)} {w : World} {i : Nat} (h : TwI lo (.slice (some ⟨g, 0, none⟩) l.length cap) l rows i w) (hi : i < l.length) (u : Value) (hu : (rows.getD i [])[1]? = some u) : w.cell? ⟨g, i * 2 + 1, none⟩ = some u ∧ w.frozen? ⟨g, i * 2 + 1, none⟩ = false := by
  obtain ⟨rs, h1, h2, h3, h4, h5, _⟩ := h
  exact ⟨own_cell h3 (i * 2 + 1) u (by rw [flat_get rs 2 i 1 h2 (by omega) (by decide), h5 i (Nat.le_refl _)]; exact hu), h3.frozenAt _⟩
theorem TwI.step {lo g cap : Nat} {l : List Opn} {rows : List (List Value)} {w w1 : World} {i : Nat} (h : TwI lo (.slice (some ⟨g, 0, none⟩) l.length cap) l rows i w) (hi : i < l.length) (b : Below w.heap.size w w1) (hl : lo ≤ w.heap.size) {vo vn : Value} (hr : rows.getD i [] = [.int .i64 l[i].1, vo]) (ho : w1.ownsRow w.heap.size 3 1 vn l[i].2.length (l[i].2.map (Value.int .i64))) :
    TwI lo (.slice (some ⟨g, 0, none⟩) l.length cap) l rows (i + 1) (w1.setCell ⟨g, i * 2 + 1, none⟩ vn) ∧ w1.grownBy (w1.setCell ⟨g, i * 2 + 1, none⟩ vn) (some g) ∧ lo ≤ g := by
  obtain ⟨rs, h1, h2, h3, h4, h5, h6, h7⟩ := h
  have h3' := own_belowN h3 b
  obtain ⟨s1, s2⟩ := h3'.stored (i * 2 + 1) vn
  have k : Kept 58 w1 (w1.setCell ⟨g, i * 2 + 1, none⟩ vn) := Kept.own (v := .slice (some ⟨g, 0, none⟩) l.length cap) h3' s2
  rw [flat_set rs 2 i 1 vn h2 (by omega) (by decide)] at s1
  have hri : rs.getD i [] = [.int .i64 l[i].1, vo] := by rw [h5 i (Nat.le_refl _), hr]
  have hrow : (rs.getD i []).set 1 vn = [.int .i64 l[i].1, vn] := by rw [hri]; rfl
  have hlt := (h3'.lt g rfl).1
  have at_i : (rs.set i ((rs.getD i []).set 1 vn)).getD i [] = [.int .i64 l[i].1, vn] := by rw [List.getD_eq_getElem?_getD, List.getElem?_set_self (by omega), Option.getD_some, hrow]
  have at_o : ∀ m, ¬ m = i → (rs.set i ((rs.getD i []).set 1 vn)).getD m [] = rs.getD m [] := fun m hm => by rw [List.getD_eq_getElem?_getD, List.getElem?_set_ne (fun q => hm q.symm), ← List.getD_eq_getElem?_getD]
  have hvn : ∀ q, vn.ownBlock = some q → w.heap.size ≤ q := fun q hq => (ho.lt q hq).1
  refine ⟨⟨rs.set i ((rs.getD i []).set 1 vn), by simpa using h1, fun r hm => ?_, s1, fun m hm hmi => ?_, fun m hm => ?_, fun j m q hjm hmi hml hq => ?_, fun j hj hjl => ?_⟩, s2, hlt⟩
  · rcases List.mem_or_eq_of_mem_set hm with hm | rfl
    · exact h2 r hm
    · rw [hrow]; rfl
  · by_cases e : m = i
    · subst e
      rw [at_i]
      exact opnO_apt (by decide) _ _ _ _ k ⟨vn, rfl, own_le hl ho⟩
    · rw [at_o m e]
      exact opnO_apt (by decide) _ _ _ _ k (opnO_below b _ _ (h4 m hm (by omega)))
  · rw [at_o m (by omega)]
    exact h5 m (by omega)
  · rw [at_o j (by omega)] at hq
    by_cases e : m = i
    · subst e
      rw [at_i]
      intro e2
      have e3 := hvn q e2
      have e4 := h7 j (by omega) (by omega) q hq
      omega
    · rw [at_o m e]
      exact h6 j m q hjm (by omega) hml hq
  · by_cases e : j = i
    · subst e
      rw [at_i]
      exact (own_ltB ho).le (by simp [World.setCell])
    · rw [at_o j e]
      exact (h7 j (by omega) hjl).le (by have := b.size; simpa [World.setCell] using this)

theorem idx_opnI (g n cap i : Nat) (hi : i < n) : ∀ w', (Instr.indexAt 24 (.slice (some ⟨g, 0, none⟩) n cap) (.int .i64 (i : Int))).run Try.prog w' = .ok (.pointer (some ⟨g, i * 2, none⟩)) w' := by
  intro w'
  rw [run_indexAt_slice (h := uK), if_pos ⟨by omega, by omega⟩, zK]
  simp only [Result.andThen, Int.toNat_natCast]
  congr 3
  unfold Addr.add
  split
  · rename_i hz; rw [hz]
  · simp

set_option maxHeartbeats 4000000 in
set_option maxRecDepth 100000 in
theorem w_p10twins (v : Value) (l : List Opn) (w : World) (h : RdN w v l) (hz : l.length * 32 ≤ 190000000000000) (hs : ∀ x ∈ l, x.2.length * 8 ≤ 140737488355328) :
    Calls Try.prog 37 #[v] w fun e w' => ∃ v1, e = .returned v1 ∧ OwN w.heap.size w'.heap.size w' v1 l ∧ Below w.heap.size w w' := by
  obtain ⟨rows, g1, g2, g3⟩ := h
  obtain ⟨h1, h2⟩ := opn_rows10 g2 g3
  have cN := w_p10cloneN v rows w g1 h2 (by omega)
  have cJ := fun W (b : Below w.heap.size w W) vo xs (r : Rd .i64 w vo xs) hx => w_p10cloneJ vo xs W (r.below b) hx
  have G3 := hid g3
  have HS := hid hs
  have CJ := hid cJ
  have hm : (l.length : Int) < 9223372036854775807 := by omega
  clear g3 hs cJ g1 h2
  go_enter Try.func37, Try.ntmps37
  go_upto_region 2 with (go_at_call 49; refine cN.mono ?_; rintro e W0 ⟨v1, rfl, o1, b1⟩)
  clear cN
  rw [g2] at o1
  have tw := hid (TwI.start g2 h1 o1)
  obtain ⟨ao, cap, rfl⟩ := own_form o1
  have ro : SlR 2 (fun _ _ _ => True) W0 (.slice ao l.length cap) l := by
    have r := slr_rows (R := fun _ _ (_ : List Value) => True) (w := W0) (base := w.heap.size) (e := 58) (n := l.length) (xs := rows) id h1 (by decide) (by simpa [List.flatMap_id] using o1) (fun _ _ => trivial)
    obtain ⟨rs, k1, k2, k3⟩ := r
    exact ⟨rs, k1, by rw [k2, g2], fun _ _ => trivial⟩
  have hla := slr_len ro uK (P := Try.prog)
  clear ro o1
  go_wp2_with fail
  go_loopw [8] (fun I wx => ∃ k : Nat, (k : Int) ≤ l.length ∧ I = .int .i64 k ∧ Hid (TwI w.heap.size (.slice ao l.length cap) l rows k wx) ∧ Below w.heap.size w wx) (fun I _ => (l.length - intOf I).toNat)
  case atStart => exact ⟨0, by omega, rfl, tw, b1⟩
  case round =>
    clear tw b1
    obtain ⟨k, hk, rfl, ht, hg⟩ := hrel
    by_cases hlt : (k : Int) < l.length
    · have hkl : k < l.length := by omega
      obtain ⟨cs, ow⟩ := ht.out.own
      obtain ⟨g, cap', e0⟩ := own_some ow (by omega)
      injection e0 with e1 e2 e3
      subst e1 e3
      obtain ⟨vo, r1, r2⟩ := G3.out k hkl
      have cJ := CJ.out wr hg vo l[k].2 r2 (HS.out _ (List.getElem_mem hkl))
      obtain ⟨f1, f2⟩ := ht.out.cell hkl vo (by rw [r1]; rfl)
      have ix := idx_opnI g l.length cap k hkl
      clear ow e2
      go_wp2_with (go_at_call 36; refine cJ.mono ?_; rintro e w3 ⟨vn, rfl, on, b3⟩; clear cJ; have f3 := below_cell b3 f1; obtain ⟨st1, st2, st3⟩ := ht.out.step hkl b3 hg.size r1 on; obtain ⟨na, nc, rfl⟩ := own_form on; have f4 := ((ht.out.below b3).cell hkl vo (by rw [r1]; rfl)).2; have ST := hid st1; have B9 := below_grown (below_trans hg b3) st2 (fun q hq => by injection hq with hq; omega); clear st1 st2)
      go_roundw
      case rel => exact ⟨k + 1, by omega, by go_num, ST, B9⟩
      case measure => simp [intOf]; omega
    · go_wp2_with fail
      go_ret
      exact ⟨_, rfl, ht.out.done (by omega), hg⟩
end Go.Proofs.Ytfmpeminfcehaaa
