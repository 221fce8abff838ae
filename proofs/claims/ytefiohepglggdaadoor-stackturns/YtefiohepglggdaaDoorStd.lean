/-
  Do of package stack returns the plain list, in new memory, for all words and lists, where the package's table lies as its text lays it.
-/
import Derived.Test.YtefiohepglggdaaDoorSre
import Derived.Deep.MidRow
namespace Go.Proofs.YtefiohepglggdaaDoor
open Go.ChangeShapes Go.WideShapes Go.ChangeAt Go.RowKit
set_option linter.unusedVariables false
set_option linter.unusedSimpArgs false

/-- the table's rows: the word, how many cells it takes, which it leaves -/
def opF (k : Nat) : Int := [70, 71, 72, 73, 74, 75, 76, 77, 82, 83, 84, 85, 86].getD k 0
def tkF (k : Nat) : Int := [1, 1, 2, 2, 3, 3, 2, 2, 2, 2, 4, 4, 6].getD k 0
def lfF (k : Nat) : ByteArray := [⟨#[]⟩, ⟨#[97, 97]⟩, ⟨#[97, 98, 97]⟩, ⟨#[98, 97]⟩, ⟨#[98, 99, 97]⟩, ⟨#[99, 97, 98]⟩, ⟨#[98, 97, 98]⟩, ⟨#[98]⟩, ⟨#[]⟩, ⟨#[97, 98, 97, 98]⟩, ⟨#[97, 98, 99, 100, 97, 98]⟩, ⟨#[99, 100, 97, 98]⟩, ⟨#[99, 100, 101, 102, 97, 98]⟩].getD k ⟨#[]⟩
/-- the table's cells -/
def tabV : List Value := (List.range 13).flatMap fun k => [.int .i64 (opF k), .int .i64 (tkF k), .string (lfF k)]
/-- the table lies in the world as its text lays it -/
def Tab (w : World) : Prop := ∀ j v, tabV[j]? = some v → w.cell? ⟨0, j, none⟩ = some v
theorem Tab.below {w w' : World} (h : Tab w) (g : Below w.heap.size w w') : Tab w' := fun j v hv => below_cell g (h j v hv)

theorem lf_fits : ∀ k, k < 13 → (∀ c ∈ LB (lfF k), 97 ≤ c ∧ c < 97 + tkF k) ∧ ((lfF k).size : Int) ≤ 6 ∧ 1 ≤ tkF k ∧ tkF k ≤ 6 := by decide +kernel
theorem row_isT : ∀ k, k < 13 → isT (opF k) = true := by decide +kernel
theorem row_doT (xs : List Int) : ∀ k, k < 13 → doT xs (tkF k) (LB (lfF k)) = doT xs (effT (opF k)) (LB (effS (opF k))) := by
  intro k hk
  rcases k with _ | _ | _ | _ | _ | _ | _ | _ | _ | _ | _ | _ | _ | k
  case succ.succ.succ.succ.succ.succ.succ.succ.succ.succ.succ.succ.succ => omega
  all_goals rfl
theorem rows_all (op : Int) (h : ∀ j, j < 13 → ¬ opF j = op) : isT op = false := by
  cases hi : isT op
  · rfl
  · exfalso
    rcases isT_cases op hi with rfl | rfl | rfl | rfl | rfl | rfl | rfl | rfl | rfl | rfl | rfl | rfl | rfl
    · exact h 0 (by omega) rfl
    · exact h 1 (by omega) rfl
    · exact h 2 (by omega) rfl
    · exact h 3 (by omega) rfl
    · exact h 4 (by omega) rfl
    · exact h 5 (by omega) rfl
    · exact h 6 (by omega) rfl
    · exact h 7 (by omega) rfl
    · exact h 8 (by omega) rfl
    · exact h 9 (by omega) rfl
    · exact h 10 (by omega) rfl
    · exact h 11 (by omega) rfl
    · exact h 12 (by omega) rfl
theorem last_back (xs : List Int) (h : 0 < xs.length) : xs.take (xs.length - 1) ++ [xs.getD (xs.length - 1) 0] = xs := by
  rw [List.getD_eq_getElem?_getD, List.getElem?_eq_getElem (by omega), Option.getD_some, ← List.take_succ_eq_append_getElem (by omega)]
  exact List.take_of_length_le (by omega)
theorem dupQ0 (xs : List Int) (h : (xs.length : Int) < 1 ∨ ¬ xs.getD (xs.length - 1) 0 = 0) : doQ xs = doT xs 1 (LB ⟨#[97, 97]⟩) := by
  unfold doQ doT
  by_cases h0 : (xs.length : Int) < 1
  · rw [if_pos h0, if_pos h0]
  · have h1 : ¬ xs.getD (xs.length - 1) 0 = 0 := by
      rcases h with h | h
      · exact absurd h h0
      · exact h
    rw [if_neg h0, if_neg h0, if_neg h1]
    have e1 : pickL xs (xs.length - (1 : Int).toNat) (LB ⟨#[97, 97]⟩) = [xs.getD (xs.length - 1) 0, xs.getD (xs.length - 1) 0] := rfl
    rw [e1, show (1 : Int).toNat = 1 from rfl]
    have e2 := last_back xs (by omega)
    have e3 : xs ++ [xs.getD (xs.length - 1) 0] = xs.take (xs.length - 1) ++ [xs.getD (xs.length - 1) 0, xs.getD (xs.length - 1) 0] := by
      calc xs ++ [xs.getD (xs.length - 1) 0] = (xs.take (xs.length - 1) ++ [xs.getD (xs.length - 1) 0]) ++ [xs.getD (xs.length - 1) 0] := by rw [e2]
        _ = _ := by simp
    rw [e3]
theorem dupQ1 (xs : List Int) (h0 : 0 < xs.length) (h : xs.getD (xs.length - 1) 0 = 0) : doQ xs = doT xs 1 (LB ⟨#[97]⟩) := by
  unfold doQ doT
  have hn : ¬ ((xs.length : Int) < 1) := by omega
  rw [if_neg hn, if_neg hn, if_pos h]
  have e1 : pickL xs (xs.length - (1 : Int).toNat) (LB ⟨#[97]⟩) = [xs.getD (xs.length - 1) 0] := rfl
  rw [e1, show (1 : Int).toNat = 1 from rfl, last_back xs h0, List.append_nil]

theorem tab_size : (Tryd.prog.info? 42).map (·.size) = some tabV.length := by kernel_rfl
theorem tab_ext : ∀ k, k < 13 → tabV.toArray.extract (k * 3) (k * 3 + 3) = #[.int .i64 (opF k), .int .i64 (tkF k), .string (lfF k)] := by
  intro k hk
  rcases k with _ | _ | _ | _ | _ | _ | _ | _ | _ | _ | _ | _ | _ | k
  case succ.succ.succ.succ.succ.succ.succ.succ.succ.succ.succ.succ.succ => omega
  all_goals rfl
theorem tab_idx (k : Nat) (hk : k < 13) (w : World) : (Instr.index 42 (.agg tabV.toArray) (.int .i64 k)).run Tryd.prog w = .ok (.agg #[.int .i64 (opF k), .int .i64 (tkF k), .string (lfF k)]) w := by
  have e := tab_ext k hk
  have hagg : (isAgg 41).run Tryd.prog w = .ok true w := by
    unfold isAgg
    rw [Sem.run_bind, run_underlying Tryd.underlying41 w]
    rfl
  have hs := Tryd.sizeOf41 w
  have hk2 : (0 : Int) ≤ k ∧ (k : Int) < ((13 : Nat) : Int) := by omega
  simp only [Instr.index, asIntOf, Sem.run_bind, run_underlying Tryd.underlying42, Sem.run_pure, Result.andThen_ok, if_pos hk2, Int.toNat_natCast, part, hagg, hs, if_true, e]

set_option maxHeartbeats 2000000 in
set_option maxRecDepth 100000 in
/-- the words of the table, and what is no word -/
theorem w_sdoT (v : Value) (xs : List Int) (op : Int) (w : World) (hT : Tab w) (h : Rd .u32 w v xs) (hlI : (xs.length : Int) ≤ 64) (h78 : (op == 78) = false) (h79 : (op == 79) = false) (h80 : (op == 80) = false) (h81 : (op == 81) = false) :
    Calls Tryd.prog 10 #[.int .i64 op, v] w fun e w' => ∃ v1, e = .returned (.tuple #[v1, .int .i64 (doF op xs).2]) ∧ Rd .u32 w' v1 (doF op xs).1 ∧ Below w.heap.size w w' := by
  have hlen := rd_len h uS (P := Tryd.prog)
  have eN : Hid (isT op = false → doF op xs = ([], 2)) := by
    intro hi
    unfold doF
    simp at h78 h79 h80 h81
    rw [if_neg (by omega), if_neg (by rw [hi]; decide), if_neg h80, if_neg h81, if_neg h78, if_neg h79]
  have eT : Hid (∀ k, k < 13 → opF k = op → doF op xs = doT xs (tkF k) (LB (lfF k))) := by
    intro k hk he
    unfold doF
    rw [if_neg (by omega), ← he, if_pos (row_isT k hk), row_doT xs k hk]
  obtain ⟨R, hR⟩ : ∃ R, doF op xs = R := ⟨_, rfl⟩
  rw [hR] at eN eT ⊢
  clear hR
  have hrng : Hid (w.rangeAt 0 0 tabV) := fun j v hv => by rw [Nat.zero_add]; exact hT j v hv
  have hidx := hid tab_idx
  have hsz := hid tab_size
  obtain ⟨A, hA⟩ : ∃ A, tabV = A := ⟨_, rfl⟩
  rw [hA] at hrng hidx hsz
  clear hT hA
  go_enter Tryd.func10, Tryd.ntmps10
  go_upto_region 13 with (fail)
  go_wp2_with (refine wpList_load_mid rfl 42 (.global 0) rfl 0 0 rfl A _ hrng.out Tryd.underlying42 rfl hsz.out ?_)
  go_loopw [53] (fun I wx => ∃ k : Nat, (k : Int) ≤ 13 ∧ I = .int .i64 k ∧ Hid (∀ j, j < k → ¬ opF j = op) ∧ Below w.heap.size w wx) (fun I _ => (13 - intOf I).toNat)
  case atStart => exact ⟨0, by omega, rfl, hid (fun j hj => by omega), Below.refl _ _⟩
  case round =>
    obtain ⟨k, hk, rfl, hno, hb⟩ := hrel
    by_cases hlt : (k : Int) < 13
    · have hidxk := hidx.out k (by omega)
      obtain ⟨hl1, hl2, hl3, hl4⟩ := lf_fits k (by omega)
      have HL1 := hid hl1
      have eTk : Hid (opF k = op → R = doT xs (tkF k) (LB (lfF k))) := eT.out k (by omega)
      obtain ⟨o, ho⟩ : ∃ o, opF k = o := ⟨_, rfl⟩
      obtain ⟨t, ht⟩ : ∃ t, tkF k = t := ⟨_, rfl⟩
      obtain ⟨F, hF⟩ : ∃ F, lfF k = F := ⟨_, rfl⟩
      have hno2 : Hid (¬ o = op → ∀ j, j < k + 1 → ¬ opF j = op) := by
        intro h1 j hj
        rcases Nat.lt_or_ge j k with h2 | h2
        · exact hno.out j h2
        · obtain rfl : j = k := by omega
          rw [ho]; exact h1
      rw [ho, ht, hF] at hidxk eTk
      rw [ht, hF] at HL1
      rw [hF] at hl2
      rw [ht] at hl3 hl4
      clear ho ht hF hl1
      by_cases he : o = op
      · have heb : (o == op) = true := beq_iff_eq.2 he
        have eR : Hid (R = doT xs t (LB F)) := eTk.out he
        clear he eTk
        have hb2 := hb.alloc hb.size (.cells #[.int .i64 o, .int .i64 t, .string F] 41)
        have ct := w_turn v xs t F _ (h.below hb2) hlI HL1.out hl2 hl3 hl4
        rw [← eR.out] at ct
        go_wp2_with (go_at_call 18; refine ct.mono ?_; rintro e w2 ⟨v2, rfl, r2, b2⟩)
        go_ret2
        exact ⟨v2, rfl, r2, hb2.trans (b2.mono hb2.size)⟩
      · have heb : (o == op) = false := beq_eq_false_iff_ne.2 he
        have hno3 := hid (hno2.out he)
        clear he eTk
        go_wp2_with fail
        go_roundw
        case rel => exact ⟨k + 1, by omega, by go_num, hno3, hb.alloc hb.size _⟩
        case measure => simp [intOf]; omega
    · have hk13 : k = 13 := by omega
      have eR : Hid (R = ([], 2)) := eN.out (rows_all op (fun j hj => hno.out j (by omega)))
      clear hk13
      go_wp2_with fail
      go_ret2
      rw [eR.out]
      exact ⟨_, rfl, Rd_nil, hb⟩

theorem lb_a : ∀ c ∈ LB ⟨#[97]⟩, 97 ≤ c ∧ c < 97 + 1 := by decide +kernel
theorem lb_aa : ∀ c ∈ LB ⟨#[97, 97]⟩, 97 ≤ c ∧ c < 97 + 1 := by decide +kernel
set_option maxHeartbeats 2000000 in
set_option maxRecDepth 100000 in
theorem w_sdo (v : Value) (xs : List Int) (op : Int) (w : World) (hT : Tab w) (h : Rd .u32 w v xs) (hX : ∀ x ∈ xs, 0 ≤ x ∧ x < 4294967296) :
    Calls Tryd.prog 10 #[.int .i64 op, v] w fun e w' => ∃ v1, e = .returned (.tuple #[v1, .int .i64 (doF op xs).2]) ∧ Rd .u32 w' v1 (doF op xs).1 ∧ Below w.heap.size w w' := by
  have hlen := rd_len h uS (P := Tryd.prog)
  by_cases hl : (64 : Int) < xs.length
  · have e : doF op xs = ([], 1) := by unfold doF; rw [if_pos (by omega)]
    rw [e]
    clear e
    go_enter Tryd.func10, Tryd.ntmps10
    go_wp2_with fail
    go_ret2
    exact ⟨_, rfl, Rd_nil, Below.refl _ _⟩
  have hlI : (xs.length : Int) ≤ 64 := by omega
  have hnl : ¬ 64 < xs.length := by omega
  by_cases h78 : op = 78
  · subst h78
    have e : doF 78 xs = doP xs := by unfold doF; rw [if_neg hnl]; rfl
    rw [e]
    clear e hnl hl
    have cr : Calls Tryd.prog 17 #[.int .i64 78, v] w fun e w' => ∃ v1, e = .returned (.tuple #[v1, .int .i64 (doP xs).2]) ∧ Rd .u32 w' v1 (doP xs).1 ∧ Below w.heap.size w w' := by
      by_cases hf : far xs = true
      · have e : doP xs = ([], 5) := by unfold doP; rw [if_pos hf]
        rw [e]
        exact w_reach_far 78 v xs w h hX hlI hf
      · exact w_reach_pick v xs w h hX hlI hf
    go_enter Tryd.func10, Tryd.ntmps10
    go_wp2_with (go_at_call 17; refine cr.mono ?_; rintro e w2 ⟨v2, rfl, r2, b2⟩)
    go_ret2
    exact ⟨v2, rfl, r2, b2⟩
  by_cases h79 : op = 79
  · subst h79
    have e : doF 79 xs = doR xs := by unfold doF; rw [if_neg hnl]; rfl
    rw [e]
    clear e hnl hl
    have cr : Calls Tryd.prog 17 #[.int .i64 79, v] w fun e w' => ∃ v1, e = .returned (.tuple #[v1, .int .i64 (doR xs).2]) ∧ Rd .u32 w' v1 (doR xs).1 ∧ Below w.heap.size w w' := by
      by_cases hf : far xs = true
      · have e : doR xs = ([], 5) := by unfold doR; rw [if_pos hf]
        rw [e]
        exact w_reach_far 79 v xs w h hX hlI hf
      · exact w_reach_roll v xs w h hX hlI hf
    go_enter Tryd.func10, Tryd.ntmps10
    go_wp2_with (go_at_call 17; refine cr.mono ?_; rintro e w2 ⟨v2, rfl, r2, b2⟩)
    go_ret2
    exact ⟨v2, rfl, r2, b2⟩
  by_cases h80 : op = 80
  · subst h80
    have e : doF 80 xs = doQ xs := by unfold doF; rw [if_neg hnl]; rfl
    rw [e]
    clear e hnl hl
    by_cases h0 : (xs.length : Int) < 1
    · have e := dupQ0 xs (Or.inl h0)
      rw [e]
      clear e
      have ct := w_turn v xs 1 ⟨#[97, 97]⟩ w h hlI lb_aa (by decide) (by omega) (by omega)
      have h00 : ¬ ((0 : Int) < xs.length) := by omega
      go_enter Tryd.func10, Tryd.ntmps10
      go_wp2_with (go_at_call 18; refine ct.mono ?_; rintro e w2 ⟨v2, rfl, r2, b2⟩)
      go_ret2
      exact ⟨v2, rfl, r2, b2⟩
    · obtain ⟨ad, hrun, hcell⟩ := rd_idx h uS zS ((xs.length : Int) - 1) (by omega) (by omega)
      rw [show ((xs.length : Int) - 1).toNat = xs.length - 1 by omega] at hcell
      by_cases hz : xs.getD (xs.length - 1) 0 = 0
      · have e := dupQ1 xs (by omega) hz
        rw [e]
        clear e
        rw [hz] at hcell
        clear hz
        have ct := w_turn v xs 1 ⟨#[97]⟩ w h hlI lb_a (by decide) (by omega) (by omega)
        have h00 : (0 : Int) < xs.length := by omega
        go_enter Tryd.func10, Tryd.ntmps10
        go_wp2_with (go_at_call 18; refine ct.mono ?_; rintro e w2 ⟨v2, rfl, r2, b2⟩)
        go_ret2
        exact ⟨v2, rfl, r2, b2⟩
      · have e := dupQ0 xs (Or.inr hz)
        rw [e]
        clear e
        have hzb : (xs.getD (xs.length - 1) 0 == 0) = false := beq_eq_false_iff_ne.2 hz
        obtain ⟨T, hTT⟩ : ∃ T, xs.getD (xs.length - 1) 0 = T := ⟨_, rfl⟩
        rw [hTT] at hcell hzb
        clear hz hTT
        have ct := w_turn v xs 1 ⟨#[97, 97]⟩ w h hlI lb_aa (by decide) (by omega) (by omega)
        have h00 : (0 : Int) < xs.length := by omega
        go_enter Tryd.func10, Tryd.ntmps10
        go_wp2_with (go_at_call 18; refine ct.mono ?_; rintro e w2 ⟨v2, rfl, r2, b2⟩)
        go_ret2
        exact ⟨v2, rfl, r2, b2⟩
  by_cases h81 : op = 81
  · subst h81
    have e : doF 81 xs = pushF xs [(xs.length : Int)] := by rw [← fits_push]; unfold doF; rw [if_neg hnl]; rfl
    rw [e]
    clear e hnl hl
    obtain ⟨L, hL⟩ : ∃ L : Int, (xs.length : Int) = L := ⟨_, rfl⟩
    have hw : IntKind.u32.wrap L = L := by rw [IntKind.wrap_u32]; omega
    have b0 := (Below.refl w.heap.size w).alloc (Nat.le_refl _) (.cells #[.int .u32 L] 39)
    have cp := w_spush v _ xs [L] _ (h.below b0) (rd_one w L 39) (by omega) (by simp)
    rw [hL] at hlen ⊢
    have L0 : 0 ≤ L := by omega
    have L1 : L ≤ 64 := by omega
    clear hL
    go_enter Tryd.func10, Tryd.ntmps10
    go_wp2_with (go_at_call 13; refine cp.mono ?_; rintro e w2 ⟨v2, rfl, r2, b2⟩)
    go_ret2
    exact ⟨v2, rfl, r2, below_trans b0 b2⟩
  exact w_sdoT v xs op w hT h hlI (beq_eq_false_iff_ne.2 h78) (beq_eq_false_iff_ne.2 h79) (beq_eq_false_iff_ne.2 h80) (beq_eq_false_iff_ne.2 h81)
end Go.Proofs.YtefiohepglggdaaDoor
