/-
  Do of the document's answer returns the plain list, in new memory, for all words and lists.
-/
import Derived.Test.YtefiohepglggdaaDoorRpo
import Derived.Test.YtefiohepglggdaaDoorPst
namespace Go.Proofs.YtefiohepglggdaaDoor
open Go.ChangeShapes Go.WideShapes Go.ChangeAt Go.RowKit
set_option linter.unusedVariables false
set_option linter.unusedSimpArgs false

theorem ret_is {k : IntKind} {a b : Int} {s t : ByteArray} (h : a = b) (g : s = t) : Ending.returned (.tuple #[.int k a, .string s]) = .returned (.tuple #[.int k b, .string t]) := by rw [h, g]
set_option maxHeartbeats 400000 in
theorem w_reff (op : Int) (w : World) : Calls Tryd.prog 19 #[.int .i64 op] w fun e w' => e = .returned (.tuple #[.int .i64 (effT op), .string (effS op)]) ∧ w' = w := by
  cases ht : isT op
  · obtain ⟨e1, e2⟩ := eff_none op ht
    rw [e1, e2]
    have h70 : (op == 70) = false := by unfold isT at ht; simp at ht; simp; omega
    have h71 : (op == 71) = false := by unfold isT at ht; simp at ht; simp; omega
    have h72 : (op == 72) = false := by unfold isT at ht; simp at ht; simp; omega
    have h73 : (op == 73) = false := by unfold isT at ht; simp at ht; simp; omega
    have h74 : (op == 74) = false := by unfold isT at ht; simp at ht; simp; omega
    have h75 : (op == 75) = false := by unfold isT at ht; simp at ht; simp; omega
    have h76 : (op == 76) = false := by unfold isT at ht; simp at ht; simp; omega
    have h77 : (op == 77) = false := by unfold isT at ht; simp at ht; simp; omega
    have h82 : (op == 82) = false := by unfold isT at ht; simp at ht; simp; omega
    have h83 : (op == 83) = false := by unfold isT at ht; simp at ht; simp; omega
    have h84 : (op == 84) = false := by unfold isT at ht; simp at ht; simp; omega
    have h85 : (op == 85) = false := by unfold isT at ht; simp at ht; simp; omega
    have h86 : (op == 86) = false := by unfold isT at ht; simp at ht; simp; omega
    clear e1 e2 ht
    go_enter Tryd.func19, Tryd.ntmps19
    go_wp2
    go_ret2
    exact ⟨rfl, rfl⟩
  · rcases isT_cases op ht with rfl | rfl | rfl | rfl | rfl | rfl | rfl | rfl | rfl | rfl | rfl | rfl | rfl
    all_goals clear ht
    all_goals go_enter Tryd.func19, Tryd.ntmps19
    all_goals go_wp2
    all_goals go_ret2
    all_goals exact ⟨rfl, rfl⟩

/-- one list of the call's own, read by the rest of it -/
def Own (base : Nat) (w : World) (v : Value) (xs : List Int) : Prop := w.ownsRow base 39 1 v xs.length (xs.map (Value.int .u32))

set_option maxHeartbeats 2000000 in
set_option maxRecDepth 100000 in
theorem w_rdoT (v : Value) (xs : List Int) (op : Int) (w : World) (h : Rd .u32 w v xs) (hl : ¬ 64 < xs.length) (ht : isT op = true) :
    Calls Tryd.prog 11 #[.int .i64 op, v] w fun e w' => ∃ v1, e = .returned (.tuple #[v1, .int .i64 (doT xs (effT op) (LB (effS op))).2]) ∧ Rd .u32 w' v1 (doT xs (effT op) (LB (effS op))).1 ∧ Below w.heap.size w w' := by
  have hlen := rd_len h uS (P := Tryd.prog)
  obtain ⟨hlet, hl6, hs0, t1, t6⟩ := eff_letters op ht
  have hls : ((effS op).size : Int) ≤ 6 := by rw [← LB_len]; omega
  obtain ⟨t, hT⟩ : ∃ t, effT op = t := ⟨_, rfl⟩
  obtain ⟨S, hS⟩ : ∃ S, effS op = S := ⟨_, rfl⟩
  have ceff := w_reff op
  rw [hT, hS] at ceff
  rw [hT] at hlet t1 t6 ⊢
  rw [hS] at hlet hl6 hs0 hls ⊢
  clear hT hS ht
  have hlI : (xs.length : Int) ≤ 64 := by omega
  have Hlet := hid hlet
  clear hl hl6 hlet
  have hne : S.toList.isEmpty = false := by
    rw [ByteArray.toList_eq]
    cases hd : S.data.toList with
    | nil => have : S.size = 0 := by rw [← LB_len]; simp [LB, hd]
             omega
    | cons a b => rfl
  clear hs0
  by_cases hu : (xs.length : Int) < t
  · have e : doT xs t (LB S) = ([], 5) := by unfold doT; rw [if_pos hu]
    rw [e]
    clear e
    go_enter Tryd.func11, Tryd.ntmps11
    go_wp2_with (go_at_call 19; refine (ceff _).mono ?_; rintro e w1 ⟨rfl, rfl⟩)
    go_ret2
    exact ⟨_, rfl, Rd_nil, Below.refl _ _⟩
  · obtain ⟨p, hp⟩ : ∃ p : Nat, xs.length - t.toNat = p := ⟨_, rfl⟩
    have hpI : (xs.length : Int) - t = p := by omega
    have e : doT xs t (LB S) = fits (xs.take p ++ pickL xs p (LB S)) := by unfold doT; rw [if_neg hu, hp]
    rw [e]
    clear e
    obtain ⟨va, ra, x1, c1, x2⟩ := rd_cutI h uS zS 0 (p : Int) (by omega) (by omega) (by omega)
    have c1' := c1 rfl
    rw [show ((p : Int) - 0).toNat = p by omega, show (0 : Int).toNat = 0 from rfl, List.drop_zero] at ra
    clear c1 x1 x2
    have htl : Hid ((xs.take p).length = p) := by show _ = _; simp; omega
    have Hp := hid hp
    clear hp
    obtain ⟨i0, hi, hz0, hz1, hz2⟩ := info_parts infoU32
    go_enter Tryd.func11, Tryd.ntmps11
    go_wp2_with (first
      | (go_at_call 19; refine (ceff _).mono ?_; rintro e w1 ⟨rfl, rfl⟩)
      | (at_builtin; refine wpList_append_rd (k := .u32) rfl _ _ 22 rfl w1.heap.size 39 i0 4 Tryd.underlying22 hi hz0 hz1 hz2 (.slice none 0 0) [] rfl (World.ownsRow_nil _ _ _ _) va (xs.take p) rfl ra (by unfold maxLen; simp; omega) (by simp; omega) (Nat.le_refl _) ?_; intro v' w2 hown hgr))
    go_loopw [6, 10] (fun O I wx => ∃ (k : Nat) (ys : List Int), (k : Int) ≤ S.size ∧ I = .int .i64 k ∧ Hid (ys = xs.take p ++ pickL xs p ((LB S).take k)) ∧ (ys.length : Int) ≤ 64 + k ∧ Own w1.heap.size wx O ys ∧ Below w1.heap.size w1 wx) (fun _ I _ => (S.size - intOf I).toNat)
    case atStart => exact ⟨0, xs.take p, by omega, rfl, hid (by simp [pickL]), by simp; omega, hown, below_grown (Below.refl _ _) hgr (fun k hk => by cases hk)⟩
    case round =>
      obtain ⟨k, ys, hk, rfl, hys, hyl, ho, hb⟩ := hrel
      by_cases hlt : (k : Int) < S.size
      · have hks : k < S.size := by omega
        have htk : Hid ((LB S).take (k + 1) = (LB S).take k ++ [(S[k].toNat : Int)]) := LB_take S k hks
        have hc := Hlet.out _ (LB_mem S k hks)
        by_cases hbl : (S[k].toNat : Int) = 32
        · have hbl2 : ((S[k].toNat : Int) != 32) = false := by simp [hbl]
          have hy2 : Hid (ys = xs.take p ++ pickL xs p ((LB S).take (k + 1))) := by show _ = _; rw [htk.out, hbl, pickL_blank]; exact hys.out
          clear hbl hc
          go_wp2_with fail
          go_roundw
          case rel => exact ⟨k + 1, ys, by omega, by go_num, hy2, by omega, ho, hb⟩
          case measure => simp [intOf]; omega
        · have hbl2 : ((S[k].toNat : Int) != 32) = true := by simp [hbl]
          obtain ⟨c, hcc⟩ : ∃ c, (S[k].toNat : Int) = c := ⟨_, rfl⟩
          rw [hcc] at hc hbl hbl2
          have hc2 : 97 ≤ c ∧ c < 97 + t := by omega
          obtain ⟨c0, c1⟩ := hc2
          obtain ⟨ad, hrun, hcell⟩ := rd_idx (h.below hb) uS zS ((p : Int) + (c - 97)) (by omega) (by omega)
          obtain ⟨y, hy⟩ : ∃ y, xs.getD ((p : Int) + (c - 97)).toNat 0 = y := ⟨_, rfl⟩
          rw [hy] at hcell
          have hy2 : Hid (ys ++ [y] = xs.take p ++ pickL xs p ((LB S).take (k + 1))) := by
            show _ = _
            rw [htk.out, hcc, pickL_snoc _ _ _ _ hbl, ← List.append_assoc, ← hys.out, ← hy, show ((p : Int) + (c - 97)).toNat = p + (c - 97).toNat by omega]
          clear hbl hc hy
          have ho2 := World.ownsRow.alloc ho (.cells #[.int .u32 y] 39)
          have hb2 := hb.alloc hb.size (.cells #[.int .u32 y] 39)
          go_wp2_with (at_builtin; refine wpList_append_rd (k := .u32) rfl _ _ 22 rfl w1.heap.size 39 i0 4 Tryd.underlying22 hi hz0 hz1 hz2 _ ys rfl ho2 _ [y] rfl (rd_one _ y 39) (by unfold maxLen; simp; omega) (by simp; omega) hb2.size ?_; intro v3 w3 hown3 hgr3)
          go_roundw
          case rel => exact ⟨k + 1, ys ++ [y], by omega, by go_num, hy2, by simp; omega, hown3, below_grown hb2 hgr3 (fun k hk => (ho2.lt k hk).1)⟩
          case measure => simp [intOf]; omega
      · obtain rfl : k = S.size := by omega
        have htk : (LB S).take S.size = LB S := List.take_of_length_le (by rw [LB_len]; exact Nat.le_refl _)
        rw [htk] at hys
        clear htk
        have olen := rd_len (Rd_own ho).1 uS (P := Tryd.prog)
        by_cases ho64 : (64 : Int) < ys.length
        · have e : Hid (fits (xs.take p ++ pickL xs p (LB S)) = ([], 6)) := by show _ = _; rw [← hys.out]; unfold fits; rw [if_pos (by omega)]
          go_wp2_with fail
          go_ret2
          rw [e.out]
          exact ⟨_, rfl, Rd_nil, hb⟩
        · have e : Hid (fits (xs.take p ++ pickL xs p (LB S)) = (ys, 0)) := by show _ = _; rw [← hys.out]; unfold fits; rw [if_neg (by omega)]
          go_wp2_with fail
          go_ret2
          rw [e.out]
          exact ⟨_, rfl, (Rd_own ho).1, hb⟩
end Go.Proofs.YtefiohepglggdaaDoor
