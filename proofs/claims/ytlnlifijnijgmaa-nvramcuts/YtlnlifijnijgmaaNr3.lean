/-
  Apply and Plan of the document's answer for layer 18.
-/
import Derived.Test.YtlnlifijnijgmaaNbm
namespace Go.Proofs.Ytlnlifijnijgmaa
open Go.ChangeShapes Go.WideShapes Go.ChangeAt Go.RowKit
set_option linter.unusedVariables false
set_option linter.unusedSimpArgs false

theorem apl_take (nv : List Int) (l : List (Int × Int)) (k : Nat) (h : k < l.length) : aplL nv (l.take (k + 1)) = putB (aplL nv (l.take k)) l[k] := by
  rw [List.take_succ_eq_append_getElem h, apl_snoc]

set_option maxHeartbeats 2000000 in
theorem w_rapply18 (v vl : Value) (xs : List Int) (ps : List (Int × Int)) (n : Int) (w : World) (h : Rd .u8 w v xs) (rl : SlR 2 pbR w vl ps) (hz : xs.length ≤ 140737488351232) (n0 : -9223372036854775808 ≤ n) (n1 : n < 9223372036854775808) :
    Calls Try.prog 20 #[v, vl, .int .i64 n] w fun e w' => ∃ v', e = .returned v' ∧ Own8 w.heap.size w' v' (aplF xs ps n) ∧ Below w.heap.size w w' := by
  have cc := w_rcopy v xs w h (by omega)
  have hla := slr_len rl uPb (P := Try.prog)
  have hma := slr_max rl
  unfold maxLen at hma
  have hal := fun l => apl_len l xs
  go_enter Try.func20, Try.ntmps20
  go_wp2_with (go_at_call 12; refine cc.mono ?_; rintro e w1 ⟨vo, rfl, o1, b1⟩)
  go_loopw [8] (fun I wx => ∃ k : Nat, (k : Int) ≤ ps.length ∧ k ≤ n.toNat ∧ I = .int .i64 k ∧ Own8 w.heap.size wx vo (aplL xs (ps.take k)) ∧ Below w.heap.size w wx) (fun I _ => (ps.length - intOf I).toNat)
  case atStart => exact ⟨0, by omega, by omega, rfl, o1, b1⟩
  case round =>
    obtain ⟨k, hk, hkn, rfl, ho, hg⟩ := hrel
    by_cases hlt : (k : Int) < ps.length
    · by_cases hln : (k : Int) < n
      · have hkk : k < ps.length := by omega
        obtain ⟨bb, oo, A, V, ri, e0, e1, hx⟩ := pb_at (rl.below hg pbR_below) k hkk
        have hnx := hid (apl_take xs ps k hkk)
        rw [hx] at hnx
        have hL := hal (ps.take k)
        obtain ⟨M, hM⟩ : ∃ M, aplL xs (ps.take k) = M := ⟨_, rfl⟩
        rw [hM] at ho hnx hL
        have hlo := rd_len (Rd_own ho).1 uB (P := Try.prog)
        have HL := hid hL
        clear hx hM hal hL
        by_cases hA0 : 0 ≤ A
        · by_cases hA1 : A < M.length
          · have hp : putB M (A, V) = M.set A.toNat V := by unfold putB; rw [if_pos ⟨hA0, hA1⟩]
            have bd : Below wr.heap.size wr wr.drew := below_drewN (Below.refl wr.heap.size wr) 1
            have bw : Below w.heap.size w wr.drew := below_drewN hg 1
            have hod : Own8 w.heap.size wr.drew vo M := own_below ho bd
            obtain ⟨ad, i1, i2, i3, i4, i5⟩ := own_set hod uB zB A hA0 hA1
            have i6 := i5 V
            have bs := bw.setCell i4 (.int .u8 V)
            have e0' : wr.drew.cell? ⟨bb, oo, none⟩ = some (.int .i64 A) := e0
            have e1' : wr.drew.cell? ⟨bb, oo + 1, none⟩ = some (.int .u8 V) := e1
            have HN := hid (hnx.out.trans hp)
            clear hnx hp i5
            go_wp2_with fail
            go_region
            all_goals go_wp2_with fail
            all_goals go_roundw
            all_goals first
              | (case rel => exact ⟨k + 1, by omega, by omega, by go_num, by rw [HN.out]; exact i6, bs⟩)
              | skip
            all_goals (case measure => simp [intOf]; omega)
          · have hp : putB M (A, V) = M := by unfold putB; rw [if_neg (by simp; omega)]
            have HN := hid (hnx.out.trans hp)
            clear hnx hp
            go_wp2_with fail
            go_roundw
            case rel => exact ⟨k + 1, by omega, by omega, by go_num, by rw [HN.out]; exact ho, hg⟩
            case measure => simp [intOf]; omega
        · have hp : putB M (A, V) = M := by unfold putB; rw [if_neg (by simp; omega)]
          have HN := hid (hnx.out.trans hp)
          clear hnx hp
          go_wp2_with fail
          go_roundw
          case rel => exact ⟨k + 1, by omega, by omega, by go_num, by rw [HN.out]; exact ho, hg⟩
          case measure => simp [intOf]; omega
      · have he : aplF xs ps n = aplL xs (ps.take k) := by unfold aplF; rw [show n.toNat = k by omega]
        have HE := hid he
        clear he
        go_wp2_with fail
        go_ret
        exact ⟨_, rfl, by rw [HE.out]; exact ho, hg⟩
    · have he : aplF xs ps n = aplL xs (ps.take k) := by unfold aplF; rw [List.take_of_length_le (by omega), List.take_of_length_le (by omega)]
      have HE := hid he
      clear he
      go_wp2_with fail
      go_ret
      exact ⟨_, rfl, by rw [HE.out]; exact ho, hg⟩
end Go.Proofs.Ytlnlifijnijgmaa
