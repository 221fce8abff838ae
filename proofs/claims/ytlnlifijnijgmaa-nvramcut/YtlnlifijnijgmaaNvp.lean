/-
  The landed package nvram: Apply; with it the four contracts that the laws take.
-/
import Derived.Test.YtlnlifijnijgmaaNvj
import Derived.Test.YtlnlifijnijgmaaGen
namespace Go.Proofs.Ytlnlifijnijgmaa
open Go.ChangeShapes Go.WideShapes Go.ChangeAt Go.RowKit
set_option linter.unusedVariables false
set_option linter.unusedSimpArgs false

set_option maxHeartbeats 4000000 in
theorem w_papply18 (v vl : Value) (xs : List Int) (ps : List (Int × Int)) (n : Int) (w : World) (h : Rd .u8 w v xs) (rl : SlR 2 pbR w vl ps) (hz : xs.length ≤ 140737488351232) (n0 : -9223372036854775808 ≤ n) (n1 : n < 9223372036854775808) :
    Calls Try.prog 19 #[v, vl, .int .i64 n] w fun e w' => ∃ v', e = .returned v' ∧ Own8 w.heap.size w' v' (aplF xs ps n) ∧ Below w.heap.size w w' := by
  have cc := w_pclo18 v xs w h (by omega)
  have hla := slr_len rl uPb (P := Try.prog)
  have hma := slr_max rl
  unfold maxLen at hma
  obtain ⟨M1, hM1⟩ : ∃ M1 : Int, (if (ps.length : Int) < n then (ps.length : Int) else n) = M1 := ⟨_, rfl⟩
  obtain ⟨m, hm⟩ : ∃ m : Nat, (if M1 > 0 then M1 else 0) = (m : Int) := by
    split
    · exact ⟨M1.toNat, by omega⟩
    · exact ⟨0, rfl⟩
  have hmin : ∀ (ts : Array TypeId) (t : TypeId) w', (Builtin.min_ ts t #[.int .i64 n, .int .i64 (ps.length : Int)]).run Try.prog w' = .ok (.int .i64 M1) w' := fun ts t w' => by rw [run_min_int2, hM1]
  have hmax : ∀ (ts : Array TypeId) (t : TypeId) w', (Builtin.max_ ts t #[.int .i64 0, .int .i64 M1]).run Try.prog w' = .ok (.int .i64 (m : Int)) w' := fun ts t w' => by rw [run_max_int2, hm]
  have hml : m ≤ ps.length := by
    split at hm <;> split at hM1 <;> omega
  have hap : Hid (aplF xs ps n = aplL xs (ps.take m)) := by
    show _ = _
    unfold aplF
    have : ps.take n.toNat = ps.take m := by
      split at hm <;> split at hM1
      · rw [List.take_of_length_le (by omega), List.take_of_length_le (by omega)]
      · congr 1; omega
      · rw [List.take_of_length_le (by omega), List.take_of_length_le (by omega)]
      · congr 1; omega
    rw [this]
  obtain ⟨vs, sl, rs⟩ := slr_first rl uPb zPb m hml
  obtain ⟨qs, hqs⟩ : ∃ qs, ps.take m = qs := ⟨_, rfl⟩
  have hql : qs.length = m := by rw [← hqs, List.length_take]; omega
  rw [hqs] at rs hap
  have hlq := slr_len rs uPb (P := Try.prog)
  have hal := fun l => apl_len l xs
  clear hM1 hm hqs
  go_enter Try.func19, Try.ntmps19
  go_wp2_with (go_at_call 31; refine cc.mono ?_; rintro e w1 ⟨vo, rfl, o1, b1⟩)
  go_loopw [19] (fun I wx => ∃ k : Nat, (k : Int) ≤ qs.length ∧ I = .int .i64 k ∧ Own8 w.heap.size wx vo (aplL xs (qs.take k)) ∧ Below w.heap.size w wx) (fun I _ => (qs.length - intOf I).toNat)
  case atStart => exact ⟨0, by omega, rfl, o1, b1⟩
  case round =>
    obtain ⟨k, hk, rfl, ho, hg⟩ := hrel
    by_cases hlt : (k : Int) < qs.length
    · have hkk : k < qs.length := by omega
      obtain ⟨bb, oo, A, V, ri, e0, e1, hx⟩ := pb_at (rs.below hg pbR_below) k hkk
      have hnx := hid (apl_take xs qs k hkk)
      rw [hx] at hnx
      have hL := hal (qs.take k)
      obtain ⟨M, hM⟩ : ∃ M, aplL xs (qs.take k) = M := ⟨_, rfl⟩
      rw [hM] at ho hnx hL
      have hlo := rd_len (Rd_own ho).1 uB (P := Try.prog)
      have HL := hid hL
      have bk := box_below wr (.cells #[.int .i64 A, .int .u8 V] 62)
      have bz := hg.alloc hg.size (.cells #[.int .i64 A, .int .u8 V] 62)
      have hod : Own8 w.heap.size (wr.alloc (.cells #[.int .i64 A, .int .u8 V] 62)) vo M := own_below ho bk
      clear hx hM hal hL
      by_cases hA0 : 0 ≤ A
      · by_cases hA1 : A < M.length
        · have hp : putB M (A, V) = M.set A.toNat V := by unfold putB; rw [if_pos ⟨hA0, hA1⟩]
          obtain ⟨ad, i1, i2, i3, i4, i5⟩ := own_set hod uB zB A hA0 hA1
          have i6 := i5 V
          have bs := bz.setCell i4 (.int .u8 V)
          have HN := hid (hnx.out.trans hp)
          clear hnx hp i5
          go_wp2_with fail
          go_roundw
          case rel => exact ⟨k + 1, by omega, by go_num, by rw [HN.out]; exact i6, bs⟩
          case measure => simp [intOf]; omega
        · have hp : putB M (A, V) = M := by unfold putB; rw [if_neg (by simp; omega)]
          have HN := hid (hnx.out.trans hp)
          clear hnx hp
          go_wp2_with fail
          go_roundw
          case rel => exact ⟨k + 1, by omega, by go_num, by rw [HN.out]; exact hod, bz⟩
          case measure => simp [intOf]; omega
      · have hp : putB M (A, V) = M := by unfold putB; rw [if_neg (by simp; omega)]
        have HN := hid (hnx.out.trans hp)
        clear hnx hp
        go_wp2_with fail
        go_roundw
        case rel => exact ⟨k + 1, by omega, by go_num, by rw [HN.out]; exact hod, bz⟩
        case measure => simp [intOf]; omega
    · have he : qs.take k = qs := List.take_of_length_le (by omega)
      rw [he] at ho
      go_wp2_with fail
      go_ret
      rw [hap.out]
      exact ⟨_, rfl, ho, hg⟩
end Go.Proofs.Ytlnlifijnijgmaa
