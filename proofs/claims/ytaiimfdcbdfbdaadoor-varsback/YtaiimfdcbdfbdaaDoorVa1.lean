/-
  The table of package vars, and the place of a name in it.
-/
import Derived.Test.YtaiimfdcbdfbdaaDoorVa0
import Derived.Test.YtaiimfdcbdfbdaaDoorStc
import Derived.Deep.MidRow
namespace Go.Proofs.YtaiimfdcbdfbdaaDoor
open Go.ChangeShapes Go.WideShapes Go.ChangeAt Go.RowKit
set_option linter.unusedVariables false
set_option linter.unusedSimpArgs false

/-- a variable's kind as the program numbers it -/
def kdF (k : Nat) : Int := if (vaT k).2.1 = 98 then 0 else if (vaT k).2.1 = 110 then 1 else 2
def rowV (k : Nat) : List Value := [.string (vaT k).1, .int .i64 (kdF k), .string (vaT k).2.2]
def tabV : List Value := (List.range 9).flatMap rowV
/-- the listed variable lies in the world as its text lays it -/
def Tab (w : World) : Prop := ∀ (j : Nat) (v : Value), tabV[j]? = some v → w.cell? ⟨0, j, none⟩ = some v
theorem Tab.below {w w' : World} (h : Tab w) (g : Below w.heap.size w w') : Tab w' := fun j v hv => below_cell g (h j v hv)
theorem tab_size : (Tryd.prog.info? 52).map (·.size) = some tabV.length := by kernel_rfl
theorem tab_ext : ∀ k, k < 9 → tabV.toArray.extract (k * 3) (k * 3 + 3) = (rowV k).toArray := by
  intro k hk
  rcases k with _ | _ | _ | _ | _ | _ | _ | _ | _ | k
  case succ.succ.succ.succ.succ.succ.succ.succ.succ => omega
  all_goals rfl
theorem tab_cells : ∀ k, k < 9 → tabV[k * 3]? = some (.string (vaT k).1) ∧ tabV[k * 3 + 1]? = some (.int .i64 (kdF k)) ∧ tabV[k * 3 + 2]? = some (.string (vaT k).2.2) := by
  intro k hk
  rcases k with _ | _ | _ | _ | _ | _ | _ | _ | _ | k
  case succ.succ.succ.succ.succ.succ.succ.succ.succ => omega
  all_goals exact ⟨rfl, rfl, rfl⟩
theorem tab_idx (k : Nat) (hk : k < 9) (w : World) : (Instr.index 52 (.agg tabV.toArray) (.int .i64 k)).run Tryd.prog w = .ok (.agg #[.string (vaT k).1, .int .i64 (kdF k), .string (vaT k).2.2]) w := by
  have e := tab_ext k hk
  have hagg : (isAgg 51).run Tryd.prog w = .ok true w := by
    unfold isAgg
    rw [Sem.run_bind, run_underlying Tryd.underlying51 w]
    rfl
  have hs := Tryd.sizeOf51 w
  have hk2 : (0 : Int) ≤ k ∧ (k : Int) < ((9 : Nat) : Int) := by omega
  simp only [Instr.index, asIntOf, Sem.run_bind, run_underlying Tryd.underlying52, Sem.run_pure, Result.andThen_ok, if_pos hk2, Int.toNat_natCast, part, hagg, hs, if_true, e, rowV]
theorem kd_bd (k : Nat) : kdF k = 0 ∨ kdF k = 1 ∨ kdF k = 2 := by unfold kdF; split <;> (try split) <;> simp
/-- the three cells of a row of the table -/
theorem tab_at {w : World} (h : Tab w) (k : Nat) (hk : k < 9) : w.cell? ⟨0, k * 3, none⟩ = some (.string (vaT k).1) ∧ w.cell? ⟨0, k * 3 + 1, none⟩ = some (.int .i64 (kdF k)) ∧ w.cell? ⟨0, k * 3 + 2, none⟩ = some (.string (vaT k).2.2) := by
  obtain ⟨h1, h2, h3⟩ := tab_cells k hk
  exact ⟨h _ _ h1, h _ _ h2, h _ _ h3⟩

set_option maxHeartbeats 1000000 in
set_option maxRecDepth 100000 in
theorem w_pasked19 (nm X Y : ByteArray) (K : Int) (B : Nat) (W : World) (hs : W.cell? ⟨B, 0, none⟩ = some (.string nm)) :
    Calls Tryd.prog 41 #[.agg #[.string X, .int .i64 K, .string Y], .pointer (some ⟨B, 0, none⟩)] W fun e w' => e = .returned (.bool (decide (X = nm))) ∧ Below W.heap.size W w' := by
  have hq := str_beq X nm
  have bx := box_below W (.cells #[.string X, .int .i64 K, .string Y] 51)
  have hs2 := below_cell bx hs
  have z0 := (stands_new W #[.string X, .int .i64 K, .string Y] 51).cell 0 _ rfl
  go_enter Tryd.func41, Tryd.ntmps41
  go_wp2_with fail
  go_ret
  exact ⟨rfl, bx⟩

set_option maxHeartbeats 2000000 in
set_option maxRecDepth 100000 in
theorem w_pplace19 (nm : ByteArray) (B : Nat) (w : World) (hT : Tab w) (hs : w.cell? ⟨B, 0, none⟩ = some (.string nm)) :
    Calls Tryd.prog 40 #[.func (.func 41) #[] #[.pointer (some ⟨B, 0, none⟩)]] w fun e w' => e = .returned (.int .i64 (vaF nm)) ∧ Below w.heap.size w w' := by
  have eg : ∀ args w, (callFunc 41 args).run Tryd.prog w = .ok (.enter 41 args) w := enters_of Tryd.func41 (by kernel_rfl) rfl
  have hrng : Hid (w.rangeAt 0 0 tabV) := fun j v hv => by rw [Nat.zero_add]; exact hT j v hv
  have hidx := hid tab_idx
  have hsz := hid tab_size
  obtain ⟨A, hA⟩ : ∃ A, tabV = A := ⟨_, rfl⟩
  rw [hA] at hrng hidx hsz
  clear hT hA
  go_enter Tryd.func40, Tryd.ntmps40
  go_upto_region 1 with (fail)
  go_wp2_with (refine wpList_load_mid rfl 52 (.global 0) rfl 0 0 rfl A _ hrng.out Tryd.underlying52 rfl hsz.out ?_)
  go_loopw [6] (fun I wx => ∃ k : Nat, (k : Int) ≤ 9 ∧ I = .int .i64 k ∧ Hid (∀ j, j < k → ¬ (vaT j).1 = nm) ∧ Below w.heap.size w wx) (fun I _ => (9 - intOf I).toNat)
  case atStart => exact ⟨0, by omega, rfl, hid (fun j hj => by omega), Below.refl _ _⟩
  case round =>
    obtain ⟨k, hk, rfl, hno, hb⟩ := hrel
    by_cases hlt : (k : Int) < 9
    · have hidxk := hidx.out k (by omega)
      have hb2 := hb.alloc hb.size (.cells #[.string (vaT k).1, .int .i64 (kdF k), .string (vaT k).2.2] 51)
      have cA := w_pasked19 nm (vaT k).1 (vaT k).2.2 (kdF k) B _ (below_cell hb2 hs)
      by_cases he : (vaT k).1 = nm
      · have hf := hid (va_hit (show k < 9 by omega) he)
        rw [decide_eq_true he] at cA
        generalize (vaT k).1 = X at *
        generalize (vaT k).2.2 = Y at *
        generalize kdF k = K at *
        clear he
        go_wp2_with (go_at_fn 41; refine cA.mono ?_; rintro e w1 ⟨rfl, b1⟩)
        go_ret
        exact ⟨ret_i hf.out.symm, below_trans hb2 b1⟩
      · have hno2 : Hid (∀ j, j < k + 1 → ¬ (vaT j).1 = nm) := by
          intro j hj
          by_cases e : j = k
          · rw [e]; exact he
          · exact hno.out j (by omega)
        rw [decide_eq_false he] at cA
        clear hno
        generalize hX : (vaT k).1 = X at hidxk hb2 cA he
        generalize hY : (vaT k).2.2 = Y at hidxk hb2 cA
        generalize hK : kdF k = K at hidxk hb2 cA
        clear he hX hY hK
        go_wp2_with (go_at_fn 41; refine cA.mono ?_; rintro e w1 ⟨rfl, b1⟩)
        go_roundw
        case rel => exact ⟨k + 1, by omega, by go_num, hno2, below_trans hb2 b1⟩
        case measure => simp [intOf]; omega
    · have hf := hid (va_miss (fun j hj => hno.out j (by omega)))
      go_wp2_with fail
      go_ret
      exact ⟨ret_i hf.out.symm, hb⟩

set_option maxHeartbeats 1000000 in
set_option maxRecDepth 100000 in
theorem w_pplaceOf19 (nm : ByteArray) (w : World) (hT : Tab w) :
    Calls Tryd.prog 29 #[.string nm] w fun e w' => e = .returned (.int .i64 (vaF nm)) ∧ Below w.heap.size w w' := by
  have bx := box_below w (.cells #[.string nm] 9)
  have hT2 := hT.below bx
  have z0 := box_cell w #[.string nm] 9 0 _ rfl
  have c1 := w_pplace19 nm _ _ hT2 z0
  go_enter Tryd.func29, Tryd.ntmps29
  go_wp2_with (go_at_call 40; refine c1.mono ?_; rintro e w1 ⟨rfl, b1⟩)
  go_ret
  exact ⟨rfl, below_trans bx b1⟩
end Go.Proofs.YtaiimfdcbdfbdaaDoor
