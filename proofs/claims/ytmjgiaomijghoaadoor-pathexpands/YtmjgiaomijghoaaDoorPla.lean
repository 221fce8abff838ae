/-
  strings.IndexAny of a slash or a colon: a text of more than eight bytes.
-/
import Derived.Test.YtmjgiaomijghoaaDoorPlc
import Derived.Test.YtmjgiaomijghoaaDoorSd
import Derived.Lib.AsciiSet
import Derived.Lib.IndexAny
import Derived.Laws.ResultCell
import Derived.Deep.LoopGhost
import Derived.Deep.WholeRow
namespace Go.Proofs.YtmjgiaomijghoaaDoor
open Go.ChangeShapes Go.WideShapes Go.ChangeAt Go.RowKit
set_option linter.unusedVariables false
set_option linter.unusedSimpArgs false

set_option maxHeartbeats 1000000 in
set_option maxRecDepth 100000 in
theorem w_suas (n : Int) (w : World) : Calls Tryd.prog 48 #[.int .i64 n] w fun e w' => e = .returned (.bool (decide (8 < n))) ∧ w' = w := by
  go_enter Tryd.func48, Tryd.ntmps48
  go_wp2
  go_ret
  exact ⟨rfl, rfl⟩

set_option maxHeartbeats 2000000 in
set_option maxRecDepth 1000000 in
theorem w_asc (b : Nat) (x : UInt8) (v : Bool) (w : World) (hc : w.cell? ⟨b, x.toNat, none⟩ = some (.bool v)) :
    Calls Tryd.prog 50 #[.pointer (some ⟨b, 0, none⟩), .int .u8 x.toNat] w fun e w' => e = .returned (.bool v) ∧ w' = w := by
  have hx256 : (x.toNat : Int) < 256 := by have := UInt8.toNat_lt x; omega
  go_enter Tryd.func50, Tryd.ntmps50
  go_wp2
  go_ret
  exact ⟨rfl, rfl⟩

theorem infoSet : (Tryd.prog.info? 77).map (·.size) = some 256 := by kernel_rfl

set_option maxHeartbeats 4000000 in
set_option maxRecDepth 1000000 in
theorem w_mkset (w : World) :
    Calls Tryd.prog 49 #[.string ⟨#[47, 58]⟩] w fun e w' => e = .returned (.tuple #[.agg (Lib.setCells [47, 58]), .bool true]) ∧ w' = w.alloc (.cells (Lib.setCells [47, 58]) 77) := by
  go_enter Tryd.func49, Tryd.ntmps49
  go_wp2
  rw [show Tryd.zeroCells77 = Lib.setCells [] by kernel_rfl]
  go_loopg [4] 2 (fun g s4 wx => ∃ i : Nat, i + g = 2 ∧ s4 = .int .i64 i ∧ wx = w.alloc (.cells (Lib.setCells (([47, 58] : List UInt8).take i)) 77))
  case atStart => exact ⟨0, by omega, rfl, rfl⟩
  case round =>
    obtain ⟨i, hig, rfl, rfl⟩ := hrel
    cases gk with
    | zero =>
      obtain rfl : i = 2 := by omega
      rw [show ([47, 58] : List UInt8).take 2 = [47, 58] from rfl]
      have hld := run_loadVar_new (P := Tryd.prog) w 77 (Lib.setCells [47, 58]) 256 4 Tryd.underlying77 (by rw [Lib.setCells_size]; exact infoSet)
      have hsz := Lib.setCells_size [47, 58]
      have hset : (Tryd.prog.info? 77).map (·.size) = some (Lib.setCells [47, 58]).size := by rw [hsz]; exact infoSet
      have hg := heap_alloc_last w (.cells (Lib.setCells [47, 58]) 77)
      have hone := Lib.setCells_one [47, 58]
      obtain ⟨X, hX⟩ : ∃ X, Lib.setCells [47, 58] = X := ⟨_, rfl⟩
      rw [hX] at hld hsz hset hg hone ⊢
      have HX := hid hX
      clear hX
      go_wp2
      refine wp_load_row 77 _ rfl w.heap.size rfl _ X (0, 0) _ hg Tryd.underlying77 rfl hset ?_
      have hsc := run_storeCells_new (P := Tryd.prog) w 77 X X hset rfl hone
      go_wp2
      (try simp only [Exit.inBlock, Exit.then])
      refine bodyPost_ret (v := .tuple #[.agg X, .bool true]) ?_ rfl ⟨by rw [HX.out], by rw [HX.out]⟩
      rw [results_cell_tmp rfl]
      simp [asAddr, Result.andThen, hld]
    | succ g =>
      have hi : i = 0 ∨ i = 1 := by omega
      rcases hi with rfl | rfl
      · have hcell := Lib.setCells_at [] 47
        go_wp2
        go_roundg g
        case measure => omega
        case rel => exact ⟨1, by omega, by first | rfl | simp, rfl⟩
      · have hcell := Lib.setCells_at [47] 58
        go_wp2
        go_roundg g
        case measure => omega
        case rel => exact ⟨2, by omega, by first | rfl | simp, rfl⟩
end Go.Proofs.YtmjgiaomijghoaaDoor
