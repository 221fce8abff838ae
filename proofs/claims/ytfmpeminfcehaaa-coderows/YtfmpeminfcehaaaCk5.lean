/-
  What every act of the landed package code is made of: the newest of a list, an instruction laid, branches led here.
-/
import Derived.Test.YtfmpeminfcehaaaCk4
import Derived.Test.YtfmpeminfcehaaaOdm
import Derived.Deep.RegionLaw
import Derived.BigQuiet
import Derived.OwnWalk
namespace Go.Proofs.Ytfmpeminfcehaaa
open Go.ChangeShapes Go.WideShapes Go.ChangeAt Go.RowKit
set_option linter.unusedVariables false
set_option linter.unusedSimpArgs false

theorem Out.all {lo hi : Nat} {w w' : World} (h : Out 0 0 w w') : Out lo hi w w' := ⟨h.1, fun k cur T fr e t o => h.2 k cur T fr e t (Or.inr (Nat.zero_le _))⟩
theorem stands_out {w w' : World} {b : Nat} {cs : Array Value} {T : TypeId} (h : Stands w b cs T) (u : Out 0 0 w w') (ht : T = 3 ∨ T = 58) : Stands w' b cs T := by
  unfold Stands at h ⊢
  rw [u.2 b _ _ _ h ht (Or.inr (Nat.zero_le _))]
  exact h
theorem own_out {w w' : World} {base : Nat} {e : TypeId} {sz : Nat} {v : Value} {n : Nat} {cs : List Value} (o : w.ownsRow base e sz v n cs) (u : Out 0 0 w w') (he : e = 3 ∨ e = 58) : w'.ownsRow base e sz v n cs := own_outT o he (fun k _ => Or.inr (Nat.zero_le _)) u
theorem own_lit (w : World) (xs : List Int) (T : TypeId) (hm : xs.length ≤ maxLen) : (w.alloc (.cells (xs.map (Value.int .i64)).toArray T)).ownsRow w.heap.size T 1 (.slice (some ⟨w.heap.size, 0, none⟩) xs.length xs.length) xs.length (xs.map (Value.int .i64)) :=
  ⟨by simp, .inr ⟨w.heap.size, xs.length, _, rfl, Nat.le_refl _, heap_alloc_new w _, Nat.le_refl _, hm, by simp, by simp [List.take_of_length_le]⟩⟩
theorem below_base {base : Nat} {w w' : World} (h : Below w.heap.size w w') (hb : base ≤ w.heap.size) : Below base w w' := h.mono hb
theorem bset {base : Nat} {w w' : World} (h : Below base w w') (g j : Nat) (u : Value) (hg : base ≤ g) : Below base w (w'.setCell ⟨g, j, none⟩ u) := by
  refine ⟨h.os, h.tape, h.output, by simpa [World.setCell] using h.size, fun k hk => ?_⟩
  rw [← h.block k hk]
  exact Below.heap_setCell _ _ _ k (fun e => by have e2 : k = g := e; omega)
theorem bgrown {base : Nat} {a b c : World} {row : Option Nat} (h : Below base a b) (g : b.grownBy c row) (hb : base ≤ b.heap.size) (hr : ∀ k, row = some k → base ≤ k) : Below base a c := h.grown g hb hr
theorem btrans {base : Nat} {a b c : World} (h : Below base a b) (g : Below base b c) : Below base a c := h.trans g

set_option maxHeartbeats 1000000 in
theorem w_newJ0 (v : Value) (w : World) (h : Rd .i64 w v []) :
    Calls Try.prog 50 #[v] w fun e w' => e = .returned (.tuple #[.int .i64 0, .slice none 0 0, .int .i64 13]) ∧ w' = w := by
  have hla := rd_len h uJ (P := Try.prog)
  clear h
  go_enter Try.func50, Try.ntmps50
  go_wp2_with fail
  go_ret3
  exact ⟨rfl, rfl⟩

set_option maxHeartbeats 1000000 in
theorem w_newJ (base g cap : Nat) (xs : List Int) (w : World) (hl : 0 < xs.length) (o : w.ownsRow base 3 1 (.slice (some ⟨g, 0, none⟩) xs.length cap) xs.length (xs.map (Value.int .i64))) :
    Calls Try.prog 50 #[.slice (some ⟨g, 0, none⟩) xs.length cap] w fun e w' => e = .returned (.tuple #[.int .i64 (nwI xs), .slice (some ⟨g, 0, none⟩) (xs.length - 1) cap, .int .i64 0]) ∧ Below w.heap.size w w' := by
  have hla := rd_len (Rd_own o).1 uJ (P := Try.prog)
  have ix := idx_int g xs.length cap hl
  have hc := own_cell o (xs.length - 1) _ (nwI_get hl)
  have cu := cut_int g xs.length cap hl (own_cap o)
  have hm : xs.length ≤ maxLen := rd_maxI (Rd_own o).1
  unfold maxLen at hm
  have q0 : decide ((xs.length : Int) - 1 < 0) = false := decide_eq_false (by omega)
  have hp : (0 : Int) < xs.length := by omega
  have bd : Hid (Below w.heap.size w w.drew) := below_drewN (Below.refl _ _) 1
  clear o
  go_enter Try.func50, Try.ntmps50
  go_wp2_with fail
  go_quiet (fail)
  go_wp2_with fail
  go_ret3
  exact ⟨rfl, below_drewN (Below.refl _ _) _⟩

set_option maxHeartbeats 1000000 in
theorem w_newN0 (v : Value) (w : World) (h : RdN w v []) :
    Calls Try.prog 52 #[v] w fun e w' => e = .returned (.tuple #[.agg #[.int .i64 0, .slice none 0 0], .slice none 0 0, .int .i64 13]) ∧ Below w.heap.size w w' := by
  have hla : ∀ ty w', (Builtin.len_ #[24] ty #[v]).run Try.prog w' = .ok (.int .i64 0) w' := slr_len h uK (P := Try.prog)
  clear h
  go_enter Try.func52, Try.ntmps52
  go_upto_region 1 with fail
  have st := stands_new w #[.int .i64 0, .slice none 0 0] 58
  have bw := box_below w (.cells #[.int .i64 0, .slice none 0 0] 58)
  generalize w.alloc (.cells #[.int .i64 0, .slice none 0 0] 58) = W0 at st bw ⊢
  have b2 := box_below W0 (.cells #[.int .i64 0, .slice none 0 0] 58)
  have st2 := st.below b2
  have s0 := st2.cell 0 _ rfl
  have s1 := st2.cell 1 _ rfl
  have sf := st2.free
  have g1 : Stands _ w.heap.size #[.int .i64 0, .slice none 0 0] 58 := (st2.set 0 (.int .i64 0)).set 1 (.slice none 0 0)
  have J := below_set (below_set (below_trans bw b2) w.heap.size 0 (.int .i64 0) (Nat.le_refl _)) w.heap.size 1 (.slice none 0 0) (Nat.le_refl _)
  go_wp2_with fail
  (try simp only [Exit.inBlock, Exit.then])
  refine bodyPost_ret (res_row3 rfl _ _ w.heap.size 58 _ (0, 0) _ rfl g1 Try.underlying58 rfl (show _ = some 2 by kernel_rfl)) rfl ?_
  exact ⟨rfl, J⟩

set_option maxHeartbeats 1000000 in
theorem w_newN (lo hi g cap : Nat) (l : List Opn) (rows : List (List Value)) (vo : Value) (w : World) (hl : 0 < l.length) (N : Nwst lo hi w (.slice (some ⟨g, 0, none⟩) l.length cap) l g cap rows vo) :
    Calls Try.prog 52 #[.slice (some ⟨g, 0, none⟩) l.length cap] w fun e w' => e = .returned (.tuple #[.agg #[.int .i64 (nwO l).1, vo], .slice (some ⟨g, 0, none⟩) (l.length - 1) cap, .int .i64 0]) ∧ Below w.heap.size w w' := by
  have cA := N.cellA
  have cO := N.cellO
  have hm : l.length ≤ maxLen := slr_max (OwnR.read (R := opnR) (by decide) ⟨rows, N.len, N.two, N.own, N.each⟩ opnO_R)
  have hla := slr_len (OwnR.read (R := opnR) (by decide) ⟨rows, N.len, N.two, N.own, N.each⟩ opnO_R) uK (P := Try.prog)
  obtain ⟨va, vq, rfl⟩ := own_form N.outs
  have ix := idx_opn g l.length cap hl
  have cu := cut_opn g l.length cap hl (own_cap N.own)
  unfold maxLen at hm
  have q0 : decide ((l.length : Int) - 1 < 0) = false := decide_eq_false (by omega)
  have hp : (0 : Int) < l.length := by omega
  clear N
  go_enter Try.func52, Try.ntmps52
  go_upto_region 1 with fail
  have st := stands_new w #[.int .i64 0, .slice none 0 0] 58
  have bw := box_below w (.cells #[.int .i64 0, .slice none 0 0] 58)
  generalize w.alloc (.cells #[.int .i64 0, .slice none 0 0] 58) = W0 at st bw ⊢
  have bd : Below W0.heap.size W0 W0.drew := below_drewN (Below.refl _ _) 1
  have G1 : Hid (Stands _ w.heap.size #[.int .i64 (nwO l).1, (.slice va (nwO l).2.length vq)] 58) := ((st.below bd).set 0 (.int .i64 (nwO l).1)).set 1 (.slice va (nwO l).2.length vq)
  have J : Hid (Below w.heap.size w _) := below_set (below_set (below_trans bw bd) w.heap.size 0 (.int .i64 (nwO l).1) (Nat.le_refl _)) w.heap.size 1 (.slice va (nwO l).2.length vq) (Nat.le_refl _)
  have kA := below_cell bw cA
  have kO := below_cell bw cO
  have s0 := st.cell 0 _ rfl
  have s1 := st.cell 1 _ rfl
  have sf := st.free
  go_wp2_with fail
  go_region
  all_goals (
    go_wp2_with fail
    (try simp only [Exit.inBlock, Exit.then])
    refine bodyPost_ret (res_row3 rfl _ _ w.heap.size 58 _ (0, 0) _ rfl G1.out Try.underlying58 rfl (show _ = some 2 by kernel_rfl)) rfl ?_
    exact ⟨rfl, J.out⟩)
end Go.Proofs.Ytfmpeminfcehaaa
