/-
  StackPushes: for all lists, cells pushed by the program are on top as the document says, and popped again they leave what there was: the law returns true. No conditions.
-/
import Derived.Test.YtefiohepglggdaaDoorRows
import Derived.WalkKit
import Derived.ProofKit
import Derived.OpenShut
import Derived.ShutString
import Derived.ChangeOld
import Derived.Below
import Derived.Carry
import Derived.SizedLaws
import Derived.Deep.DeepHandedRow
import Derived.SevenTiedAt
import Derived.Test.YtefiohepglggdaaDoorCards
import Derived.Test.YtefiohepglggdaaDoorTie
import Derived.Test.YtefiohepglggdaaDoorSl
import Derived.Test.YtefiohepglggdaaDoorSal
namespace Go.Proofs.YtefiohepglggdaaDoor.stackPushes
open Go.ChangeShapes Go.WideShapes Go.ChangeAt Go.RowKit
open Go.ChangeMaps (open_string shut_string)
set_option linter.unusedVariables false

theorem own : ownKnob Tryd.prog.godebug = none := by kernel_rfl
theorem laidOut : laidOutB Tryd.prog = true := by kernel_rfl
theorem bytes39 : Tryd.prog.bytesOf 39 = 4 := by kernel_rfl

set_option maxHeartbeats 4000000 in
set_option maxRecDepth 100000 in
theorem walk (v0 : Value) (x0 : List Int) (v1 : Value) (x1 : List Int) (w : World) (hT : Tab w) (r0 : Rd .u32 w v0 x0) (f0 : ∀ n ∈ x0, (Lit.int .u32 n).wf = true) (z0 : x0.length * 4 ≤ 140737488351232) (r1 : Rd .u32 w v1 x1) (f1 : ∀ n ∈ x1, (Lit.int .u32 n).wf = true) (z1 : x1.length * 4 ≤ 140737488351232) :
    Calls Tryd.prog 4 #[v0, v1] w fun e w' => e = .returned (.bool true) ∧ Below w.heap.size w w' := by
  by_cases ho : 64 < x0.length + x1.length
  · have e : pushF x0 x1 = ([], 6) := by unfold pushF; rw [if_pos ho]
    have e1 : (pushF x0 x1).1 = [] := by rw [e]
    have e2 : (pushF x0 x1).2 = 6 := by rw [e]
    clear e ho
    go_enter Tryd.func4, Tryd.ntmps4
    go_wp2_with (first
      | (go_at_call 8; refine (w_alive _ hT).mono ?_; rintro e wa ⟨rfl, ba⟩)
      | (go_at_call 13; refine (w_spush v0 v1 x0 x1 _ (r0.below ba) (r1.below ba) (by omega) (by omega)).mono ?_; rintro e wb ⟨u1, rfl, ru1, bb⟩)
      | (go_at_call 14; refine (w_rpush v0 v1 x0 x1 _ (r0.below (below_trans ba bb)) (r1.below (below_trans ba bb)) (by omega) (by omega)).mono ?_; rintro e wc ⟨u2, rfl, ru2, bc⟩)
      | (go_at_call 12; refine (w_rsame _ _ _ _ _ (ru1.below bc) ru2).mono ?_; rintro e wd ⟨rfl, bd⟩))
    go_ret
    exact ⟨rfl, below_trans (below_trans (below_trans ba bb) bc) bd⟩
  · have e : pushF x0 x1 = (x0 ++ x1, 0) := by unfold pushF; rw [if_neg ho]
    have e1 : (pushF x0 x1).1 = x0 ++ x1 := by rw [e]
    have e2 : (pushF x0 x1).2 = 0 := by rw [e]
    have ep : popF (x0 ++ x1) (x1.length : Int) = (x0, x1, 0) := by
      unfold popF
      rw [if_neg (by omega), if_neg (by simp; omega)]
      simp
    have ep1 : (popF (x0 ++ x1) (x1.length : Int)).1 = x0 := by rw [ep]
    have ep2 : (popF (x0 ++ x1) (x1.length : Int)).2.1 = x1 := by rw [ep]
    have ep3 : (popF (x0 ++ x1) (x1.length : Int)).2.2 = 0 := by rw [ep]
    have hz : (x0 ++ x1).length * 4 ≤ 140737488355328 := by simp; omega
    have hz' := hid hz
    have hlen := rd_len r1 uS (P := Tryd.prog)
    clear e ho ep hz
    go_enter Tryd.func4, Tryd.ntmps4
    go_wp2_with (first
      | (go_at_call 8; refine (w_alive _ hT).mono ?_; rintro e wa ⟨rfl, ba⟩)
      | (go_at_call 13; refine (w_spush v0 v1 x0 x1 _ (r0.below ba) (r1.below ba) (by omega) (by omega)).mono ?_; rw [e1, e2]; rintro e wb ⟨u1, rfl, ru1, bb⟩)
      | (go_at_call 14; refine (w_rpush v0 v1 x0 x1 _ (r0.below (below_trans ba bb)) (r1.below (below_trans ba bb)) (by omega) (by omega)).mono ?_; rw [e1, e2]; rintro e wc ⟨u2, rfl, ru2, bc⟩))
    refine (w_rsame _ _ _ _ _ (ru1.below bc) ru2).mono ?_
    rintro e wd ⟨rfl, bd⟩
    go_wp2_with (go_at_call 15; refine (w_spop u1 (x0 ++ x1) _ _ (ru1.below (below_trans bc bd)) hz'.out).mono ?_; rw [ep1, ep2, ep3]; rintro e we ⟨u3, u4, rfl, ru3, ru4, be⟩)
    have B := below_trans (below_trans (below_trans (below_trans ba bb) bc) bd) be
    refine (w_rsame _ _ _ _ _ ru3 (r0.below B)).mono ?_
    rintro e wf ⟨rfl, bf⟩
    go_wp2_with fail
    refine (w_rsame _ _ _ _ _ (ru4.below bf) (r1.below (below_trans B bf))).mono ?_
    rintro e wg ⟨rfl, bg⟩
    go_wp2_with fail
    go_ret
    exact ⟨rfl, below_trans (below_trans B bf) bg⟩

/-- what the walk gives, for every argument and every world that holds what is listed -/
theorem contract (H : Type) (enc : TypeId × Value → H) (W : World) (base : Nat) (args : Array Value) (ds gs : List (DataW H)) (before : List MemPlace)
    (hval0 : ∀ (j : Nat) t v, Tryd.f4.params[j]? = some t → args[j]? = some v → Value.okWide Tryd.prog W .any base t v)
    (hW : DataW.Whole enc Tryd.prog Tryd.f4.params.toList Rows.stackPushesSpec.vars false W args.toList ds gs before)
    (hsz0 : (DataW.weightsEach Tryd.prog (Tryd.f4.params.toList ++ Rows.stackPushesSpec.plain.varTypes Tryd.prog) (ds ++ gs)).all (· ≤ reachBytes) = true)
    (hL : laidMetH Tryd.prog Rows.stackPushesRow.laid W) :
    Calls Tryd.prog 4 args W fun e W' => ∃ v, e = .returned v ∧ Rows.stackPushesSpec.post enc Tryd.prog Tryd.f4 false true false false W args v W' := by
  have hval : ∀ (j : Nat) t v, Tryd.f4.params[j]? = some t → args[j]? = some v → Value.okWide Tryd.prog W .any base t v := hval0
  have hsz : (DataW.weightsEach Tryd.prog (Tryd.f4.params.toList ++ Rows.stackPushesSpec.plain.varTypes Tryd.prog) (ds ++ gs)).all (· ≤ reachBytes) = true := hsz0
  have hT : Tab W := tab_of_laid hL
  have hW' := hW
  obtain ⟨p, q, hA0, hV, rfl, hfz, hnd⟩ := hW
  have hA : DataW.TrodAll enc Tryd.prog W 0 (fun _ => true) true Tryd.f4.params.toList args.toList ds p := hA0
  rw [Tryd.params4] at hA hval hsz
  obtain ⟨v0, vs0, d0, ds0, p0, q0, hargs, rfl, rfl, h0, r0⟩ := trodAll_cons hA
  obtain ⟨v1, vs1, d1, ds1, p1, q1, rfl, rfl, rfl, h1, r1⟩ := trodAll_cons r0
  obtain ⟨rfl, rfl, rfl⟩ := trodAll_nil r1
  obtain rfl : args = #[v0, v1] := by cases args; simp_all
  obtain ⟨rfl, rfl⟩ := trodVars_none hV
  obtain ⟨s0, l0, c0, rfl⟩ := okWide_slice Tryd.underlying22 (hval 0 22 v0 rfl rfl)
  have k0 := h0
  have lt0 : ∀ x ∈ p0, x.block < W.heap.size := by obtain ⟨m, hm⟩ := k0; exact DataW.trod_lt m _ _ _ hm
  obtain ⟨x0, r100, f0, hd0⟩ := rd_open (k := .u32) Tryd.underlying22 Tryd.underlying39 (by kernel_rfl) h0
  have z0 : x0.length * 4 ≤ 140737488351232 := by
    rcases hd0 with rfl | ⟨ys, zs, rfl, hle⟩
    · simp
    · have := sized_slice hsz (j := 0) (t := 22) (e := 39) rfl rfl Tryd.underlying22
      rw [bytes39] at this
      unfold reachBytes at this
      omega
  obtain ⟨s1, l1, c1, rfl⟩ := okWide_slice Tryd.underlying22 (hval 1 22 v1 rfl rfl)
  have k1 := h1
  have lt1 : ∀ x ∈ p1, x.block < W.heap.size := by obtain ⟨m, hm⟩ := k1; exact DataW.trod_lt m _ _ _ hm
  obtain ⟨x1, r101, f1, hd1⟩ := rd_open (k := .u32) Tryd.underlying22 Tryd.underlying39 (by kernel_rfl) h1
  have z1 : x1.length * 4 ≤ 140737488351232 := by
    rcases hd1 with rfl | ⟨ys, zs, rfl, hle⟩
    · simp
    · have := sized_slice hsz (j := 1) (t := 22) (e := 39) rfl rfl Tryd.underlying22
      rw [bytes39] at this
      unfold reachBytes at this
      omega
  clear hA0 hval0 hsz0
  refine (walk (.slice s0 l0 c0) x0 (.slice s1 l1 c1) x1 W hT r100 f0 z0 r101 f1 z1).mono fun e W' ⟨he, bel⟩ => ?_
  subst he
  exact ⟨_, rfl, _, _, _, [], _, [], hW', trodAll_mk1 (shut_bool Tryd.underlying4 _), (trodAll_cons_mk (Below.trod laidOut (by kernel_rfl) (of_decide_eq_true (by kernel_rfl)) k0 bel lt0) (trodAll_cons_mk (Below.trod laidOut (by kernel_rfl) (of_decide_eq_true (by kernel_rfl)) k1 bel lt1) trodAll_mk0)), rfl, bel.frame _, fun h => by cases h⟩

/-- a world for the witness: the settled one, the listed blocks as their initialisers lay them -/
def layBlock (b : Nat × Array Value) : Obj → Obj
  | .cells _ t frozen => .cells b.2 t frozen
  | o => o
noncomputable def laidWorld (os : Os) : World :=
  { World.holding Tryd.prog os ⟨#[], #[], []⟩ with heap := laidBlocks.foldl (fun h b => h.modify b.1 (layBlock b)) (World.holding Tryd.prog os ⟨#[], #[], []⟩).heap }
theorem laid_met (os : Os) : laidMet Tryd.prog Rows.stackPushesRow.laid ((laidWorld os).forCall (fun _ _ => 0) ⟨#[], #[.slice none 0 0, .slice none 0 0], []⟩).memory :=
  laidMet_of_run' 8 (by kernel_rfl) (by kernel_rfl)
theorem reads (os : Os) {H : Type} (enc : TypeId × Value → H) : ∃ places, DataW.whole enc Tryd.prog ((laidWorld os).forCall (fun _ _ => 0) ⟨#[], #[.slice none 0 0, .slice none 0 0], []⟩).memory Tryd.f4.params.toList Rows.stackPushesSpec.vars false #[.slice none 0 0, .slice none 0 0].toList 8 = some ([.nil, .nil], [], places) :=
  ⟨[], by kernel_rfl⟩

set_option maxRecDepth 100000 in
theorem lifted (os : Os) (started : os.Started) (H : Type) (enc : TypeId × Value → H) (F : Stop.Interp) :
    ReturnsInHanded {} Tryd.checked os 4 .any ((OpenSpec.ofChange Rows.stackPushesSpec).preRow enc Tryd.prog Tryd.f4 Rows.stackPushesRow.domain false Rows.stackPushesRow.laid) (((OpenSpec.ofChange Rows.stackPushesSpec).at F).post enc Tryd.prog Tryd.f4 false true false false) := by
  obtain ⟨places, hx⟩ := reads os enc
  refine returnsInHanded_of_row (C := Tryd.checked) (s := OpenSpec.ofChange Rows.stackPushesSpec) own started (by kernel_rfl) Tryd.func4
    (witness_row_at (enc := enc) (C := Tryd.checked) false (laidWorld os) #[.slice none 0 0, .slice none 0 0] rfl (by kernel_rfl) (by kernel_rfl) (by kernel_rfl)
      (OpenSpec.preRow_of_cond 8 hx (by kernel_rfl) (fun k hk => by cases hk) (by kernel_rfl) (laid_met os))) ?_
  intro W base args ds gs before hval hW _ _ hsz hL _ _
  exact contract H enc W base args ds gs before hval hW hsz hL

theorem said : Rows.StackPushesSaid :=
  OpenClaim.holds_of_cond 4 Tryd.f4 rfl rfl rfl rfl rfl rfl rfl ⟨rfl, rfl, rfl, rfl, rfl⟩ rfl rfl rfl rfl rfl (by kernel_rfl) Tryd.func4 (by kernel_rfl)
    (of_decide_eq_true (by kernel_rfl)) (by unfold Func.isWrapper; first | (rw [if_pos (by decide +kernel)]; kernel_rfl) | (rw [if_neg (by decide +kernel)]; exact ⟨rfl, rfl⟩))
    (fun os started H enc _ F => by rw [OpenClaim.pre_eq_preRow]; exact lifted os started H enc F)

theorem plain (f : FuncId) (fn : Func) (hf : Tryd.pinned.checked.prog.funcNamed "tinder/tinderlaw03.StackPushes" = some f) (hfn : Tryd.pinned.checked.prog.funcs[f]? = some fn) :
    false = Tryd.pinned.checked.prog.looks [] ∧ ∀ (j : Nat) t, fn.params[j]? = some t → Tryd.pinned.checked.prog.wantsStandIn t = false := by
  obtain rfl : f = 4 := Option.some.inj ((show Tryd.prog.funcNamed "tinder/tinderlaw03.StackPushes" = some 4 by kernel_rfl).symm.trans hf) |>.symm
  obtain rfl : fn = Tryd.f4 := (Option.some.inj (Tryd.func4.symm.trans hfn)).symm
  refine ⟨by kernel_rfl, fun j t ht => ?_⟩
  rw [Tryd.params4] at ht
  rcases j with _ | _ | j
  · obtain rfl : t = 22 := by simpa using ht.symm
    exact (show Tryd.prog.wantsStandIn 22 = false by kernel_rfl)
  · obtain rfl : t = 22 := by simpa using ht.symm
    exact (show Tryd.prog.wantsStandIn 22 = false by kernel_rfl)
  · simp at ht

theorem card : Rows.StackPushesCardSaid :=
  Claim7.holds_tied_plain_at .later [] _ _ _ _ said (fun _ h => by cases h) (by kernel_rfl) (fun _ h => by cases h) stackPushes_row_tie rfl ⟨rfl, rfl⟩ (by kernel_rfl) rfl plain (by kernel_rfl)
end Go.Proofs.YtefiohepglggdaaDoor.stackPushes
namespace Go.Proofs.YtefiohepglggdaaDoor
theorem stackPushes_holds : Rows.StackPushesCardSaid := stackPushes.card
#print axioms stackPushes_holds
end Go.Proofs.YtefiohepglggdaaDoor
