/-
  A path that is shown is parsed as the same steps.
-/
import Derived.Test.YtnhhhmdkjeabdaaDoorRows
import Derived.WalkKit
import Derived.ProofKit
import Derived.OpenShut
import Derived.ShutString
import Derived.ChangeOld
import Derived.Below
import Derived.Carry
import Derived.SizedLaws
import Derived.Deep.DeepHandedRow
import Derived.SevenTiedAt
import Derived.Test.YtnhhhmdkjeabdaaDoorCards
import Derived.Test.YtnhhhmdkjeabdaaDoorTie
import Derived.Test.YtnhhhmdkjeabdaaDoorSl
import Derived.Test.YtnhhhmdkjeabdaaDoorBk
import Derived.Deep.CondSized
import Derived.JoinedCond
import Derived.Test.YtnhhhmdkjeabdaaDoorPav
import Derived.Test.YtnhhhmdkjeabdaaDoorStp
import Derived.Test.YtnhhhmdkjeabdaaDoorAlp
import Derived.Test.YtnhhhmdkjeabdaaDoorQtb
namespace Go.Proofs.YtnhhhmdkjeabdaaDoor.pathBack
open Go.ChangeShapes Go.WideShapes Go.ChangeAt Go.RowKit
open Go.ChangeMaps (open_string shut_string)
set_option linter.unusedVariables false

theorem own : ownKnob Tryd.prog.godebug = none := by kernel_rfl
theorem laidOut : laidOutB Tryd.prog = true := by kernel_rfl

set_option maxHeartbeats 4000000 in
set_option maxRecDepth 100000 in
theorem walk (v0 : Value) (x0 : List Sp) (w : World) (hT : Tab w) (r0 : SlR 3 stpR w v0 x0) (bx0 : ∀ x ∈ x0, bytesL x.1 ∧ bytesL x.2.2) (cx0 : ∀ x ∈ x0, cells x.2.1) (lx0 : ∀ x ∈ x0, x.1.length ≤ maxLen ∧ x.2.2.length ≤ maxLen) (u0 : wtS x0 ≤ 1048576) :
    Calls Tryd.prog 6 #[v0] w fun e w' => e = .returned (.bool true) ∧ Below w.heap.size w w' := by
  have hz : (shpT x0).length ≤ 100000000000 := by have := shp_wt x0 cx0; omega
  have hsz : ∀ x ∈ x0, x.1.length ≤ 100000000000 ∧ x.2.1.length ≤ 100000000000 ∧ x.2.2.length ≤ 100000000000 := fun x hx => by have := wtS_mem hx; omega
  have c1 := fun w h hT => w_pshow7 v0 x0 w h bx0 cx0 hz hsz hT
  have hbk := shp_back x0 cx0
  have hby := shp_bytes x0 bx0 cx0
  have her := shp_err x0
  obtain ⟨A, E, hAE⟩ : ∃ A E, shpF x0 = (A, E) := ⟨_, _, rfl⟩
  simp only [hAE] at c1 hbk hby her
  clear hAE
  by_cases hE : E = 0
  · subst hE
    have hp := hbk rfl
    have hLT : L (strOfNums A) = A := LB_nums _ hby
    have hlen : A.length ≤ 256 := by
      by_cases g : 256 < A.length
      · have h1 := (par_long A).2 g
        rw [hp] at h1
        cases h1
      · omega
    have hTs : (strOfNums A).size = A.length := toB_size _
    have c2 := fun w hT => w_ppath (strOfNums A) w (by rw [hTs]; unfold maxLen; omega) hT
    simp only [hLT, hp] at c2
    obtain ⟨T, hTT⟩ : ∃ T, strOfNums A = T := ⟨_, rfl⟩
    simp only [hTT] at c1 c2
    clear hTT hTs hLT hp hbk hby her hlen hz hsz
    go_enter Tryd.func6, Tryd.ntmps6
    go_wp2_with (first
      | (go_at_call 8; refine (w_alive7 _ hT).mono ?_; rintro e q1 ⟨rfl, b1⟩; have hT1 := hT.below b1; have g1 := r0.below b1 (stpR_below b1))
      | (go_at_call 12; refine (c1 _ g1 hT1).mono ?_; rintro e q2 ⟨rfl, b2⟩; have g2 := g1.below b2 (stpR_below b2); have hT2 := hT1.below b2)
      | (go_at_call 9; refine (c2 _ hT2).mono ?_; rintro e q3 ⟨v3, rfl, r3, b3⟩; have g3 := g2.below b3 (stpR_below b3))
      | (go_at_call 11; refine (w_r7same v0 v3 x0 x0 q3 g3 r3 bx0 bx0).mono ?_; rintro e q4 ⟨rfl, b4⟩))
    go_ret
    exact ⟨by simp, below_trans (below_trans (below_trans b1 b2) b3) b4⟩
  · have hcs : A = [] ∧ (E = 1 ∨ E = 3) := by
      rcases her with h | h
      · exact absurd h hE
      · exact h
    obtain ⟨rfl, hcs⟩ := hcs
    have es : strOfNums ([] : List Int) = ⟨#[]⟩ := by decide +kernel
    rw [es] at c1
    clear es hbk hby her hz hsz hE
    rcases hcs with rfl | rfl
    all_goals go_enter Tryd.func6, Tryd.ntmps6
    all_goals go_wp2_with (first
      | (go_at_call 8; refine (w_alive7 _ hT).mono ?_; rintro e q1 ⟨rfl, b1⟩; have hT1 := hT.below b1; have g1 := r0.below b1 (stpR_below b1))
      | (go_at_call 12; refine (c1 _ g1 hT1).mono ?_; rintro e q2 ⟨rfl, b2⟩))
    all_goals go_ret
    all_goals exact ⟨rfl, below_trans b1 b2⟩

set_option maxRecDepth 100000 in
/-- what the walk gives, for every argument and every world that holds what is listed -/
theorem contract (H : Type) (enc : TypeId × Value → H) (W : World) (base : Nat) (args : Array Value) (ds gs : List (DataW H)) (before : List MemPlace)
    (hval0 : ∀ (j : Nat) t v, Tryd.f6.params[j]? = some t → args[j]? = some v → Value.okWide Tryd.prog W .any base t v)
    (hW : DataW.Whole enc Tryd.prog Tryd.f6.params.toList Rows.pathBackSpec.vars false W args.toList ds gs before)
    (hsz0 : (DataW.weightsEach Tryd.prog (Tryd.f6.params.toList ++ Rows.pathBackSpec.plain.varTypes Tryd.prog) (ds ++ gs)).all (· ≤ reachBytes) = true)
    (hL : laidMetH Tryd.prog Rows.pathBackRow.laid W)
    (hk0 : ∀ k, (Rows.OpenSpec.upto Rows.pathBackSpec).cond = some k → k H (ds ++ gs) = true) :
    Calls Tryd.prog 6 args W fun e W' => ∃ v, e = .returned v ∧ Rows.pathBackSpec.post enc Tryd.prog Tryd.f6 false true false false W args v W' := by
  have hval : ∀ (j : Nat) t v, Tryd.f6.params[j]? = some t → args[j]? = some v → Value.okWide Tryd.prog W .any base t v := hval0
  have hsz : (DataW.weightsEach Tryd.prog (Tryd.f6.params.toList ++ Rows.pathBackSpec.plain.varTypes Tryd.prog) (ds ++ gs)).all (· ≤ reachBytes) = true := hsz0
  have hT : Tab W := tab_of_laid hL
  have hW' := hW
  obtain ⟨p, q, hA0, hV, rfl, hfz, hnd⟩ := hW
  have hA : DataW.TrodAll enc Tryd.prog W 0 (fun _ => true) true Tryd.f6.params.toList args.toList ds p := hA0
  rw [Tryd.params6] at hA hval hsz
  obtain ⟨v0, vs0, d0, ds0, p0, q0, hargs, rfl, rfl, h0, r0⟩ := trodAll_cons hA
  obtain ⟨rfl, rfl, rfl⟩ := trodAll_nil r0
  obtain rfl : args = #[v0] := by cases args; simp_all
  obtain ⟨rfl, rfl⟩ := trodVars_none hV
  have hkk : Rows.uptoBulkAll _ ≤ 1048576 := of_decide_eq_true (hk0 _ rfl)
  have b0 : Rows.uptoBulk d0 ≤ 1048576 := Nat.le_trans (bk_mem (by simp)) hkk
  obtain ⟨s0, l0, c0, rfl⟩ := okWide_slice Tryd.underlying23 (hval 0 23 v0 rfl rfl)
  have k0 := h0
  have lt0 : ∀ x ∈ p0, x.block < W.heap.size := by obtain ⟨m, hm⟩ := k0; exact DataW.trod_lt m _ _ _ hm
  obtain ⟨x0, r100, bx0, cx0, lx0, wx0⟩ := stp_open h0
  have u0 : wtS x0 ≤ 1048576 := Nat.le_trans wx0 b0
  clear hA0 hval0 hsz0
  refine (walk (.slice s0 l0 c0) x0 W hT r100 bx0 cx0 lx0 u0).mono fun e W' ⟨he, bel⟩ => ?_
  subst he
  exact ⟨_, rfl, _, _, _, [], _, [], hW', trodAll_mk1 (shut_bool Tryd.underlying4 _), (trodAll_cons_mk (Below.trod laidOut (by kernel_rfl) (of_decide_eq_true (by kernel_rfl)) k0 bel lt0) trodAll_mk0), rfl, bel.frame _, fun h => by cases h⟩

/-- a world for the witness: the settled one, the listed blocks as their initialisers lay them -/
def layBlock (b : Nat × Array Value) : Obj → Obj
  | .cells _ t frozen => .cells b.2 t frozen
  | o => o
noncomputable def laidWorld (os : Os) : World :=
  { World.holding Tryd.prog os ⟨laidObjs, #[], []⟩ with heap := laidBlocks.foldl (fun h b => h.modify b.1 (layBlock b)) (World.holding Tryd.prog os ⟨laidObjs, #[], []⟩).heap }
theorem laid_met (os : Os) : laidMet Tryd.prog Rows.pathBackRow.laid ((laidWorld os).forCall (fun _ _ => 0) ⟨#[], #[.slice none 0 0], []⟩).memory :=
  laidMet_of_run' 8 (by kernel_rfl) (by kernel_rfl)
theorem reads (os : Os) {H : Type} (enc : TypeId × Value → H) : ∃ places, DataW.whole enc Tryd.prog ((laidWorld os).forCall (fun _ _ => 0) ⟨#[], #[.slice none 0 0], []⟩).memory Tryd.f6.params.toList Rows.pathBackSpec.vars false #[.slice none 0 0].toList 8 = some ([.nil], [], places) :=
  ⟨[], by kernel_rfl⟩

set_option maxRecDepth 100000 in
theorem lifted (os : Os) (started : os.Started) (H : Type) (enc : TypeId × Value → H) (F : Stop.Interp) :
    ReturnsInHanded {} Tryd.checked os 6 .any ((Rows.OpenSpec.upto Rows.pathBackSpec).preRow enc Tryd.prog Tryd.f6 Rows.pathBackUptoRow.domain false Rows.pathBackUptoRow.laid) (((Rows.OpenSpec.upto Rows.pathBackSpec).at F).post enc Tryd.prog Tryd.f6 false true false false) := by
  obtain ⟨places, hx⟩ := reads os enc
  refine returnsInHanded_of_row (C := Tryd.checked) (s := Rows.OpenSpec.upto Rows.pathBackSpec) own started (by kernel_rfl) Tryd.func6
    (witness_row_at (enc := enc) (C := Tryd.checked) false (laidWorld os) #[.slice none 0 0] rfl (by kernel_rfl) (by kernel_rfl) (by kernel_rfl)
      (OpenSpec.preRow_of_cond 8 hx (by kernel_rfl) (fun k hk => by cases hk; kernel_rfl) (by kernel_rfl) (laid_met os))) ?_
  intro W base args ds gs before hval hW _ hcnd hsz hL _ _
  exact contract H enc W base args ds gs before hval hW hsz hL hcnd

theorem said : Rows.PathBackUptoSaid :=
  OpenClaim.holds_of_cond 6 Tryd.f6 rfl rfl rfl rfl rfl rfl rfl ⟨rfl, rfl, rfl, rfl, rfl⟩ rfl rfl rfl rfl rfl (by kernel_rfl) Tryd.func6 (by kernel_rfl)
    (of_decide_eq_true (by kernel_rfl)) (by unfold Func.isWrapper; first | (rw [if_pos (by decide +kernel)]; kernel_rfl) | (rw [if_neg (by decide +kernel)]; exact ⟨rfl, rfl⟩))
    (fun os started H enc _ F => by rw [OpenClaim.pre_eq_preRow]; exact lifted os started H enc F)

theorem plain (f : FuncId) (fn : Func) (hf : Tryd.pinned.checked.prog.funcNamed "tinder/tinderlaw07.PathBack" = some f) (hfn : Tryd.pinned.checked.prog.funcs[f]? = some fn) :
    true = Tryd.pinned.checked.prog.looks [] ∧ ∀ (j : Nat) t, fn.params[j]? = some t → Tryd.pinned.checked.prog.wantsStandIn t = false := by
  obtain rfl : f = 6 := Option.some.inj ((show Tryd.prog.funcNamed "tinder/tinderlaw07.PathBack" = some 6 by kernel_rfl).symm.trans hf) |>.symm
  obtain rfl : fn = Tryd.f6 := (Option.some.inj (Tryd.func6.symm.trans hfn)).symm
  refine ⟨by kernel_rfl, fun j t ht => ?_⟩
  rw [Tryd.params6] at ht
  rcases j with _ | j
  · obtain rfl : t = 23 := by simpa using ht.symm
    exact (show Tryd.prog.wantsStandIn 23 = false by kernel_rfl)
  · simp at ht

theorem card : Rows.PathBackUptoCardSaid :=
  Claim7.holds_tied_plain_at .later [] _ _ _ _ said (fun _ h => by cases h) (by kernel_rfl) (fun _ h => by cases h) pathBackUpto_row_tie rfl ⟨rfl, rfl⟩ (by kernel_rfl) rfl plain (by kernel_rfl)
end Go.Proofs.YtnhhhmdkjeabdaaDoor.pathBack
namespace Go.Proofs.YtnhhhmdkjeabdaaDoor
theorem pathBackUpto_holds : Rows.PathBackUptoCardSaid := pathBack.card
#print axioms pathBackUpto_holds
end Go.Proofs.YtnhhhmdkjeabdaaDoor
