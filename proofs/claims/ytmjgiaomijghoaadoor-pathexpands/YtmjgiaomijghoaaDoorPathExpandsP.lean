/-
  A short name gives way to its path, and a last step is parted from its arguments, as the document's answer has it.
-/
import Derived.Test.YtmjgiaomijghoaaDoorRows
import Derived.WalkKit
import Derived.ProofKit
import Derived.OpenShut
import Derived.ShutString
import Derived.ChangeOld
import Derived.Below
import Derived.Carry
import Derived.SizedLaws
import Derived.Deep.DeepHandedRow
import Derived.SevenTiedAt
import Derived.Test.YtmjgiaomijghoaaDoorCards
import Derived.Test.YtmjgiaomijghoaaDoorTie
import Derived.Test.YtmjgiaomijghoaaDoorSl
import Derived.Test.YtmjgiaomijghoaaDoorPte
import Derived.Test.YtmjgiaomijghoaaDoorStp
import Derived.Test.YtmjgiaomijghoaaDoorAlp
import Derived.Test.YtmjgiaomijghoaaDoorAlz
import Derived.Test.YtmjgiaomijghoaaDoorQtb
namespace Go.Proofs.YtmjgiaomijghoaaDoor.pathExpands
open Go.ChangeShapes Go.WideShapes Go.ChangeAt Go.RowKit
open Go.ChangeMaps (open_string shut_string)
set_option linter.unusedVariables false

theorem own : ownKnob Tryd.prog.godebug = none := by kernel_rfl
theorem laidOut : laidOutB Tryd.prog = true := by kernel_rfl

set_option maxHeartbeats 4000000 in
set_option maxRecDepth 100000 in
theorem walk (a0 : ByteArray) (v1 : Value) (x1 : List Al) (w : World) (hT : Tab w) (w0 : a0.size ≤ maxLen) (zs0 : a0.size ≤ 140737488351232) (r1 : SlR 2 aliR w v1 x1) (bx1 : ∀ x ∈ x1, bytesL x.1 ∧ bytesL x.2) (lx1 : ∀ x ∈ x1, x.1.length ≤ 140737488351232 ∧ x.2.length ≤ 140737488351232) :
    Calls Tryd.prog 5 #[.string a0, v1] w fun e w' => e = .returned (.bool true) ∧ Below w.heap.size w w' := by
  have c1 := fun w h => w_pexpand a0 v1 x1 w zs0 h bx1 lx1
  have c2 := fun w h => w_rexpand a0 v1 x1 w w0 h bx1 (fun x hx => by have := lx1 x hx; unfold maxLen; omega)
  have c3 := fun w => w_ptail a0 w w0
  have c4 := fun w => w_rtail a0 w w0
  obtain ⟨A, E, hAE⟩ : ∃ A E, expF (L a0) x1 = (A, E) := ⟨_, _, rfl⟩
  simp only [hAE] at c1 c2
  obtain ⟨T, hTT⟩ : ∃ T, strOfNums A = T := ⟨_, rfl⟩
  simp only [hTT] at c1 c2
  have c3' : ∀ w, Calls Tryd.prog 16 #[.string a0] w fun e w' => e = .returned (.tuple #[.string (toB (tlF (L a0)).1), .string (toB (tlF (L a0)).2)]) ∧ Below w.heap.size w w' := fun w => (c3 w).mono (by rintro e w' ⟨A, B, rfl, h1, h2, b⟩; rw [← h1, ← h2, toB_L, toB_L]; exact ⟨rfl, b⟩)
  have c4' : ∀ w, Calls Tryd.prog 17 #[.string a0] w fun e w' => e = .returned (.tuple #[.string (toB (tlF (L a0)).1), .string (toB (tlF (L a0)).2)]) ∧ Below w.heap.size w w' := fun w => (c4 w).mono (by rintro e w' ⟨A, B, rfl, h1, h2, b⟩; rw [← h1, ← h2, toB_L, toB_L]; exact ⟨rfl, b⟩)
  obtain ⟨A1, hA1⟩ : ∃ X, toB (tlF (L a0)).1 = X := ⟨_, rfl⟩
  obtain ⟨B1, hB1⟩ : ∃ X, toB (tlF (L a0)).2 = X := ⟨_, rfl⟩
  simp only [hA1, hB1] at c3' c4'
  clear hAE hTT c3 c4 hA1 hB1
  go_enter Tryd.func5, Tryd.ntmps5
  go_wp2_with (first
    | (go_at_call 8; refine (w_alive7 _ hT).mono ?_; rintro e q1 ⟨rfl, b1⟩; have hT1 := hT.below b1; have g1 := r1.below b1 aliR_below)
    | (go_at_call 14; refine (c1 _ g1).mono ?_; rintro e q2 ⟨rfl, b2⟩; have g2 := g1.below b2 aliR_below; have hT2 := hT1.below b2)
    | (go_at_call 15; refine (c2 _ g2).mono ?_; rintro e q3 ⟨rfl, b3⟩; have hT3 := hT2.below b3)
    | (go_at_call 16; refine (c3' _).mono ?_; rintro e q4 ⟨rfl, b4⟩)
    | (go_at_call 17; refine (c4' _).mono ?_; rintro e q5 ⟨rfl, b5⟩))
  go_ret
  exact ⟨by simp, below_trans (below_trans (below_trans (below_trans b1 b2) b3) b4) b5⟩

set_option maxRecDepth 100000 in
/-- what the walk gives, for every argument and every world that holds what is listed -/
theorem contract (H : Type) (enc : TypeId × Value → H) (W : World) (base : Nat) (args : Array Value) (ds gs : List (DataW H)) (before : List MemPlace)
    (hval0 : ∀ (j : Nat) t v, Tryd.f5.params[j]? = some t → args[j]? = some v → Value.okWide Tryd.prog W .any base t v)
    (hW : DataW.Whole enc Tryd.prog Tryd.f5.params.toList Rows.pathExpandsSpec.vars false W args.toList ds gs before)
    (hsz0 : (DataW.weightsEach Tryd.prog (Tryd.f5.params.toList ++ Rows.pathExpandsSpec.plain.varTypes Tryd.prog) (ds ++ gs)).all (· ≤ reachBytes) = true)
    (hL : laidMetH Tryd.prog Rows.pathExpandsRow.laid W) :
    Calls Tryd.prog 5 args W fun e W' => ∃ v, e = .returned v ∧ Rows.pathExpandsSpec.post enc Tryd.prog Tryd.f5 false true false false W args v W' := by
  have hval : ∀ (j : Nat) t v, Tryd.f5.params[j]? = some t → args[j]? = some v → Value.okWide Tryd.prog W .any base t v := hval0
  have hsz : (DataW.weightsEach Tryd.prog (Tryd.f5.params.toList ++ Rows.pathExpandsSpec.plain.varTypes Tryd.prog) (ds ++ gs)).all (· ≤ reachBytes) = true := hsz0
  have hT : Tab W := tab_of_laid hL
  have hW' := hW
  obtain ⟨p, q, hA0, hV, rfl, hfz, hnd⟩ := hW
  have hA : DataW.TrodAll enc Tryd.prog W 0 (fun _ => true) true Tryd.f5.params.toList args.toList ds p := hA0
  rw [Tryd.params5] at hA hval hsz
  obtain ⟨v0, vs0, d0, ds0, p0, q0, hargs, rfl, rfl, h0, r0⟩ := trodAll_cons hA
  obtain ⟨v1, vs1, d1, ds1, p1, q1, rfl, rfl, rfl, h1, r1⟩ := trodAll_cons r0
  obtain ⟨rfl, rfl, rfl⟩ := trodAll_nil r1
  obtain rfl : args = #[v0, v1] := by cases args; simp_all
  obtain ⟨rfl, rfl⟩ := trodVars_none hV
  obtain ⟨a0, rfl, rfl, rfl, w0⟩ := open_string Tryd.underlying9 (hval 0 9 v0 rfl rfl) h0
  have zs0 : a0.size ≤ 140737488351232 := by have h1 := sized_string hsz (j := 0) (t := 9) (bytes := a0.data.toList) rfl rfl; have h2 : a0.data.toList.length = a0.size := (by simp); unfold reachBytes at h1; omega
  obtain ⟨s1, l1, c1, rfl⟩ := okWide_slice Tryd.underlying32 (hval 1 32 v1 rfl rfl)
  have k1 := h1
  have lt1 : ∀ x ∈ p1, x.block < W.heap.size := by obtain ⟨m, hm⟩ := k1; exact DataW.trod_lt m _ _ _ hm
  obtain ⟨x1, r101, bx1, lx1⟩ := ali_openZ h1 (fun n hn => by simpa using List.all_eq_true.1 hsz n (DataW.weights_mem_each (j := 1) (t := 32) (d := d1) rfl rfl n hn))
  clear hA0 hval0 hsz0
  refine (walk a0 (.slice s1 l1 c1) x1 W hT w0 zs0 r101 bx1 lx1).mono fun e W' ⟨he, bel⟩ => ?_
  subst he
  exact ⟨_, rfl, _, _, _, [], _, [], hW', trodAll_mk1 (shut_bool Tryd.underlying4 _), (trodAll_cons_mk (shut_string Tryd.underlying9 w0) (trodAll_cons_mk (Below.trod laidOut (by kernel_rfl) (of_decide_eq_true (by kernel_rfl)) k1 bel lt1) trodAll_mk0)), rfl, bel.frame _, fun h => by cases h⟩

/-- a world for the witness: the settled one, the listed blocks as their initialisers lay them -/
def layBlock (b : Nat × Array Value) : Obj → Obj
  | .cells _ t frozen => .cells b.2 t frozen
  | o => o
noncomputable def laidWorld (os : Os) : World :=
  { World.holding Tryd.prog os ⟨laidObjs, #[], []⟩ with heap := laidBlocks.foldl (fun h b => h.modify b.1 (layBlock b)) (World.holding Tryd.prog os ⟨laidObjs, #[], []⟩).heap }
theorem laid_met (os : Os) : laidMet Tryd.prog Rows.pathExpandsRow.laid ((laidWorld os).forCall (fun _ _ => 0) ⟨#[], #[.string ⟨#[]⟩, .slice none 0 0], []⟩).memory :=
  laidMet_of_run' 8 (by kernel_rfl) (by kernel_rfl)
theorem reads (os : Os) {H : Type} (enc : TypeId × Value → H) : ∃ places, DataW.whole enc Tryd.prog ((laidWorld os).forCall (fun _ _ => 0) ⟨#[], #[.string ⟨#[]⟩, .slice none 0 0], []⟩).memory Tryd.f5.params.toList Rows.pathExpandsSpec.vars false #[.string ⟨#[]⟩, .slice none 0 0].toList 8 = some ([.lit (.string []), .nil], [], places) :=
  ⟨[], by kernel_rfl⟩

set_option maxRecDepth 100000 in
theorem lifted (os : Os) (started : os.Started) (H : Type) (enc : TypeId × Value → H) (F : Stop.Interp) :
    ReturnsInHanded {} Tryd.checked os 5 .any ((OpenSpec.ofChange Rows.pathExpandsSpec).preRow enc Tryd.prog Tryd.f5 Rows.pathExpandsRow.domain false Rows.pathExpandsRow.laid) (((OpenSpec.ofChange Rows.pathExpandsSpec).at F).post enc Tryd.prog Tryd.f5 false true false false) := by
  obtain ⟨places, hx⟩ := reads os enc
  refine returnsInHanded_of_row (C := Tryd.checked) (s := OpenSpec.ofChange Rows.pathExpandsSpec) own started (by kernel_rfl) Tryd.func5
    (witness_row_at (enc := enc) (C := Tryd.checked) false (laidWorld os) #[.string ⟨#[]⟩, .slice none 0 0] rfl (by kernel_rfl) (by kernel_rfl) (by kernel_rfl)
      (OpenSpec.preRow_of_cond 8 hx (by kernel_rfl) (fun k hk => by cases hk) (by kernel_rfl) (laid_met os))) ?_
  intro W base args ds gs before hval hW _ hcnd hsz hL _ _
  exact contract H enc W base args ds gs before hval hW hsz hL

theorem said : Rows.PathExpandsSaid :=
  OpenClaim.holds_of_cond 5 Tryd.f5 rfl rfl rfl rfl rfl rfl rfl ⟨rfl, rfl, rfl, rfl, rfl⟩ rfl rfl rfl rfl rfl (by kernel_rfl) Tryd.func5 (by kernel_rfl)
    (of_decide_eq_true (by kernel_rfl)) (by unfold Func.isWrapper; first | (rw [if_pos (by decide +kernel)]; kernel_rfl) | (rw [if_neg (by decide +kernel)]; exact ⟨rfl, rfl⟩))
    (fun os started H enc _ F => by rw [OpenClaim.pre_eq_preRow]; exact lifted os started H enc F)

theorem plain (f : FuncId) (fn : Func) (hf : Tryd.pinned.checked.prog.funcNamed "tinder/tinderlaw07.PathExpands" = some f) (hfn : Tryd.pinned.checked.prog.funcs[f]? = some fn) :
    true = Tryd.pinned.checked.prog.looks [] ∧ ∀ (j : Nat) t, fn.params[j]? = some t → Tryd.pinned.checked.prog.wantsStandIn t = false := by
  obtain rfl : f = 5 := Option.some.inj ((show Tryd.prog.funcNamed "tinder/tinderlaw07.PathExpands" = some 5 by kernel_rfl).symm.trans hf) |>.symm
  obtain rfl : fn = Tryd.f5 := (Option.some.inj (Tryd.func5.symm.trans hfn)).symm
  refine ⟨by kernel_rfl, fun j t ht => ?_⟩
  rw [Tryd.params5] at ht
  rcases j with _ | _ | j
  · obtain rfl : t = 9 := by simpa using ht.symm
    exact (show Tryd.prog.wantsStandIn 9 = false by kernel_rfl)
  · obtain rfl : t = 32 := by simpa using ht.symm
    exact (show Tryd.prog.wantsStandIn 32 = false by kernel_rfl)
  · simp at ht

theorem card : Rows.PathExpandsCardSaid :=
  Claim7.holds_tied_plain_at .later [] _ _ _ _ said (fun _ h => by cases h) (by kernel_rfl) (fun _ h => by cases h) pathExpands_row_tie rfl ⟨rfl, rfl⟩ (by kernel_rfl) rfl plain (by kernel_rfl)
end Go.Proofs.YtmjgiaomijghoaaDoor.pathExpands
namespace Go.Proofs.YtmjgiaomijghoaaDoor
theorem pathExpands_holds : Rows.PathExpandsCardSaid := pathExpands.card
#print axioms pathExpands_holds
end Go.Proofs.YtmjgiaomijghoaaDoor
