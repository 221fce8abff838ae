/-
  Steps lead, and paths are told, as the document's answer says.
-/
import Derived.Test.YtkdaimagdmbnfaaDoorRows
import Derived.WalkKit
import Derived.ProofKit
import Derived.OpenShut
import Derived.ShutString
import Derived.ChangeOld
import Derived.Below
import Derived.Carry
import Derived.SizedLaws
import Derived.Deep.DeepHandedRow
import Derived.SevenTiedAt
import Derived.Test.YtkdaimagdmbnfaaDoorCards
import Derived.Test.YtkdaimagdmbnfaaDoorTie
import Derived.Test.YtkdaimagdmbnfaaDoorB7
namespace Go.Proofs.YtkdaimagdmbnfaaDoor.treeFinds
open Go.ChangeShapes Go.WideShapes Go.ChangeAt Go.RowKit
open Go.ChangeMaps (open_string shut_string)
set_option linter.unusedVariables false

theorem own : ownKnob Tryd.prog.godebug = none := by kernel_rfl
theorem laidOut : laidOutB Tryd.prog = true := by kernel_rfl

set_option maxHeartbeats 4000000 in
set_option maxRecDepth 100000 in
theorem walk (v0 : Value) (x0 : List Nd) (v1 : Value) (x1 : List Sp) (a2 : Int) (w : World) (hT : Tab w) (r0 : RdT w v0 x0) (g0 : ∀ x ∈ x0, goodN x) (z0 : x0.length * 96 ≤ 140737488351232) (r1 : SlR 3 stpR w v1 x1) (bx1 : ∀ x ∈ x1, bytesL x.1 ∧ bytesL x.2.2) (cx1 : ∀ x ∈ x1, cells x.2.1) (lx1 : ∀ x ∈ x1, x.1.length ≤ maxLen ∧ x.2.2.length ≤ maxLen) (w2 : (Lit.int .i64 a2).wf = true) :
    Calls Tryd.prog 7 #[v0, v1, .int .i64 a2] w fun e w' => e = .returned (.bool true) ∧ Below w.heap.size w w' := by
  have hg : goodT x0 := g0
  have c1 := fun w hT h hl => w_p8find v0 v1 x0 x1 w hT h hg z0 hl bx1
  have c2 := fun w h hl => w_r8findT v0 v1 x0 x1 w h hl hg.byt hg.len bx1
  have c3 := fun w hT h => w_p8path v0 x0 a2 w hT h hg z0 w2
  have c4 := fun w h => w_r8path v0 x0 a2 w h hg.byt hg.len hg.cel
  obtain ⟨A, E, hA⟩ : ∃ A E, finT x0 x1 = (A, E) := ⟨_, _, rfl⟩
  simp only [hA] at c1 c2
  obtain ⟨B, F, hB⟩ : ∃ A E, pthF x0 a2 = (A, E) := ⟨_, _, rfl⟩
  simp only [hB] at c3 c4
  obtain ⟨S, hS⟩ : ∃ S, strOfNums B = S := ⟨_, rfl⟩
  simp only [hS] at c3 c4
  clear hA hB hS
  go_enter Tryd.func7, Tryd.ntmps7
  go_wp2_with (first
    | (go_at_call 9; refine (w_alive8 _ hT).mono ?_; rintro e q1 ⟨rfl, b1⟩; have hT1 := hT.below b1; have t1 := r0.below b1; have l1 := r1.below b1 (stpR_below b1))
    | (go_at_call 31; refine (c1 _ hT1 t1 l1).mono ?_; rintro e q2 ⟨rfl, b2⟩; have hT2 := hT1.below b2; have t2 := t1.below b2; have l2 := l1.below b2 (stpR_below b2))
    | (go_at_call 32; refine (c2 _ t2 l2).mono ?_; rintro e q3 ⟨rfl, b3⟩; have hT3 := hT2.below b3; have t3 := t2.below b3)
    | (go_at_call 33; refine (c3 _ hT3 t3).mono ?_; rintro e q4 ⟨rfl, b4⟩; have t4 := t3.below b4)
    | (go_at_call 34; refine (c4 _ t4).mono ?_; rintro e q5 ⟨rfl, b5⟩))
  go_ret
  exact ⟨by simp, below_trans (below_trans (below_trans (below_trans b1 b2) b3) b4) b5⟩

set_option maxRecDepth 100000 in
/-- what the walk gives, for every argument and every world that holds what is listed -/
theorem contract (H : Type) (enc : TypeId × Value → H) (W : World) (base : Nat) (args : Array Value) (ds gs : List (DataW H)) (before : List MemPlace)
    (hval0 : ∀ (j : Nat) t v, Tryd.f7.params[j]? = some t → args[j]? = some v → Value.okWide Tryd.prog W .any base t v)
    (hW : DataW.Whole enc Tryd.prog Tryd.f7.params.toList Rows.treeFindsSpec.vars false W args.toList ds gs before)
    (hsz0 : (DataW.weightsEach Tryd.prog (Tryd.f7.params.toList ++ Rows.treeFindsSpec.plain.varTypes Tryd.prog) (ds ++ gs)).all (· ≤ reachBytes) = true)
    (hL : laidMetH Tryd.prog Rows.treeFindsRow.laid W) :
    Calls Tryd.prog 7 args W fun e W' => ∃ v, e = .returned v ∧ Rows.treeFindsSpec.post enc Tryd.prog Tryd.f7 false true false false W args v W' := by
  have hval : ∀ (j : Nat) t v, Tryd.f7.params[j]? = some t → args[j]? = some v → Value.okWide Tryd.prog W .any base t v := hval0
  have hsz : (DataW.weightsEach Tryd.prog (Tryd.f7.params.toList ++ Rows.treeFindsSpec.plain.varTypes Tryd.prog) (ds ++ gs)).all (· ≤ reachBytes) = true := hsz0
  have hT : Tab W := tab_of_laid hL
  have hW' := hW
  obtain ⟨p, q, hA0, hV, rfl, hfz, hnd⟩ := hW
  have hA : DataW.TrodAll enc Tryd.prog W 0 (fun _ => true) true Tryd.f7.params.toList args.toList ds p := hA0
  rw [Tryd.params7] at hA hval hsz
  obtain ⟨v0, vs0, d0, ds0, p0, q0, hargs, rfl, rfl, h0, r0⟩ := trodAll_cons hA
  obtain ⟨v1, vs1, d1, ds1, p1, q1, rfl, rfl, rfl, h1, r1⟩ := trodAll_cons r0
  obtain ⟨v2, vs2, d2, ds2, p2, q2, rfl, rfl, rfl, h2, r2⟩ := trodAll_cons r1
  obtain ⟨rfl, rfl, rfl⟩ := trodAll_nil r2
  obtain rfl : args = #[v0, v1, v2] := by cases args; simp_all
  obtain ⟨rfl, rfl⟩ := trodVars_none hV
  obtain ⟨s0, l0, c0, rfl⟩ := okWide_slice Tryd.underlying22 (hval 0 22 v0 rfl rfl)
  have k0 := h0
  have lt0 : ∀ x ∈ p0, x.block < W.heap.size := by obtain ⟨m, hm⟩ := k0; exact DataW.trod_lt m _ _ _ hm
  obtain ⟨x0, r100, g0, z0⟩ := nod_open h0 (fun n hn => by simpa using List.all_eq_true.1 hsz n (DataW.weights_mem_each (j := 0) (t := 22) (d := d0) rfl rfl n hn))
  obtain ⟨s1, l1, c1, rfl⟩ := okWide_slice Tryd.underlying48 (hval 1 48 v1 rfl rfl)
  have k1 := h1
  have lt1 : ∀ x ∈ p1, x.block < W.heap.size := by obtain ⟨m, hm⟩ := k1; exact DataW.trod_lt m _ _ _ hm
  obtain ⟨x1, r101, bx1, cx1, lx1, wx1⟩ := stp_open h1
  obtain ⟨a2, rfl, rfl, rfl, w2⟩ := open_int Tryd.underlying3 (hval 2 3 v2 rfl rfl) h2
  clear hA0 hval0 hsz0
  refine (walk (.slice s0 l0 c0) x0 (.slice s1 l1 c1) x1 a2 W hT r100 g0 z0 r101 bx1 cx1 lx1 w2).mono fun e W' ⟨he, bel⟩ => ?_
  subst he
  exact ⟨_, rfl, _, _, _, [], _, [], hW', trodAll_mk1 (shut_bool Tryd.underlying4 _), (trodAll_cons_mk (Below.trod laidOut (by kernel_rfl) (of_decide_eq_true (by kernel_rfl)) k0 bel lt0) (trodAll_cons_mk (Below.trod laidOut (by kernel_rfl) (of_decide_eq_true (by kernel_rfl)) k1 bel lt1) (trodAll_cons_mk (shut_int Tryd.underlying3 w2) trodAll_mk0))), rfl, bel.frame _, fun h => by cases h⟩

/-- a world for the witness: the settled one, the listed blocks as their initialisers lay them -/
def layBlock (b : Nat × Array Value) : Obj → Obj
  | .cells _ t frozen => .cells b.2 t frozen
  | o => o
noncomputable def laidWorld (os : Os) : World :=
  { World.holding Tryd.prog os ⟨#[], #[], []⟩ with heap := laidBlocks.foldl (fun h b => h.modify b.1 (layBlock b)) (World.holding Tryd.prog os ⟨#[], #[], []⟩).heap }
theorem laid_met (os : Os) : laidMet Tryd.prog Rows.treeFindsRow.laid ((laidWorld os).forCall (fun _ _ => 0) ⟨#[], #[.slice none 0 0, .slice none 0 0, .int .i64 0], []⟩).memory :=
  laidMet_of_run' 8 (by kernel_rfl) (by kernel_rfl)
theorem reads (os : Os) {H : Type} (enc : TypeId × Value → H) : ∃ places, DataW.whole enc Tryd.prog ((laidWorld os).forCall (fun _ _ => 0) ⟨#[], #[.slice none 0 0, .slice none 0 0, .int .i64 0], []⟩).memory Tryd.f7.params.toList Rows.treeFindsSpec.vars false #[.slice none 0 0, .slice none 0 0, .int .i64 0].toList 8 = some ([.nil, .nil, .lit (.int .i64 0)], [], places) :=
  ⟨[], by kernel_rfl⟩

set_option maxRecDepth 100000 in
theorem lifted (os : Os) (started : os.Started) (H : Type) (enc : TypeId × Value → H) (F : Stop.Interp) :
    ReturnsInHanded {} Tryd.checked os 7 .any ((OpenSpec.ofChange Rows.treeFindsSpec).preRow enc Tryd.prog Tryd.f7 Rows.treeFindsRow.domain false Rows.treeFindsRow.laid) (((OpenSpec.ofChange Rows.treeFindsSpec).at F).post enc Tryd.prog Tryd.f7 false true false false) := by
  obtain ⟨places, hx⟩ := reads os enc
  refine returnsInHanded_of_row (C := Tryd.checked) (s := OpenSpec.ofChange Rows.treeFindsSpec) own started (by kernel_rfl) Tryd.func7
    (witness_row_at (enc := enc) (C := Tryd.checked) false (laidWorld os) #[.slice none 0 0, .slice none 0 0, .int .i64 0] rfl (by kernel_rfl) (by kernel_rfl) (by kernel_rfl)
      (OpenSpec.preRow_of_cond 8 hx (by kernel_rfl) (fun k hk => by cases hk) (by kernel_rfl) (laid_met os))) ?_
  intro W base args ds gs before hval hW _ hcnd hsz hL _ _
  exact contract H enc W base args ds gs before hval hW hsz hL

theorem said : Rows.TreeFindsSaid :=
  OpenClaim.holds_of_cond 7 Tryd.f7 rfl rfl rfl rfl rfl rfl rfl ⟨rfl, rfl, rfl, rfl, rfl⟩ rfl rfl rfl rfl rfl (by kernel_rfl) Tryd.func7 (by kernel_rfl)
    (of_decide_eq_true (by kernel_rfl)) (by unfold Func.isWrapper; first | (rw [if_pos (by decide +kernel)]; kernel_rfl) | (rw [if_neg (by decide +kernel)]; exact ⟨rfl, rfl⟩))
    (fun os started H enc _ F => by rw [OpenClaim.pre_eq_preRow]; exact lifted os started H enc F)

theorem plain (f : FuncId) (fn : Func) (hf : Tryd.pinned.checked.prog.funcNamed "tinder/tinderlaw08.TreeFinds" = some f) (hfn : Tryd.pinned.checked.prog.funcs[f]? = some fn) :
    false = Tryd.pinned.checked.prog.looks [] ∧ ∀ (j : Nat) t, fn.params[j]? = some t → Tryd.pinned.checked.prog.wantsStandIn t = false := by
  obtain rfl : f = 7 := Option.some.inj ((show Tryd.prog.funcNamed "tinder/tinderlaw08.TreeFinds" = some 7 by kernel_rfl).symm.trans hf) |>.symm
  obtain rfl : fn = Tryd.f7 := (Option.some.inj (Tryd.func7.symm.trans hfn)).symm
  refine ⟨by kernel_rfl, fun j t ht => ?_⟩
  rw [Tryd.params7] at ht
  rcases j with _ | _ | _ | j
  · obtain rfl : t = 22 := by simpa using ht.symm
    exact (show Tryd.prog.wantsStandIn 22 = false by kernel_rfl)
  · obtain rfl : t = 48 := by simpa using ht.symm
    exact (show Tryd.prog.wantsStandIn 48 = false by kernel_rfl)
  · obtain rfl : t = 3 := by simpa using ht.symm
    exact (show Tryd.prog.wantsStandIn 3 = false by kernel_rfl)
  · simp at ht

theorem card : Rows.TreeFindsCardSaid :=
  Claim7.holds_tied_plain_at .later [] _ _ _ _ said (fun _ h => by cases h) (by kernel_rfl) (fun _ h => by cases h) treeFinds_row_tie rfl ⟨rfl, rfl⟩ (by kernel_rfl) rfl plain (by kernel_rfl)
end Go.Proofs.YtkdaimagdmbnfaaDoor.treeFinds
namespace Go.Proofs.YtkdaimagdmbnfaaDoor
theorem treeFinds_holds : Rows.TreeFindsCardSaid := treeFinds.card
#print axioms treeFinds_holds
end Go.Proofs.YtkdaimagdmbnfaaDoor
