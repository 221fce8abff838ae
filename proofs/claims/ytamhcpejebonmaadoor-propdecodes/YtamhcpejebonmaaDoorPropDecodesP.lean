/-
  The first number and the first text are taken off any bytes as the document's answer takes them, and the bytes stay.
-/
import Derived.Test.YtamhcpejebonmaaDoorRows
import Derived.WalkKit
import Derived.ProofKit
import Derived.OpenShut
import Derived.ShutString
import Derived.ChangeOld
import Derived.Below
import Derived.Carry
import Derived.SizedLaws
import Derived.Deep.DeepHandedRow
import Derived.SevenTiedAt
import Derived.Test.YtamhcpejebonmaaDoorCards
import Derived.Test.YtamhcpejebonmaaDoorTie
import Derived.Test.YtamhcpejebonmaaDoorSl
import Derived.Test.YtamhcpejebonmaaDoorPal
import Derived.Test.YtamhcpejebonmaaDoorSg
import Derived.Test.YtamhcpejebonmaaDoorPtb
namespace Go.Proofs.YtamhcpejebonmaaDoor.propDecodes
open Go.ChangeShapes Go.WideShapes Go.ChangeAt Go.RowKit
open Go.ChangeMaps (open_string shut_string)
set_option linter.unusedVariables false

theorem own : ownKnob Tryd.prog.godebug = none := by kernel_rfl
theorem laidOut : laidOutB Tryd.prog = true := by kernel_rfl
theorem bytes5 : Tryd.prog.bytesOf 5 = 1 := by kernel_rfl

set_option maxHeartbeats 4000000 in
set_option maxRecDepth 100000 in
theorem walk (v0 : Value) (x0 : List Int) (w : World) (hT : Tab w) (r0 : Rd .u8 w v0 x0) (f0 : ∀ n ∈ x0, (Lit.int .u8 n).wf = true) (z0 : x0.length * 1 ≤ 140737488351232) :
    Calls Tryd.prog 7 #[v0] w fun e w' => e = .returned (.bool true) ∧ Below w.heap.size w w' := by
  have hB := wf_bytes f0
  have hz : x0.length ≤ 140737488355328 := by omega
  have hb1 := deI_bytes x0 hB
  have hb2 := (deT_bytes x0 hB).2
  obtain ⟨N, A, E, hAE⟩ : ∃ N A E, deIF x0 = (N, A, E) := ⟨_, _, _, rfl⟩
  obtain ⟨T, D, G, hTE⟩ : ∃ T D G, deTF x0 = (T, D, G) := ⟨_, _, _, rfl⟩
  have c1 := fun v w h => w_pdecint v x0 w h hB hz
  have c2 := fun w h => w_rdecint v0 x0 w w h (Below.refl _ _) hB hz
  have c3 := fun v w h => w_pdectext v x0 w h hB hz
  have c4 := fun w h => w_rdectext v0 x0 w w h (Below.refl _ _) hB hz
  have c0 := fun w h => w_rcopy v0 x0 w h hz
  simp only [hAE] at c1 c2 hb1
  simp only [hTE] at c3 c4 hb2
  obtain ⟨S, hS⟩ : ∃ S, strOfNums T = S := ⟨_, rfl⟩
  simp only [hS] at c3 c4
  clear hAE hTE hS
  go_enter Tryd.func7, Tryd.ntmps7
  go_wp2_with (first
    | (go_at_call 9; refine (w_alive _ hT).mono ?_; rintro e q1 ⟨rfl, b1⟩; have g1 := r0.below b1)
    | (go_at_call 24; refine (c0 _ g1).mono ?_; rintro e q2 ⟨u, rfl, o2, b2⟩; have g2 := g1.below b2; have m2 := (Rd_own o2).1)
    | (go_at_call 25; refine (c1 _ _ m2).mono ?_; rintro e q3 ⟨v3, rfl, r3, b3⟩; have g3 := g2.below b3; have m3 := m2.below b3)
    | (go_at_call 26; refine (c2 _ g3).mono ?_; rintro e q4 ⟨v4, rfl, r4, b4⟩; have g4 := g3.below b4; have m4 := m3.below b4)
    | (go_at_call 27; refine (c3 _ _ m4).mono ?_; rintro e q5 ⟨v5, rfl, r5, b5⟩; have g5 := g4.below b5; have m5 := m4.below b5)
    | (go_at_call 28; refine (c4 _ g5).mono ?_; rintro e q6 ⟨v6, rfl, r6, b6⟩; have g6 := g5.below b6; have m6 := m5.below b6))
  refine (w_rsame v3 v4 _ _ q6 (((r3.below b4).below b5).below b6) (((r4.below b4).below b5).below b6) hb1 hb1).mono ?_
  rintro e q7 ⟨rfl, rfl⟩
  go_wp2_with fail
  refine (w_rsame v5 v6 _ _ q7 (r5.below b6) (r6.below b6) hb2 hb2).mono ?_
  rintro e q8 ⟨rfl, rfl⟩
  go_wp2_with fail
  refine (w_rsame u v0 _ _ q8 m6 g6 hB hB).mono ?_
  rintro e q9 ⟨rfl, rfl⟩
  go_wp2_with fail
  go_ret
  exact ⟨rfl, below_trans (below_trans (below_trans (below_trans (below_trans b1 b2) b3) b4) b5) b6⟩

set_option maxRecDepth 100000 in
/-- what the walk gives, for every argument and every world that holds what is listed -/
theorem contract (H : Type) (enc : TypeId × Value → H) (W : World) (base : Nat) (args : Array Value) (ds gs : List (DataW H)) (before : List MemPlace)
    (hval0 : ∀ (j : Nat) t v, Tryd.f7.params[j]? = some t → args[j]? = some v → Value.okWide Tryd.prog W .any base t v)
    (hW : DataW.Whole enc Tryd.prog Tryd.f7.params.toList Rows.propDecodesSpec.vars false W args.toList ds gs before)
    (hsz0 : (DataW.weightsEach Tryd.prog (Tryd.f7.params.toList ++ Rows.propDecodesSpec.plain.varTypes Tryd.prog) (ds ++ gs)).all (· ≤ reachBytes) = true)
    (hL : laidMetH Tryd.prog Rows.propDecodesRow.laid W) :
    Calls Tryd.prog 7 args W fun e W' => ∃ v, e = .returned v ∧ Rows.propDecodesSpec.post enc Tryd.prog Tryd.f7 false true false false W args v W' := by
  have hval : ∀ (j : Nat) t v, Tryd.f7.params[j]? = some t → args[j]? = some v → Value.okWide Tryd.prog W .any base t v := hval0
  have hsz : (DataW.weightsEach Tryd.prog (Tryd.f7.params.toList ++ Rows.propDecodesSpec.plain.varTypes Tryd.prog) (ds ++ gs)).all (· ≤ reachBytes) = true := hsz0
  have hT : Tab W := tab_of_laid hL
  have hW' := hW
  obtain ⟨p, q, hA0, hV, rfl, hfz, hnd⟩ := hW
  have hA : DataW.TrodAll enc Tryd.prog W 0 (fun _ => true) true Tryd.f7.params.toList args.toList ds p := hA0
  rw [Tryd.params7] at hA hval hsz
  obtain ⟨v0, vs0, d0, ds0, p0, q0, hargs, rfl, rfl, h0, r0⟩ := trodAll_cons hA
  obtain ⟨rfl, rfl, rfl⟩ := trodAll_nil r0
  obtain rfl : args = #[v0] := by cases args; simp_all
  obtain ⟨rfl, rfl⟩ := trodVars_none hV
  obtain ⟨s0, l0, c0, rfl⟩ := okWide_slice Tryd.underlying32 (hval 0 32 v0 rfl rfl)
  have k0 := h0
  have lt0 : ∀ x ∈ p0, x.block < W.heap.size := by obtain ⟨m, hm⟩ := k0; exact DataW.trod_lt m _ _ _ hm
  obtain ⟨x0, r100, f0, hd0⟩ := rd_open (k := .u8) Tryd.underlying32 Tryd.underlying5 (by kernel_rfl) h0
  have z0 : x0.length * 1 ≤ 140737488351232 := by
    rcases hd0 with rfl | ⟨ys, zs, rfl, hle⟩
    · simp
    · have := sized_slice hsz (j := 0) (t := 32) (e := 5) rfl rfl Tryd.underlying32
      rw [bytes5] at this
      unfold reachBytes at this
      omega
  clear hA0 hval0 hsz0
  refine (walk (.slice s0 l0 c0) x0 W hT r100 f0 z0).mono fun e W' ⟨he, bel⟩ => ?_
  subst he
  exact ⟨_, rfl, _, _, _, [], _, [], hW', trodAll_mk1 (shut_bool Tryd.underlying4 _), (trodAll_cons_mk (Below.trod laidOut (by kernel_rfl) (of_decide_eq_true (by kernel_rfl)) k0 bel lt0) trodAll_mk0), rfl, bel.frame _, fun h => by cases h⟩

/-- a world for the witness: the settled one, the listed blocks as their initialisers lay them -/
def layBlock (b : Nat × Array Value) : Obj → Obj
  | .cells _ t frozen => .cells b.2 t frozen
  | o => o
noncomputable def laidWorld (os : Os) : World :=
  { World.holding Tryd.prog os ⟨laidObjs, #[], []⟩ with heap := laidBlocks.foldl (fun h b => h.modify b.1 (layBlock b)) (World.holding Tryd.prog os ⟨laidObjs, #[], []⟩).heap }
theorem laid_met (os : Os) : laidMet Tryd.prog Rows.propDecodesRow.laid ((laidWorld os).forCall (fun _ _ => 0) ⟨#[], #[.slice none 0 0], []⟩).memory :=
  laidMet_of_run' 8 (by kernel_rfl) (by kernel_rfl)
theorem reads (os : Os) {H : Type} (enc : TypeId × Value → H) : ∃ places, DataW.whole enc Tryd.prog ((laidWorld os).forCall (fun _ _ => 0) ⟨#[], #[.slice none 0 0], []⟩).memory Tryd.f7.params.toList Rows.propDecodesSpec.vars false #[.slice none 0 0].toList 8 = some ([.nil], [], places) :=
  ⟨[], by kernel_rfl⟩

set_option maxRecDepth 100000 in
theorem lifted (os : Os) (started : os.Started) (H : Type) (enc : TypeId × Value → H) (F : Stop.Interp) :
    ReturnsInHanded {} Tryd.checked os 7 .any ((OpenSpec.ofChange Rows.propDecodesSpec).preRow enc Tryd.prog Tryd.f7 Rows.propDecodesRow.domain false Rows.propDecodesRow.laid) (((OpenSpec.ofChange Rows.propDecodesSpec).at F).post enc Tryd.prog Tryd.f7 false true false false) := by
  obtain ⟨places, hx⟩ := reads os enc
  refine returnsInHanded_of_row (C := Tryd.checked) (s := OpenSpec.ofChange Rows.propDecodesSpec) own started (by kernel_rfl) Tryd.func7
    (witness_row_at (enc := enc) (C := Tryd.checked) false (laidWorld os) #[.slice none 0 0] rfl (by kernel_rfl) (by kernel_rfl) (by kernel_rfl)
      (OpenSpec.preRow_of_cond 8 hx (by kernel_rfl) (fun k hk => by cases hk) (by kernel_rfl) (laid_met os))) ?_
  intro W base args ds gs before hval hW _ hcnd hsz hL _ _
  exact contract H enc W base args ds gs before hval hW hsz hL

theorem said : Rows.PropDecodesSaid :=
  OpenClaim.holds_of_cond 7 Tryd.f7 rfl rfl rfl rfl rfl rfl rfl ⟨rfl, rfl, rfl, rfl, rfl⟩ rfl rfl rfl rfl rfl (by kernel_rfl) Tryd.func7 (by kernel_rfl)
    (of_decide_eq_true (by kernel_rfl)) (by unfold Func.isWrapper; first | (rw [if_pos (by decide +kernel)]; kernel_rfl) | (rw [if_neg (by decide +kernel)]; exact ⟨rfl, rfl⟩))
    (fun os started H enc _ F => by rw [OpenClaim.pre_eq_preRow]; exact lifted os started H enc F)

theorem plain (f : FuncId) (fn : Func) (hf : Tryd.pinned.checked.prog.funcNamed "tinder/tinderlaw05.PropDecodes" = some f) (hfn : Tryd.pinned.checked.prog.funcs[f]? = some fn) :
    true = Tryd.pinned.checked.prog.looks [] ∧ ∀ (j : Nat) t, fn.params[j]? = some t → Tryd.pinned.checked.prog.wantsStandIn t = false := by
  obtain rfl : f = 7 := Option.some.inj ((show Tryd.prog.funcNamed "tinder/tinderlaw05.PropDecodes" = some 7 by kernel_rfl).symm.trans hf) |>.symm
  obtain rfl : fn = Tryd.f7 := (Option.some.inj (Tryd.func7.symm.trans hfn)).symm
  refine ⟨by kernel_rfl, fun j t ht => ?_⟩
  rw [Tryd.params7] at ht
  rcases j with _ | j
  · obtain rfl : t = 32 := by simpa using ht.symm
    exact (show Tryd.prog.wantsStandIn 32 = false by kernel_rfl)
  · simp at ht

theorem card : Rows.PropDecodesCardSaid :=
  Claim7.holds_tied_plain_at .later [] _ _ _ _ said (fun _ h => by cases h) (by kernel_rfl) (fun _ h => by cases h) propDecodes_row_tie rfl ⟨rfl, rfl⟩ (by kernel_rfl) rfl plain (by kernel_rfl)
end Go.Proofs.YtamhcpejebonmaaDoor.propDecodes
namespace Go.Proofs.YtamhcpejebonmaaDoor
theorem propDecodes_holds : Rows.PropDecodesCardSaid := propDecodes.card
#print axioms propDecodes_holds
end Go.Proofs.YtamhcpejebonmaaDoor
