/-
  Unit addresses are parsed and shown as the document's answer does, where what comes in is of bulk at most 1048576.
-/
import Derived.Test.YtamhcpejebonmaaDoorRows
import Derived.WalkKit
import Derived.ProofKit
import Derived.OpenShut
import Derived.ShutString
import Derived.ChangeOld
import Derived.Below
import Derived.Carry
import Derived.SizedLaws
import Derived.Deep.DeepHandedRow
import Derived.SevenTiedAt
import Derived.Test.YtamhcpejebonmaaDoorCards
import Derived.Test.YtamhcpejebonmaaDoorTie
import Derived.Test.YtamhcpejebonmaaDoorSl
import Derived.Test.YtamhcpejebonmaaDoorBk
import Derived.Deep.CondSized
import Derived.JoinedCond
import Derived.Test.YtamhcpejebonmaaDoorPal
import Derived.Test.YtamhcpejebonmaaDoorSg
import Derived.Test.YtamhcpejebonmaaDoorPtb
namespace Go.Proofs.YtamhcpejebonmaaDoor.propUnits
open Go.ChangeShapes Go.WideShapes Go.ChangeAt Go.RowKit
open Go.ChangeMaps (open_string shut_string)
set_option linter.unusedVariables false

theorem own : ownKnob Tryd.prog.godebug = none := by kernel_rfl
theorem laidOut : laidOutB Tryd.prog = true := by kernel_rfl
theorem bytes31 : Tryd.prog.bytesOf 31 = 4 := by kernel_rfl

set_option maxHeartbeats 4000000 in
set_option maxRecDepth 100000 in
theorem walk (a0 : ByteArray) (v1 : Value) (x1 : List Int) (w : World) (hT : Tab w) (w0 : a0.size ≤ maxLen) (u0 : a0.size ≤ 1048576) (r1 : Rd .u32 w v1 x1) (f1 : ∀ n ∈ x1, (Lit.int .u32 n).wf = true) (z1 : x1.length * 4 ≤ 140737488351232) (u1 : x1.length ≤ 1048576) :
    Calls Tryd.prog 4 #[.string a0, v1] w fun e w' => e = .returned (.bool true) ∧ Below w.heap.size w w' := by
  have hC := wf_cells f1
  have hz : x1.length * 16 ≤ 140737488355328 := by omega
  obtain ⟨A, E, hAE⟩ : ∃ A E, punF (L a0) = (A, E) := ⟨_, _, rfl⟩
  have c1 := fun w hT => w_ppunit a0 w hT (by omega)
  have c2 := fun w => w_rpunit a0 w (by omega)
  have c3 := fun w hT h => w_psunit v1 x1 w hT h hC hz
  have c4 := fun w h => w_rsunit v1 x1 w h hC hz
  simp only [hAE] at c1 c2
  obtain ⟨S, hS⟩ : ∃ S, strOfNums (shoF x1) = S := ⟨_, rfl⟩
  simp only [hS] at c3 c4
  clear hAE hS
  go_enter Tryd.func4, Tryd.ntmps4
  go_wp2_with (first
    | (go_at_call 9; refine (w_alive _ hT).mono ?_; rintro e q1 ⟨rfl, b1⟩; have g1 := r1.below b1; have t1 := hT.below b1)
    | (go_at_call 12; refine (c1 _ t1).mono ?_; rintro e q2 ⟨v2, rfl, r2, b2⟩; have g2 := g1.below b2)
    | (go_at_call 13; refine (c2 _).mono ?_; rintro e q3 ⟨v3, rfl, r3, b3⟩; have g3 := g2.below b3)
    | (go_at_call 14; refine (w_r3same v2 v3 _ _ q3 (r2.below b3) r3).mono ?_; rintro e q4 ⟨rfl, b4⟩; have g4 := g3.below b4; have t4 := t1.below (below_trans (below_trans b2 b3) b4))
    | (go_at_call 15; refine (c3 _ t4 g4).mono ?_; rintro e q5 ⟨rfl, b5⟩; have g5 := g4.below b5)
    | (go_at_call 16; refine (c4 _ g5).mono ?_; rintro e q6 ⟨rfl, b6⟩))
  go_ret
  exact ⟨rfl, below_trans (below_trans (below_trans (below_trans (below_trans b1 b2) b3) b4) b5) b6⟩

set_option maxRecDepth 100000 in
/-- what the walk gives, for every argument and every world that holds what is listed -/
theorem contract (H : Type) (enc : TypeId × Value → H) (W : World) (base : Nat) (args : Array Value) (ds gs : List (DataW H)) (before : List MemPlace)
    (hval0 : ∀ (j : Nat) t v, Tryd.f4.params[j]? = some t → args[j]? = some v → Value.okWide Tryd.prog W .any base t v)
    (hW : DataW.Whole enc Tryd.prog Tryd.f4.params.toList Rows.propUnitsSpec.vars false W args.toList ds gs before)
    (hsz0 : (DataW.weightsEach Tryd.prog (Tryd.f4.params.toList ++ Rows.propUnitsSpec.plain.varTypes Tryd.prog) (ds ++ gs)).all (· ≤ reachBytes) = true)
    (hL : laidMetH Tryd.prog Rows.propUnitsRow.laid W)
    (hk0 : ∀ k, (Rows.OpenSpec.upto Rows.propUnitsSpec).cond = some k → k H (ds ++ gs) = true) :
    Calls Tryd.prog 4 args W fun e W' => ∃ v, e = .returned v ∧ Rows.propUnitsSpec.post enc Tryd.prog Tryd.f4 false true false false W args v W' := by
  have hval : ∀ (j : Nat) t v, Tryd.f4.params[j]? = some t → args[j]? = some v → Value.okWide Tryd.prog W .any base t v := hval0
  have hsz : (DataW.weightsEach Tryd.prog (Tryd.f4.params.toList ++ Rows.propUnitsSpec.plain.varTypes Tryd.prog) (ds ++ gs)).all (· ≤ reachBytes) = true := hsz0
  have hT : Tab W := tab_of_laid hL
  have hW' := hW
  obtain ⟨p, q, hA0, hV, rfl, hfz, hnd⟩ := hW
  have hA : DataW.TrodAll enc Tryd.prog W 0 (fun _ => true) true Tryd.f4.params.toList args.toList ds p := hA0
  rw [Tryd.params4] at hA hval hsz
  obtain ⟨v0, vs0, d0, ds0, p0, q0, hargs, rfl, rfl, h0, r0⟩ := trodAll_cons hA
  obtain ⟨v1, vs1, d1, ds1, p1, q1, rfl, rfl, rfl, h1, r1⟩ := trodAll_cons r0
  obtain ⟨rfl, rfl, rfl⟩ := trodAll_nil r1
  obtain rfl : args = #[v0, v1] := by cases args; simp_all
  obtain ⟨rfl, rfl⟩ := trodVars_none hV
  have hkk : Rows.uptoBulkAll _ ≤ 1048576 := of_decide_eq_true (hk0 _ rfl)
  have b0 : Rows.uptoBulk d0 ≤ 1048576 := Nat.le_trans (bk_mem (by simp)) hkk
  have b1 : Rows.uptoBulk d1 ≤ 1048576 := Nat.le_trans (bk_mem (by simp)) hkk
  obtain ⟨a0, rfl, rfl, rfl, w0⟩ := open_string Tryd.underlying9 (hval 0 9 v0 rfl rfl) h0
  have u0 : a0.size ≤ 1048576 := by have h1 := bk_string (H := H) a0.data.toList; have h2 : a0.data.toList.length = a0.size := (by simp); omega
  obtain ⟨s1, l1, c1, rfl⟩ := okWide_slice Tryd.underlying24 (hval 1 24 v1 rfl rfl)
  have k1 := h1
  have lt1 : ∀ x ∈ p1, x.block < W.heap.size := by obtain ⟨m, hm⟩ := k1; exact DataW.trod_lt m _ _ _ hm
  obtain ⟨x1, r101, f1, hd1⟩ := rd_open (k := .u32) Tryd.underlying24 Tryd.underlying31 (by kernel_rfl) h1
  have z1 : x1.length * 4 ≤ 140737488351232 := by
    rcases hd1 with rfl | ⟨ys, zs, rfl, hle⟩
    · simp
    · have := sized_slice hsz (j := 1) (t := 24) (e := 31) rfl rfl Tryd.underlying24
      rw [bytes31] at this
      unfold reachBytes at this
      omega
  have u1 : x1.length ≤ 1048576 := by
    rcases hd1 with rfl | ⟨ys, zs, rfl, hle⟩
    · simp
    · have := bk_slice ys zs; omega
  clear hA0 hval0 hsz0
  refine (walk a0 (.slice s1 l1 c1) x1 W hT w0 u0 r101 f1 z1 u1).mono fun e W' ⟨he, bel⟩ => ?_
  subst he
  exact ⟨_, rfl, _, _, _, [], _, [], hW', trodAll_mk1 (shut_bool Tryd.underlying4 _), (trodAll_cons_mk (shut_string Tryd.underlying9 w0) (trodAll_cons_mk (Below.trod laidOut (by kernel_rfl) (of_decide_eq_true (by kernel_rfl)) k1 bel lt1) trodAll_mk0)), rfl, bel.frame _, fun h => by cases h⟩

/-- a world for the witness: the settled one, the listed blocks as their initialisers lay them -/
def layBlock (b : Nat × Array Value) : Obj → Obj
  | .cells _ t frozen => .cells b.2 t frozen
  | o => o
noncomputable def laidWorld (os : Os) : World :=
  { World.holding Tryd.prog os ⟨laidObjs, #[], []⟩ with heap := laidBlocks.foldl (fun h b => h.modify b.1 (layBlock b)) (World.holding Tryd.prog os ⟨laidObjs, #[], []⟩).heap }
theorem laid_met (os : Os) : laidMet Tryd.prog Rows.propUnitsRow.laid ((laidWorld os).forCall (fun _ _ => 0) ⟨#[], #[.string ⟨#[]⟩, .slice none 0 0], []⟩).memory :=
  laidMet_of_run' 8 (by kernel_rfl) (by kernel_rfl)
theorem reads (os : Os) {H : Type} (enc : TypeId × Value → H) : ∃ places, DataW.whole enc Tryd.prog ((laidWorld os).forCall (fun _ _ => 0) ⟨#[], #[.string ⟨#[]⟩, .slice none 0 0], []⟩).memory Tryd.f4.params.toList Rows.propUnitsSpec.vars false #[.string ⟨#[]⟩, .slice none 0 0].toList 8 = some ([.lit (.string []), .nil], [], places) :=
  ⟨[], by kernel_rfl⟩

set_option maxRecDepth 100000 in
theorem lifted (os : Os) (started : os.Started) (H : Type) (enc : TypeId × Value → H) (F : Stop.Interp) :
    ReturnsInHanded {} Tryd.checked os 4 .any ((Rows.OpenSpec.upto Rows.propUnitsSpec).preRow enc Tryd.prog Tryd.f4 Rows.propUnitsUptoRow.domain false Rows.propUnitsUptoRow.laid) (((Rows.OpenSpec.upto Rows.propUnitsSpec).at F).post enc Tryd.prog Tryd.f4 false true false false) := by
  obtain ⟨places, hx⟩ := reads os enc
  refine returnsInHanded_of_row (C := Tryd.checked) (s := Rows.OpenSpec.upto Rows.propUnitsSpec) own started (by kernel_rfl) Tryd.func4
    (witness_row_at (enc := enc) (C := Tryd.checked) false (laidWorld os) #[.string ⟨#[]⟩, .slice none 0 0] rfl (by kernel_rfl) (by kernel_rfl) (by kernel_rfl)
      (OpenSpec.preRow_of_cond 8 hx (by kernel_rfl) (fun k hk => by cases hk; kernel_rfl) (by kernel_rfl) (laid_met os))) ?_
  intro W base args ds gs before hval hW _ hcnd hsz hL _ _
  exact contract H enc W base args ds gs before hval hW hsz hL hcnd

theorem said : Rows.PropUnitsUptoSaid :=
  OpenClaim.holds_of_cond 4 Tryd.f4 rfl rfl rfl rfl rfl rfl rfl ⟨rfl, rfl, rfl, rfl, rfl⟩ rfl rfl rfl rfl rfl (by kernel_rfl) Tryd.func4 (by kernel_rfl)
    (of_decide_eq_true (by kernel_rfl)) (by unfold Func.isWrapper; first | (rw [if_pos (by decide +kernel)]; kernel_rfl) | (rw [if_neg (by decide +kernel)]; exact ⟨rfl, rfl⟩))
    (fun os started H enc _ F => by rw [OpenClaim.pre_eq_preRow]; exact lifted os started H enc F)

theorem plain (f : FuncId) (fn : Func) (hf : Tryd.pinned.checked.prog.funcNamed "tinder/tinderlaw05.PropUnits" = some f) (hfn : Tryd.pinned.checked.prog.funcs[f]? = some fn) :
    true = Tryd.pinned.checked.prog.looks [] ∧ ∀ (j : Nat) t, fn.params[j]? = some t → Tryd.pinned.checked.prog.wantsStandIn t = false := by
  obtain rfl : f = 4 := Option.some.inj ((show Tryd.prog.funcNamed "tinder/tinderlaw05.PropUnits" = some 4 by kernel_rfl).symm.trans hf) |>.symm
  obtain rfl : fn = Tryd.f4 := (Option.some.inj (Tryd.func4.symm.trans hfn)).symm
  refine ⟨by kernel_rfl, fun j t ht => ?_⟩
  rw [Tryd.params4] at ht
  rcases j with _ | _ | j
  · obtain rfl : t = 9 := by simpa using ht.symm
    exact (show Tryd.prog.wantsStandIn 9 = false by kernel_rfl)
  · obtain rfl : t = 24 := by simpa using ht.symm
    exact (show Tryd.prog.wantsStandIn 24 = false by kernel_rfl)
  · simp at ht

theorem card : Rows.PropUnitsUptoCardSaid :=
  Claim7.holds_tied_plain_at .later [] _ _ _ _ said (fun _ h => by cases h) (by kernel_rfl) (fun _ h => by cases h) propUnitsUpto_row_tie rfl ⟨rfl, rfl⟩ (by kernel_rfl) rfl plain (by kernel_rfl)
end Go.Proofs.YtamhcpejebonmaaDoor.propUnits
namespace Go.Proofs.YtamhcpejebonmaaDoor
theorem propUnitsUpto_holds : Rows.PropUnitsUptoCardSaid := propUnits.card
#print axioms propUnitsUpto_holds
end Go.Proofs.YtamhcpejebonmaaDoor
