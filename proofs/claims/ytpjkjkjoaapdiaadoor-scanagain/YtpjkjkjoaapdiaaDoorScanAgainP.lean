/-
  What is cut and shown is cut to as many tokens, and they are shown alike.
-/
import Derived.Test.YtpjkjkjoaapdiaaDoorRows
import Derived.WalkKit
import Derived.ProofKit
import Derived.OpenShut
import Derived.ShutString
import Derived.ChangeOld
import Derived.Below
import Derived.Carry
import Derived.SizedLaws
import Derived.Deep.DeepHandedRow
import Derived.SevenTiedAt
import Derived.Test.YtpjkjkjoaapdiaaDoorCards
import Derived.Test.YtpjkjkjoaapdiaaDoorTie
import Derived.Test.YtpjkjkjoaapdiaaDoorSl
import Derived.Test.YtpjkjkjoaapdiaaDoorSca
import Derived.Test.YtpjkjkjoaapdiaaDoorPsv
import Derived.Test.YtpjkjkjoaapdiaaDoorStb
namespace Go.Proofs.YtpjkjkjoaapdiaaDoor.scanAgain
open Go.ChangeShapes Go.WideShapes Go.ChangeAt Go.RowKit
open Go.ChangeMaps (open_string shut_string)
set_option linter.unusedVariables false

theorem own : ownKnob Tryd.prog.godebug = none := by kernel_rfl
theorem laidOut : laidOutB Tryd.prog = true := by kernel_rfl

set_option maxHeartbeats 4000000 in
set_option maxRecDepth 100000 in
theorem walk (a0 : ByteArray) (w : World) (hT : Tab w) (w0 : a0.size ≤ maxLen) :
    Calls Tryd.prog 6 #[.string a0] w fun e w' => e = .returned (.bool true) ∧ Below w.heap.size w w' := by
  have hok := cut_ok (L a0) (LB_bytes a0)
  have hwt := cut_wt (L a0)
  have herr := cut_err (L a0)
  have c1 := fun w hT h15 => w_pcut a0 w w0 hT h15
  have c0 := fun w hT h0 => w_pcutN a0 w w0 hT h0
  obtain ⟨A, E, hAE⟩ : ∃ A E, cutF (L a0) = (A, E) := ⟨_, _, rfl⟩
  simp only [hAE] at c1 c0 hok hwt herr
  clear hAE
  by_cases hE : E = 0
  · subst hE
    clear c0
    have hbx : ∀ x ∈ A, bytesL x.2.1 := fun x hx => (hok x hx).2
    have hz : (shwT (A.map pr)).length ≤ 100000000000 := by have := shw_wt A; have e : A.map pr = A.map (fun x => (x.1, x.2.1)) := rfl; rw [e]; omega
    have hsz : ∀ x ∈ A, x.2.1.length ≤ 100000000000 := fun x hx => by have := wt_mem hx; omega
    have c2 := fun v w h => w_pshow v A w h hbx hz hsz
    have hgood : (A.map pr).all (fun x => good x.1 x.2) = true := by
      rw [List.all_eq_true]
      intro y hy
      rw [List.mem_map] at hy
      obtain ⟨x, hx, rfl⟩ := hy
      exact (hok x hx).1
    rw [shw_ok _ hgood] at c2
    have hb2 : ∀ x ∈ A.map pr, bytesL x.2 := by
      intro y hy
      rw [List.mem_map] at hy
      obtain ⟨x, hx, rfl⟩ := hy
      exact hbx x hx
    have hTb := shwD_bytes _ hb2
    have hLT : L (strOfNums ((shwT (A.map pr)).drop 1)) = (shwT (A.map pr)).drop 1 := LB_nums _ hTb
    have hTs : (strOfNums ((shwT (A.map pr)).drop 1)).size = ((shwT (A.map pr)).drop 1).length := toB_size _
    have hTl : ((shwT (A.map pr)).drop 1).length ≤ 100000000000 := by rw [List.length_drop]; omega
    have c3 := fun w hT h15 => w_pcut (strOfNums ((shwT (A.map pr)).drop 1)) w (by rw [hTs]; unfold maxLen; omega) hT h15
    simp only [hLT] at c3
    have hla := fun v w (h : SlR 3 tokR w v A) => slr_len h uK (P := Tryd.prog)
    by_cases hlong : 4096 < ((shwT (A.map pr)).drop 1).length
    · rw [cut_long _ hlong] at c3
      have hl4 : (4096 : Int) < (strOfNums ((shwT (A.map pr)).drop 1)).size := by rw [hTs]; omega
      obtain ⟨T, hT⟩ : ∃ T, strOfNums ((shwT (A.map pr)).drop 1) = T := ⟨_, rfl⟩
      simp only [hT] at c2 c3 hl4
      clear hT hTs hLT hTb hb2 hgood hok hbx hz hsz hTl hlong
      go_enter Tryd.func6, Tryd.ntmps6
      go_wp2_with (first
        | (go_at_call 8; refine (w_alive _ hT).mono ?_; rintro e q1 ⟨rfl, b1⟩; have hT1 := hT.below b1)
        | (go_at_call_of 9 (Value.string a0); refine (c1 _ hT1 (by decide)).mono ?_; rintro e q2 ⟨v2, rfl, r2, b2⟩; have hT2 := hT1.below b2)
        | (go_at_call_of 12 v2; refine (c2 _ _ r2).mono ?_; rintro e q3 ⟨rfl, b3⟩; have hT3 := hT2.below b3)
        | (go_at_call_of 9 (Value.string T); refine (c3 _ hT3 (by decide)).mono ?_; rintro e q4 ⟨v4, rfl, r4, b4⟩))
      go_ret
      exact ⟨rfl, below_trans (below_trans (below_trans b1 b2) b3) b4⟩
    · rw [cut_shw _ (fun x hx => hb2 x hx) (fun x hx => by rw [List.all_eq_true] at hgood; exact hgood x hx) (by omega)] at c3
      have hl4 : ¬ (4096 : Int) < (strOfNums ((shwT (A.map pr)).drop 1)).size := by rw [hTs]; omega
      have hpb : (plc 0 (A.map pr)).map pr = A.map pr := plc_back _ 0
      have hpl : (plc 0 (A.map pr)).length = A.length := by rw [plc_len]; simp
      have hbm : ∀ x ∈ plc 0 (A.map pr), bytesL x.2.1 := by
        intro x hx
        have : pr x ∈ (plc 0 (A.map pr)).map pr := List.mem_map_of_mem hx
        rw [hpb] at this
        exact hb2 _ this
      have hszm : ∀ x ∈ plc 0 (A.map pr), x.2.1.length ≤ 100000000000 := by
        intro x hx
        have : pr x ∈ (plc 0 (A.map pr)).map pr := List.mem_map_of_mem hx
        rw [hpb, List.mem_map] at this
        obtain ⟨y, hy, e⟩ := this
        have := hsz y hy
        have e2 : y.2.1 = x.2.1 := congrArg Prod.snd e
        rw [← e2]
        exact this
      have c5 := fun v w h => w_pshow v (plc 0 (A.map pr)) w h hbm (by rw [hpb]; exact hz) hszm
      rw [hpb, shw_ok _ hgood] at c5
      obtain ⟨M, hM⟩ : ∃ M, plc 0 (A.map pr) = M := ⟨_, rfl⟩
      simp only [hM] at c3 c5 hpl
      obtain ⟨T, hT⟩ : ∃ T, strOfNums ((shwT (A.map pr)).drop 1) = T := ⟨_, rfl⟩
      simp only [hT] at c2 c3 c5 hl4
      have hlm := fun v w (h : SlR 3 tokR w v M) => slr_len h uK (P := Tryd.prog)
      have hpI : (M.length : Int) = A.length := by omega
      clear hT hTs hLT hTb hb2 hgood hok hbx hz hsz hTl hlong hbm hszm hpb hM hpl
      go_enter Tryd.func6, Tryd.ntmps6
      go_wp2_with (first
        | (go_at_call 8; refine (w_alive _ hT).mono ?_; rintro e q1 ⟨rfl, b1⟩; have hT1 := hT.below b1)
        | (go_at_call_of 9 (Value.string a0); refine (c1 _ hT1 (by decide)).mono ?_; rintro e q2 ⟨v2, rfl, r2, b2⟩; have hT2 := hT1.below b2; have l2 := hla _ _ r2)
        | (go_at_call_of 12 v2; refine (c2 _ _ r2).mono ?_; rintro e q3 ⟨rfl, b3⟩; have hT3 := hT2.below b3)
        | (go_at_call_of 9 (Value.string T); refine (c3 _ hT3 (by decide)).mono ?_; rintro e q4 ⟨v4, rfl, r4, b4⟩; have l4 := hlm _ _ r4)
        | (go_at_call_of 12 v4; refine (c5 _ _ r4).mono ?_; rintro e q5 ⟨rfl, b5⟩))
      go_ret
      exact ⟨rfl, below_trans (below_trans (below_trans (below_trans b1 b2) b3) b4) b5⟩
  · have hA := herr hE
    subst hA
    have hEb : (E == 0) = false := by simpa using hE
    have hEn : (E != 0) = true := by simpa using hE
    clear herr hok hwt c1
    go_enter Tryd.func6, Tryd.ntmps6
    go_wp2_with (first
      | (go_at_call 8; refine (w_alive _ hT).mono ?_; rintro e q1 ⟨rfl, b1⟩; have hT1 := hT.below b1)
      | (go_at_call_of 9 (Value.string a0); refine (c0 _ hT1 hE).mono ?_; rintro e q2 ⟨v2, E2, rfl, hn2, he2, r2, b2⟩; have l2 := slr_len r2 uK (P := Tryd.prog)))
    go_ret
    exact ⟨rfl, below_trans b1 b2⟩

set_option maxRecDepth 100000 in
/-- what the walk gives, for every argument and every world that holds what is listed -/
theorem contract (H : Type) (enc : TypeId × Value → H) (W : World) (base : Nat) (args : Array Value) (ds gs : List (DataW H)) (before : List MemPlace)
    (hval0 : ∀ (j : Nat) t v, Tryd.f6.params[j]? = some t → args[j]? = some v → Value.okWide Tryd.prog W .any base t v)
    (hW : DataW.Whole enc Tryd.prog Tryd.f6.params.toList Rows.scanAgainSpec.vars false W args.toList ds gs before)
    (hsz0 : (DataW.weightsEach Tryd.prog (Tryd.f6.params.toList ++ Rows.scanAgainSpec.plain.varTypes Tryd.prog) (ds ++ gs)).all (· ≤ reachBytes) = true)
    (hL : laidMetH Tryd.prog Rows.scanAgainRow.laid W) :
    Calls Tryd.prog 6 args W fun e W' => ∃ v, e = .returned v ∧ Rows.scanAgainSpec.post enc Tryd.prog Tryd.f6 false true false false W args v W' := by
  have hval : ∀ (j : Nat) t v, Tryd.f6.params[j]? = some t → args[j]? = some v → Value.okWide Tryd.prog W .any base t v := hval0
  have hsz : (DataW.weightsEach Tryd.prog (Tryd.f6.params.toList ++ Rows.scanAgainSpec.plain.varTypes Tryd.prog) (ds ++ gs)).all (· ≤ reachBytes) = true := hsz0
  have hT : Tab W := tab_of_laid hL
  have hW' := hW
  obtain ⟨p, q, hA0, hV, rfl, hfz, hnd⟩ := hW
  have hA : DataW.TrodAll enc Tryd.prog W 0 (fun _ => true) true Tryd.f6.params.toList args.toList ds p := hA0
  rw [Tryd.params6] at hA hval hsz
  obtain ⟨v0, vs0, d0, ds0, p0, q0, hargs, rfl, rfl, h0, r0⟩ := trodAll_cons hA
  obtain ⟨rfl, rfl, rfl⟩ := trodAll_nil r0
  obtain rfl : args = #[v0] := by cases args; simp_all
  obtain ⟨rfl, rfl⟩ := trodVars_none hV
  obtain ⟨a0, rfl, rfl, rfl, w0⟩ := open_string Tryd.underlying9 (hval 0 9 v0 rfl rfl) h0
  clear hA0 hval0 hsz0
  refine (walk a0 W hT w0).mono fun e W' ⟨he, bel⟩ => ?_
  subst he
  exact ⟨_, rfl, _, _, _, [], _, [], hW', trodAll_mk1 (shut_bool Tryd.underlying4 _), (trodAll_cons_mk (shut_string Tryd.underlying9 w0) trodAll_mk0), rfl, bel.frame _, fun h => by cases h⟩

/-- a world for the witness: the settled one, the listed blocks as their initialisers lay them -/
def layBlock (b : Nat × Array Value) : Obj → Obj
  | .cells _ t frozen => .cells b.2 t frozen
  | o => o
noncomputable def laidWorld (os : Os) : World :=
  { World.holding Tryd.prog os ⟨laidObjs, #[], []⟩ with heap := laidBlocks.foldl (fun h b => h.modify b.1 (layBlock b)) (World.holding Tryd.prog os ⟨laidObjs, #[], []⟩).heap }
theorem laid_met (os : Os) : laidMet Tryd.prog Rows.scanAgainRow.laid ((laidWorld os).forCall (fun _ _ => 0) ⟨#[], #[.string ⟨#[]⟩], []⟩).memory :=
  laidMet_of_run' 8 (by kernel_rfl) (by kernel_rfl)
theorem reads (os : Os) {H : Type} (enc : TypeId × Value → H) : ∃ places, DataW.whole enc Tryd.prog ((laidWorld os).forCall (fun _ _ => 0) ⟨#[], #[.string ⟨#[]⟩], []⟩).memory Tryd.f6.params.toList Rows.scanAgainSpec.vars false #[.string ⟨#[]⟩].toList 8 = some ([.lit (.string [])], [], places) :=
  ⟨[], by kernel_rfl⟩

set_option maxRecDepth 100000 in
theorem lifted (os : Os) (started : os.Started) (H : Type) (enc : TypeId × Value → H) (F : Stop.Interp) :
    ReturnsInHanded {} Tryd.checked os 6 .any ((OpenSpec.ofChange Rows.scanAgainSpec).preRow enc Tryd.prog Tryd.f6 Rows.scanAgainRow.domain false Rows.scanAgainRow.laid) (((OpenSpec.ofChange Rows.scanAgainSpec).at F).post enc Tryd.prog Tryd.f6 false true false false) := by
  obtain ⟨places, hx⟩ := reads os enc
  refine returnsInHanded_of_row (C := Tryd.checked) (s := OpenSpec.ofChange Rows.scanAgainSpec) own started (by kernel_rfl) Tryd.func6
    (witness_row_at (enc := enc) (C := Tryd.checked) false (laidWorld os) #[.string ⟨#[]⟩] rfl (by kernel_rfl) (by kernel_rfl) (by kernel_rfl)
      (OpenSpec.preRow_of_cond 8 hx (by kernel_rfl) (fun k hk => by cases hk) (by kernel_rfl) (laid_met os))) ?_
  intro W base args ds gs before hval hW _ hcnd hsz hL _ _
  exact contract H enc W base args ds gs before hval hW hsz hL

theorem said : Rows.ScanAgainSaid :=
  OpenClaim.holds_of_cond 6 Tryd.f6 rfl rfl rfl rfl rfl rfl rfl ⟨rfl, rfl, rfl, rfl, rfl⟩ rfl rfl rfl rfl rfl (by kernel_rfl) Tryd.func6 (by kernel_rfl)
    (of_decide_eq_true (by kernel_rfl)) (by unfold Func.isWrapper; first | (rw [if_pos (by decide +kernel)]; kernel_rfl) | (rw [if_neg (by decide +kernel)]; exact ⟨rfl, rfl⟩))
    (fun os started H enc _ F => by rw [OpenClaim.pre_eq_preRow]; exact lifted os started H enc F)

theorem plain (f : FuncId) (fn : Func) (hf : Tryd.pinned.checked.prog.funcNamed "tinder/tinderlaw06.ScanAgain" = some f) (hfn : Tryd.pinned.checked.prog.funcs[f]? = some fn) :
    true = Tryd.pinned.checked.prog.looks [] ∧ ∀ (j : Nat) t, fn.params[j]? = some t → Tryd.pinned.checked.prog.wantsStandIn t = false := by
  obtain rfl : f = 6 := Option.some.inj ((show Tryd.prog.funcNamed "tinder/tinderlaw06.ScanAgain" = some 6 by kernel_rfl).symm.trans hf) |>.symm
  obtain rfl : fn = Tryd.f6 := (Option.some.inj (Tryd.func6.symm.trans hfn)).symm
  refine ⟨by kernel_rfl, fun j t ht => ?_⟩
  rw [Tryd.params6] at ht
  rcases j with _ | j
  · obtain rfl : t = 9 := by simpa using ht.symm
    exact (show Tryd.prog.wantsStandIn 9 = false by kernel_rfl)
  · simp at ht

theorem card : Rows.ScanAgainCardSaid :=
  Claim7.holds_tied_plain_at .later [] _ _ _ _ said (fun _ h => by cases h) (by kernel_rfl) (fun _ h => by cases h) scanAgain_row_tie rfl ⟨rfl, rfl⟩ (by kernel_rfl) rfl plain (by kernel_rfl)
end Go.Proofs.YtpjkjkjoaapdiaaDoor.scanAgain
namespace Go.Proofs.YtpjkjkjoaapdiaaDoor
theorem scanAgain_holds : Rows.ScanAgainCardSaid := scanAgain.card
#print axioms scanAgain_holds
end Go.Proofs.YtpjkjkjoaapdiaaDoor
