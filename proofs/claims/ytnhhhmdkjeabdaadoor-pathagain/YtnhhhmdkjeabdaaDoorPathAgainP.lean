/-
  A path that is parsed and shown means the same steps, in no more bytes.
-/
import Derived.Test.YtnhhhmdkjeabdaaDoorRows
import Derived.WalkKit
import Derived.ProofKit
import Derived.OpenShut
import Derived.ShutString
import Derived.ChangeOld
import Derived.Below
import Derived.Carry
import Derived.SizedLaws
import Derived.Deep.DeepHandedRow
import Derived.SevenTiedAt
import Derived.Test.YtnhhhmdkjeabdaaDoorCards
import Derived.Test.YtnhhhmdkjeabdaaDoorTie
import Derived.Test.YtnhhhmdkjeabdaaDoorSl
import Derived.Test.YtnhhhmdkjeabdaaDoorPav
import Derived.Test.YtnhhhmdkjeabdaaDoorStp
import Derived.Test.YtnhhhmdkjeabdaaDoorAlp
import Derived.Test.YtnhhhmdkjeabdaaDoorQtb
namespace Go.Proofs.YtnhhhmdkjeabdaaDoor.pathAgain
open Go.ChangeShapes Go.WideShapes Go.ChangeAt Go.RowKit
open Go.ChangeMaps (open_string shut_string)
set_option linter.unusedVariables false

theorem own : ownKnob Tryd.prog.godebug = none := by kernel_rfl
theorem laidOut : laidOutB Tryd.prog = true := by kernel_rfl

set_option maxHeartbeats 4000000 in
set_option maxRecDepth 100000 in
theorem walk (a0 : ByteArray) (w : World) (hT : Tab w) (w0 : a0.size ≤ maxLen) :
    Calls Tryd.prog 7 #[.string a0] w fun e w' => e = .returned (.bool true) ∧ Below w.heap.size w w' := by
  have hs0 := w0
  unfold maxLen at hs0
  have hbx := par_bytes (L a0) (LB_bytes a0)
  have c1 := fun w hT => w_ppath a0 w w0 hT
  have hok := par_ok (L a0) (LB_bytes a0)
  have hsp := par_shp (L a0) (LB_bytes a0)
  have her := par_err (L a0)
  have hlg := par_long (L a0)
  rw [L_len] at hlg
  obtain ⟨A, E, hAE⟩ : ∃ A E, parF (L a0) = (A, E) := ⟨_, _, rfl⟩
  simp only [hAE] at c1 hbx hok hsp her hlg
  clear hAE
  by_cases hE : E = 0
  · subst hE
    obtain ⟨o1, o2, o3, o4⟩ := hok rfl
    obtain ⟨s1, s2⟩ := hsp rfl
    rw [L_len] at o2 o3 s2
    have hcx : ∀ x ∈ A, cells x.2.1 := fun x hx => (o1 x hx).2.1
    have hz : (shpT A).length ≤ 100000000000 := by omega
    have hsz : ∀ x ∈ A, x.1.length ≤ 100000000000 ∧ x.2.1.length ≤ 100000000000 ∧ x.2.2.length ≤ 100000000000 := by
      intro x hx
      have h1 : ∀ l : List Sp, x ∈ l → x.1.length + x.2.2.length ≤ (shpT l).length := by
        intro l
        induction l with
        | nil => intro h; simp at h
        | cons y l ih =>
          intro h
          simp only [shpT, List.length_cons, List.length_append]
          rcases List.mem_cons.1 h with rfl | h
          · unfold bodT
            simp only [List.length_append]
            split <;> split <;> simp_all <;> omega
          · have := ih h
            omega
      have h2 := h1 A hx
      have h3 := (ok_parts (o1 x hx).1).2.1
      omega
    have c2 := fun v w h hT => w_pshow7 v A w h hbx hcx hz hsz hT
    have hbk := shp_back A hcx s1
    have hby := shp_bytes A hbx hcx
    obtain ⟨P, F, hPF⟩ : ∃ P F, shpF A = (P, F) := ⟨_, _, rfl⟩
    simp only [hPF] at c2 hbk hby s1 s2
    subst s1
    have hLT : L (strOfNums P) = P := LB_nums _ hby
    have hTs : (strOfNums P).size = P.length := toB_size _
    have c3 := fun w hT => w_ppath (strOfNums P) w (by rw [hTs]; unfold maxLen; omega) hT
    simp only [hLT, hbk] at c3
    obtain ⟨T, hTT⟩ : ∃ T, strOfNums P = T := ⟨_, rfl⟩
    simp only [hTT] at c2 c3 hTs
    have hle : (T.size : Int) ≤ a0.size := by omega
    clear hTT hTs hLT hbk hby hPF o1 o2 o3 o4 hok hsp her hlg hz hsz hcx s2
    go_enter Tryd.func7, Tryd.ntmps7
    go_wp2_with (first
      | (go_at_call 8; refine (w_alive7 _ hT).mono ?_; rintro e q1 ⟨rfl, b1⟩; have hT1 := hT.below b1)
      | (go_at_call_of 9 (Value.string a0); refine (c1 _ hT1).mono ?_; rintro e q2 ⟨v2, rfl, r2, b2⟩; have hT2 := hT1.below b2)
      | (go_at_call 12; refine (c2 _ _ r2 hT2).mono ?_; rintro e q3 ⟨rfl, b3⟩; have hT3 := hT2.below b3)
      | (go_at_call_of 9 (Value.string T); refine (c3 _ hT3).mono ?_; rintro e q4 ⟨v4, rfl, r4, b4⟩; have bb := below_trans b3 b4; have g2 := r2.below bb (stpR_below bb))
      | (go_at_call 11; refine (w_r7same v2 v4 A A q4 g2 r4 hbx hbx).mono ?_; rintro e q5 ⟨rfl, b5⟩))
    go_ret
    exact ⟨by simp, below_trans (below_trans (below_trans (below_trans b1 b2) b3) b4) b5⟩
  · have hA := her hE
    subst hA
    have hEn : (E != 0) = true := by simpa using hE
    have hq : (E == 3) = decide ((256 : Int) < a0.size) := by
      rw [Bool.eq_iff_iff, beq_iff_eq, decide_eq_true_eq, hlg]
      omega
    clear hok hsp her hlg hbx
    by_cases h256 : (256 : Int) < a0.size
    · rw [decide_eq_true h256] at hq
      go_enter Tryd.func7, Tryd.ntmps7
      go_wp2_with (first
        | (go_at_call 8; refine (w_alive7 _ hT).mono ?_; rintro e q1 ⟨rfl, b1⟩; have hT1 := hT.below b1)
        | (go_at_call_of 9 (Value.string a0); refine (c1 _ hT1).mono ?_; rintro e q2 ⟨v2, rfl, r2, b2⟩; have l2 := slr_len r2 uP (P := Tryd.prog)))
      go_ret
      exact ⟨by first | rfl | exact ret_b (by rw [decide_eq_false h256]; rfl) | exact ret_b (by simp [h256]), below_trans b1 b2⟩
    · rw [decide_eq_false h256] at hq
      go_enter Tryd.func7, Tryd.ntmps7
      go_wp2_with (first
        | (go_at_call 8; refine (w_alive7 _ hT).mono ?_; rintro e q1 ⟨rfl, b1⟩; have hT1 := hT.below b1)
        | (go_at_call_of 9 (Value.string a0); refine (c1 _ hT1).mono ?_; rintro e q2 ⟨v2, rfl, r2, b2⟩; have l2 := slr_len r2 uP (P := Tryd.prog)))
      go_ret
      exact ⟨by first | rfl | exact ret_b (by rw [decide_eq_false h256]; rfl) | exact ret_b (by simp [h256]), below_trans b1 b2⟩

set_option maxRecDepth 100000 in
/-- what the walk gives, for every argument and every world that holds what is listed -/
theorem contract (H : Type) (enc : TypeId × Value → H) (W : World) (base : Nat) (args : Array Value) (ds gs : List (DataW H)) (before : List MemPlace)
    (hval0 : ∀ (j : Nat) t v, Tryd.f7.params[j]? = some t → args[j]? = some v → Value.okWide Tryd.prog W .any base t v)
    (hW : DataW.Whole enc Tryd.prog Tryd.f7.params.toList Rows.pathAgainSpec.vars false W args.toList ds gs before)
    (hsz0 : (DataW.weightsEach Tryd.prog (Tryd.f7.params.toList ++ Rows.pathAgainSpec.plain.varTypes Tryd.prog) (ds ++ gs)).all (· ≤ reachBytes) = true)
    (hL : laidMetH Tryd.prog Rows.pathAgainRow.laid W) :
    Calls Tryd.prog 7 args W fun e W' => ∃ v, e = .returned v ∧ Rows.pathAgainSpec.post enc Tryd.prog Tryd.f7 false true false false W args v W' := by
  have hval : ∀ (j : Nat) t v, Tryd.f7.params[j]? = some t → args[j]? = some v → Value.okWide Tryd.prog W .any base t v := hval0
  have hsz : (DataW.weightsEach Tryd.prog (Tryd.f7.params.toList ++ Rows.pathAgainSpec.plain.varTypes Tryd.prog) (ds ++ gs)).all (· ≤ reachBytes) = true := hsz0
  have hT : Tab W := tab_of_laid hL
  have hW' := hW
  obtain ⟨p, q, hA0, hV, rfl, hfz, hnd⟩ := hW
  have hA : DataW.TrodAll enc Tryd.prog W 0 (fun _ => true) true Tryd.f7.params.toList args.toList ds p := hA0
  rw [Tryd.params7] at hA hval hsz
  obtain ⟨v0, vs0, d0, ds0, p0, q0, hargs, rfl, rfl, h0, r0⟩ := trodAll_cons hA
  obtain ⟨rfl, rfl, rfl⟩ := trodAll_nil r0
  obtain rfl : args = #[v0] := by cases args; simp_all
  obtain ⟨rfl, rfl⟩ := trodVars_none hV
  obtain ⟨a0, rfl, rfl, rfl, w0⟩ := open_string Tryd.underlying9 (hval 0 9 v0 rfl rfl) h0
  clear hA0 hval0 hsz0
  refine (walk a0 W hT w0).mono fun e W' ⟨he, bel⟩ => ?_
  subst he
  exact ⟨_, rfl, _, _, _, [], _, [], hW', trodAll_mk1 (shut_bool Tryd.underlying4 _), (trodAll_cons_mk (shut_string Tryd.underlying9 w0) trodAll_mk0), rfl, bel.frame _, fun h => by cases h⟩

/-- a world for the witness: the settled one, the listed blocks as their initialisers lay them -/
def layBlock (b : Nat × Array Value) : Obj → Obj
  | .cells _ t frozen => .cells b.2 t frozen
  | o => o
noncomputable def laidWorld (os : Os) : World :=
  { World.holding Tryd.prog os ⟨laidObjs, #[], []⟩ with heap := laidBlocks.foldl (fun h b => h.modify b.1 (layBlock b)) (World.holding Tryd.prog os ⟨laidObjs, #[], []⟩).heap }
theorem laid_met (os : Os) : laidMet Tryd.prog Rows.pathAgainRow.laid ((laidWorld os).forCall (fun _ _ => 0) ⟨#[], #[.string ⟨#[]⟩], []⟩).memory :=
  laidMet_of_run' 8 (by kernel_rfl) (by kernel_rfl)
theorem reads (os : Os) {H : Type} (enc : TypeId × Value → H) : ∃ places, DataW.whole enc Tryd.prog ((laidWorld os).forCall (fun _ _ => 0) ⟨#[], #[.string ⟨#[]⟩], []⟩).memory Tryd.f7.params.toList Rows.pathAgainSpec.vars false #[.string ⟨#[]⟩].toList 8 = some ([.lit (.string [])], [], places) :=
  ⟨[], by kernel_rfl⟩

set_option maxRecDepth 100000 in
theorem lifted (os : Os) (started : os.Started) (H : Type) (enc : TypeId × Value → H) (F : Stop.Interp) :
    ReturnsInHanded {} Tryd.checked os 7 .any ((OpenSpec.ofChange Rows.pathAgainSpec).preRow enc Tryd.prog Tryd.f7 Rows.pathAgainRow.domain false Rows.pathAgainRow.laid) (((OpenSpec.ofChange Rows.pathAgainSpec).at F).post enc Tryd.prog Tryd.f7 false true false false) := by
  obtain ⟨places, hx⟩ := reads os enc
  refine returnsInHanded_of_row (C := Tryd.checked) (s := OpenSpec.ofChange Rows.pathAgainSpec) own started (by kernel_rfl) Tryd.func7
    (witness_row_at (enc := enc) (C := Tryd.checked) false (laidWorld os) #[.string ⟨#[]⟩] rfl (by kernel_rfl) (by kernel_rfl) (by kernel_rfl)
      (OpenSpec.preRow_of_cond 8 hx (by kernel_rfl) (fun k hk => by cases hk) (by kernel_rfl) (laid_met os))) ?_
  intro W base args ds gs before hval hW _ hcnd hsz hL _ _
  exact contract H enc W base args ds gs before hval hW hsz hL

theorem said : Rows.PathAgainSaid :=
  OpenClaim.holds_of_cond 7 Tryd.f7 rfl rfl rfl rfl rfl rfl rfl ⟨rfl, rfl, rfl, rfl, rfl⟩ rfl rfl rfl rfl rfl (by kernel_rfl) Tryd.func7 (by kernel_rfl)
    (of_decide_eq_true (by kernel_rfl)) (by unfold Func.isWrapper; first | (rw [if_pos (by decide +kernel)]; kernel_rfl) | (rw [if_neg (by decide +kernel)]; exact ⟨rfl, rfl⟩))
    (fun os started H enc _ F => by rw [OpenClaim.pre_eq_preRow]; exact lifted os started H enc F)

theorem plain (f : FuncId) (fn : Func) (hf : Tryd.pinned.checked.prog.funcNamed "tinder/tinderlaw07.PathAgain" = some f) (hfn : Tryd.pinned.checked.prog.funcs[f]? = some fn) :
    true = Tryd.pinned.checked.prog.looks [] ∧ ∀ (j : Nat) t, fn.params[j]? = some t → Tryd.pinned.checked.prog.wantsStandIn t = false := by
  obtain rfl : f = 7 := Option.some.inj ((show Tryd.prog.funcNamed "tinder/tinderlaw07.PathAgain" = some 7 by kernel_rfl).symm.trans hf) |>.symm
  obtain rfl : fn = Tryd.f7 := (Option.some.inj (Tryd.func7.symm.trans hfn)).symm
  refine ⟨by kernel_rfl, fun j t ht => ?_⟩
  rw [Tryd.params7] at ht
  rcases j with _ | j
  · obtain rfl : t = 9 := by simpa using ht.symm
    exact (show Tryd.prog.wantsStandIn 9 = false by kernel_rfl)
  · simp at ht

theorem card : Rows.PathAgainCardSaid :=
  Claim7.holds_tied_plain_at .later [] _ _ _ _ said (fun _ h => by cases h) (by kernel_rfl) (fun _ h => by cases h) pathAgain_row_tie rfl ⟨rfl, rfl⟩ (by kernel_rfl) rfl plain (by kernel_rfl)
end Go.Proofs.YtnhhhmdkjeabdaaDoor.pathAgain
namespace Go.Proofs.YtnhhhmdkjeabdaaDoor
theorem pathAgain_holds : Rows.PathAgainCardSaid := pathAgain.card
#print axioms pathAgain_holds
end Go.Proofs.YtnhhhmdkjeabdaaDoor
