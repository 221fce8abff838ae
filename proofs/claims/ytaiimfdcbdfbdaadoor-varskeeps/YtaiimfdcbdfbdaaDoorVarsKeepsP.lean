/-
  A variable that was set has the form of its value, and every other one the value that it had.
-/
import Derived.Test.YtaiimfdcbdfbdaaDoorRows
import Derived.WalkKit
import Derived.ProofKit
import Derived.OpenShut
import Derived.ShutString
import Derived.ChangeOld
import Derived.Below
import Derived.Carry
import Derived.SizedLaws
import Derived.Deep.DeepHandedRow
import Derived.SevenTiedAt
import Derived.Test.YtaiimfdcbdfbdaaDoorCards
import Derived.Test.YtaiimfdcbdfbdaaDoorTie
import Derived.Test.YtaiimfdcbdfbdaaDoorSl
import Derived.Test.YtaiimfdcbdfbdaaDoorVlw
import Derived.Test.YtaiimfdcbdfbdaaDoorSg
import Derived.Test.YtaiimfdcbdfbdaaDoorVtb
namespace Go.Proofs.YtaiimfdcbdfbdaaDoor.varsKeeps
open Go.ChangeShapes Go.WideShapes Go.ChangeAt Go.RowKit
open Go.ChangeMaps (open_string shut_string)
set_option linter.unusedVariables false
set_option linter.unusedSimpArgs false

theorem own : ownKnob Tryd.prog.godebug = none := by kernel_rfl
theorem laidOut : laidOutB Tryd.prog = true := by kernel_rfl

set_option maxHeartbeats 4000000 in
set_option maxRecDepth 100000 in
theorem walk (v0 : Value) (x0 : List Stt) (sn1 sv1 : ByteArray) (a2 : ByteArray) (w : World) (hT : Tab w) (r0 : SlR 2 stR w v0 x0) (g0 : ∀ x ∈ x0, gS x) (z0 : x0.length * 32 ≤ 140737488351232) (wn1 : sn1.size ≤ maxLen) (wv1 : sv1.size ≤ maxLen) (w2 : a2.size ≤ maxLen) :
    Calls Tryd.prog 8 #[v0, .agg #[.string sn1, .string sv1], .string a2] w fun e w' => e = .returned (.bool true) ∧ Below w.heap.size w w' := by
  have BZ := box_below w (.cells #[.string sn1, .string sv1] 46)
  have cZ0 := box_cell w #[.string sn1, .string sv1] 46 0 (.string sn1) rfl
  have cZ1 := box_cell w #[.string sn1, .string sv1] 46 1 (.string sv1) rfl
  have c1 := fun w hT h => w_pset19 v0 x0 sn1 sv1 w hT h wv1
  have c3 := fun w hT => w_pform19 sn1 sv1 w hT wv1
  by_cases hE : (vaS x0 sn1 sv1).2 = 0
  · obtain ⟨k1, k2, k3⟩ := va_keeps x0 sn1 sv1 a2 hE
    obtain ⟨⟨M, E⟩, hM⟩ : ∃ x, vaS x0 sn1 sv1 = x := ⟨_, rfl⟩
    rw [hM] at hE k1 k3
    simp only [hM] at c1
    simp only at hE k1 k3
    subst hE
    have c2 := fun v w hT h => w_pget19 v M sn1 w hT h
    obtain ⟨⟨T, G⟩, hTe⟩ : ∃ x, vaM sn1 sv1 = x := ⟨_, rfl⟩
    rw [hTe] at k1 k2
    simp only [hTe] at c3
    simp only at k2
    subst k2
    simp only [k1] at c2
    have hq := str_beq a2 sn1
    by_cases ho : a2 = sn1
    · rw [decide_eq_true ho] at hq
      clear k1 k3 hTe hM ho
      go_enter Tryd.func8, Tryd.ntmps8
      go_wp2_with (first
        | (go_at_call 9; refine (w_alive19 _ (hT.below BZ)).mono ?_; rintro e q1 ⟨rfl, b1'⟩; have b1 := below_trans BZ b1'; have y1 := below_cell b1' cZ0; have z1 := below_cell b1' cZ1)
        | (go_at_call 17; refine (c1 _ (hT.below b1) (r0.below b1 stR_below)).mono ?_; rintro e q2 ⟨v3, rfl, r3, b2⟩; have b12 := below_trans b1 b2; have y2 := below_cell b2 y1; have z2 := below_cell b2 z1)
        | (go_at_call 21; refine (c2 _ _ (hT.below b12) r3).mono ?_; rintro e q3 ⟨rfl, b3⟩; have b13 := below_trans b12 b3; have y3 := below_cell b3 y2; have z3 := below_cell b3 z2)
        | (go_at_call 10; refine (c3 _ (hT.below b13)).mono ?_; rintro e q4 ⟨rfl, b4⟩; have b14 := below_trans b13 b4; have y4 := below_cell b4 y3; have z4 := below_cell b4 z3))
      go_ret
      exact ⟨rfl, b14⟩
    · rw [decide_eq_false ho] at hq
      have c4 := fun v w hT h => w_pget19 v M a2 w hT h
      have c5 := fun w hT h => w_pget19 v0 x0 a2 w hT h
      obtain ⟨⟨P, Q⟩, hP⟩ : ∃ x, vaGt x0 a2 = x := ⟨_, rfl⟩
      have k4 := k3 ho
      rw [hP] at k4
      simp only [k4] at c4
      simp only [hP] at c5
      clear k1 k3 k4 hTe hM ho hP
      go_enter Tryd.func8, Tryd.ntmps8
      go_upto_region 12 with (first
        | (go_at_call 9; refine (w_alive19 _ (hT.below BZ)).mono ?_; rintro e q1 ⟨rfl, b1'⟩; have b1 := below_trans BZ b1'; have y1 := below_cell b1' cZ0; have z1 := below_cell b1' cZ1)
        | (go_at_call 17; refine (c1 _ (hT.below b1) (r0.below b1 stR_below)).mono ?_; rintro e q2 ⟨v3, rfl, r3, b2⟩; have b12 := below_trans b1 b2; have y2 := below_cell b2 y1; have z2 := below_cell b2 z1)
        | (go_at_call 21; refine (c2 _ _ (hT.below b12) r3).mono ?_; rintro e q3 ⟨rfl, b3⟩; have b13 := below_trans b12 b3; have y3 := below_cell b3 y2; have z3 := below_cell b3 z2)
        | (go_at_call 10; refine (c3 _ (hT.below b13)).mono ?_; rintro e q4 ⟨rfl, b4⟩; have b14 := below_trans b13 b4; have y4 := below_cell b4 y3; have z4 := below_cell b4 z3)
        | fail)
      go_upto_region 13 with (go_at_call 21; refine (c5 _ (hT.below b14) (r0.below b14 stR_below)).mono ?_; rintro e q5 ⟨rfl, b5⟩; have b15 := below_trans b14 b5)
      go_wp2_with (go_at_call 21; refine (c4 _ _ (hT.below b15) (r3.below (below_trans b3 (below_trans b4 b5)) stR_below)).mono ?_; rintro e q6 ⟨rfl, b6⟩; have b16 := below_trans b15 b6)
      go_ret
      exact ⟨ret_b (by simp), b16⟩
  · have hn := vaS_none x0 sn1 sv1 hE
    obtain ⟨⟨M, E⟩, hM⟩ : ∃ x, vaS x0 sn1 sv1 = x := ⟨_, rfl⟩
    rw [hM] at hn hE
    simp only [hM] at c1
    simp only at hn hE
    subst hn
    clear hM
    go_enter Tryd.func8, Tryd.ntmps8
    go_wp2_with (first
      | (go_at_call 9; refine (w_alive19 _ (hT.below BZ)).mono ?_; rintro e q1 ⟨rfl, b1'⟩; have b1 := below_trans BZ b1'; have y1 := below_cell b1' cZ0; have z1 := below_cell b1' cZ1)
      | (go_at_call 17; refine (c1 _ (hT.below b1) (r0.below b1 stR_below)).mono ?_; rintro e q2 ⟨v3, rfl, r3, b2⟩; have hl3 : ∀ ty w', (Builtin.len_ #[30] ty #[v3]).run Tryd.prog w' = .ok (.int .i64 0) w' := slr_len r3 uSt (P := Tryd.prog)))
    go_ret
    exact ⟨ret_b (by simp), below_trans b1 b2⟩

set_option maxRecDepth 100000 in
/-- what the walk gives, for every argument and every world that holds what is listed -/
theorem contract (H : Type) (enc : TypeId × Value → H) (W : World) (base : Nat) (args : Array Value) (ds gs : List (DataW H)) (before : List MemPlace)
    (hval0 : ∀ (j : Nat) t v, Tryd.f8.params[j]? = some t → args[j]? = some v → Value.okWide Tryd.prog W .any base t v)
    (hW : DataW.Whole enc Tryd.prog Tryd.f8.params.toList Rows.varsKeepsSpec.vars false W args.toList ds gs before)
    (hsz0 : (DataW.weightsEach Tryd.prog (Tryd.f8.params.toList ++ Rows.varsKeepsSpec.plain.varTypes Tryd.prog) (ds ++ gs)).all (· ≤ reachBytes) = true)
    (hL : laidMetH Tryd.prog Rows.varsKeepsRow.laid W) :
    Calls Tryd.prog 8 args W fun e W' => ∃ v, e = .returned v ∧ Rows.varsKeepsSpec.post enc Tryd.prog Tryd.f8 false true false false W args v W' := by
  have hval : ∀ (j : Nat) t v, Tryd.f8.params[j]? = some t → args[j]? = some v → Value.okWide Tryd.prog W .any base t v := hval0
  have hsz : (DataW.weightsEach Tryd.prog (Tryd.f8.params.toList ++ Rows.varsKeepsSpec.plain.varTypes Tryd.prog) (ds ++ gs)).all (· ≤ reachBytes) = true := hsz0
  have hT : Tab W := tab_of_laid hL
  have hW' := hW
  obtain ⟨p, q, hA0, hV, rfl, hfz, hnd⟩ := hW
  have hA : DataW.TrodAll enc Tryd.prog W 0 (fun _ => true) true Tryd.f8.params.toList args.toList ds p := hA0
  rw [Tryd.params8] at hA hval hsz
  obtain ⟨v0, vs0, d0, ds0, p0, q0, hargs, rfl, rfl, h0, r0⟩ := trodAll_cons hA
  obtain ⟨v1, vs1, d1, ds1, p1, q1, rfl, rfl, rfl, h1, r1⟩ := trodAll_cons r0
  obtain ⟨v2, vs2, d2, ds2, p2, q2, rfl, rfl, rfl, h2, r2⟩ := trodAll_cons r1
  obtain ⟨rfl, rfl, rfl⟩ := trodAll_nil r2
  obtain rfl : args = #[v0, v1, v2] := by cases args; simp_all
  obtain ⟨rfl, rfl⟩ := trodVars_none hV
  obtain ⟨s0, l0, c0, rfl⟩ := okWide_slice Tryd.underlying30 (hval 0 30 v0 rfl rfl)
  have k0 := h0
  have lt0 : ∀ x ∈ p0, x.block < W.heap.size := by obtain ⟨m, hm⟩ := k0; exact DataW.trod_lt m _ _ _ hm
  obtain ⟨x0, r100, g0, z0⟩ := sts_open h0 (fun n hn => by simpa using List.all_eq_true.1 hsz n (DataW.weights_mem_each (j := 0) (t := 30) (d := d0) rfl rfl n hn))
  have k1 := h1
  have lt1 : ∀ x ∈ p1, x.block < W.heap.size := by obtain ⟨m, hm⟩ := k1; exact DataW.trod_lt m _ _ _ hm
  obtain ⟨sn1, sv1, rfl, wn1, wv1⟩ := st_open (hval 1 46 v1 rfl rfl) h1 (fun n hn => by simpa using List.all_eq_true.1 hsz n (DataW.weights_mem_each (j := 1) (t := 46) (d := d1) rfl rfl n hn))
  obtain ⟨a2, rfl, rfl, rfl, w2⟩ := open_string Tryd.underlying9 (hval 2 9 v2 rfl rfl) h2
  clear hA0 hval0 hsz0
  refine (walk (.slice s0 l0 c0) x0 sn1 sv1 a2 W hT r100 g0 z0 wn1 wv1 w2).mono fun e W' ⟨he, bel⟩ => ?_
  subst he
  exact ⟨_, rfl, _, _, _, [], _, [], hW', trodAll_mk1 (shut_bool Tryd.underlying4 _), (trodAll_cons_mk (Below.trod laidOut (by kernel_rfl) (of_decide_eq_true (by kernel_rfl)) k0 bel lt0) (trodAll_cons_mk (Below.trod laidOut (by kernel_rfl) (of_decide_eq_true (by kernel_rfl)) k1 bel lt1) (trodAll_cons_mk (shut_string Tryd.underlying9 w2) trodAll_mk0))), rfl, bel.frame _, fun h => by cases h⟩

/-- a world for the witness: the settled one, the listed blocks as their initialisers lay them -/
def layBlock (b : Nat × Array Value) : Obj → Obj
  | .cells _ t frozen => .cells b.2 t frozen
  | o => o
noncomputable def laidWorld (os : Os) : World :=
  { World.holding Tryd.prog os ⟨#[], #[], []⟩ with heap := laidBlocks.foldl (fun h b => h.modify b.1 (layBlock b)) (World.holding Tryd.prog os ⟨#[], #[], []⟩).heap }
theorem laid_met (os : Os) : laidMet Tryd.prog Rows.varsKeepsRow.laid ((laidWorld os).forCall (fun _ _ => 0) ⟨#[], #[.slice none 0 0, .agg #[.string ⟨#[]⟩, .string ⟨#[]⟩], .string ⟨#[]⟩], []⟩).memory :=
  laidMet_of_run' 8 (by kernel_rfl) (by kernel_rfl)
theorem reads (os : Os) {H : Type} (enc : TypeId × Value → H) : ∃ places, DataW.whole enc Tryd.prog ((laidWorld os).forCall (fun _ _ => 0) ⟨#[], #[.slice none 0 0, .agg #[.string ⟨#[]⟩, .string ⟨#[]⟩], .string ⟨#[]⟩], []⟩).memory Tryd.f8.params.toList Rows.varsKeepsSpec.vars false #[.slice none 0 0, .agg #[.string ⟨#[]⟩, .string ⟨#[]⟩], .string ⟨#[]⟩].toList 8 = some ([.nil, .agg [.lit (.string []), .lit (.string [])], .lit (.string [])], [], places) :=
  ⟨[], by kernel_rfl⟩

set_option maxRecDepth 100000 in
theorem lifted (os : Os) (started : os.Started) (H : Type) (enc : TypeId × Value → H) (F : Stop.Interp) :
    ReturnsInHanded {} Tryd.checked os 8 .any ((OpenSpec.ofChange Rows.varsKeepsSpec).preRow enc Tryd.prog Tryd.f8 Rows.varsKeepsRow.domain false Rows.varsKeepsRow.laid) (((OpenSpec.ofChange Rows.varsKeepsSpec).at F).post enc Tryd.prog Tryd.f8 false true false false) := by
  obtain ⟨places, hx⟩ := reads os enc
  refine returnsInHanded_of_row (C := Tryd.checked) (s := OpenSpec.ofChange Rows.varsKeepsSpec) own started (by kernel_rfl) Tryd.func8
    (witness_row_at (enc := enc) (C := Tryd.checked) false (laidWorld os) #[.slice none 0 0, .agg #[.string ⟨#[]⟩, .string ⟨#[]⟩], .string ⟨#[]⟩] rfl (by kernel_rfl) (by kernel_rfl) (by kernel_rfl)
      (OpenSpec.preRow_of_cond 8 hx (by kernel_rfl) (fun k hk => by cases hk) (by kernel_rfl) (laid_met os))) ?_
  intro W base args ds gs before hval hW _ hcnd hsz hL _ _
  exact contract H enc W base args ds gs before hval hW hsz hL

theorem said : Rows.VarsKeepsSaid :=
  OpenClaim.holds_of_cond 8 Tryd.f8 rfl rfl rfl rfl rfl rfl rfl ⟨rfl, rfl, rfl, rfl, rfl⟩ rfl rfl rfl rfl rfl (by kernel_rfl) Tryd.func8 (by kernel_rfl)
    (of_decide_eq_true (by kernel_rfl)) (by unfold Func.isWrapper; first | (rw [if_pos (by decide +kernel)]; kernel_rfl) | (rw [if_neg (by decide +kernel)]; exact ⟨rfl, rfl⟩))
    (fun os started H enc _ F => by rw [OpenClaim.pre_eq_preRow]; exact lifted os started H enc F)

theorem plain (f : FuncId) (fn : Func) (hf : Tryd.pinned.checked.prog.funcNamed "tinder/tinderlaw19.VarsKeeps" = some f) (hfn : Tryd.pinned.checked.prog.funcs[f]? = some fn) :
    false = Tryd.pinned.checked.prog.looks [] ∧ ∀ (j : Nat) t, fn.params[j]? = some t → Tryd.pinned.checked.prog.wantsStandIn t = false := by
  obtain rfl : f = 8 := Option.some.inj ((show Tryd.prog.funcNamed "tinder/tinderlaw19.VarsKeeps" = some 8 by kernel_rfl).symm.trans hf) |>.symm
  obtain rfl : fn = Tryd.f8 := (Option.some.inj (Tryd.func8.symm.trans hfn)).symm
  refine ⟨by kernel_rfl, fun j t ht => ?_⟩
  rw [Tryd.params8] at ht
  rcases j with _ | _ | _ | j
  · obtain rfl : t = 30 := by simpa using ht.symm
    exact (show Tryd.prog.wantsStandIn 30 = false by kernel_rfl)
  · obtain rfl : t = 46 := by simpa using ht.symm
    exact (show Tryd.prog.wantsStandIn 46 = false by kernel_rfl)
  · obtain rfl : t = 9 := by simpa using ht.symm
    exact (show Tryd.prog.wantsStandIn 9 = false by kernel_rfl)
  · simp at ht

theorem card : Rows.VarsKeepsCardSaid :=
  Claim7.holds_tied_plain_at .later [] _ _ _ _ said (fun _ h => by cases h) (by kernel_rfl) (fun _ h => by cases h) varsKeeps_row_tie rfl ⟨rfl, rfl⟩ (by kernel_rfl) rfl plain (by kernel_rfl)
end Go.Proofs.YtaiimfdcbdfbdaaDoor.varsKeeps
namespace Go.Proofs.YtaiimfdcbdfbdaaDoor
theorem varsKeeps_holds : Rows.VarsKeepsCardSaid := varsKeeps.card
#print axioms varsKeeps_holds
end Go.Proofs.YtaiimfdcbdfbdaaDoor
