/-
  Wherever the power goes while settings are saved, those from ahead are found, or, when all was written, the new ones.
-/
import Derived.Test.YtaiimfdcbdfbdabDoorRows
import Derived.WalkKit
import Derived.ProofKit
import Derived.OpenShut
import Derived.ShutString
import Derived.ChangeOld
import Derived.Below
import Derived.Carry
import Derived.SizedLaws
import Derived.Deep.DeepHandedRow
import Derived.SevenTiedAt
import Derived.Test.YtaiimfdcbdfbdabDoorCards
import Derived.Test.YtaiimfdcbdfbdabDoorTie
import Derived.Test.YtaiimfdcbdfbdabDoorB24
namespace Go.Proofs.YtaiimfdcbdfbdabDoor.varsCut
set_option maxRecDepth 100000
open Go.ChangeShapes Go.WideShapes Go.ChangeAt Go.RowKit
open Go.ChangeMaps (open_string shut_string)
set_option linter.unusedVariables false
set_option linter.unusedSimpArgs false

theorem own : ownKnob Tryd.prog.godebug = none := by kernel_rfl
theorem laidOut : laidOutB Tryd.prog = true := by kernel_rfl
theorem bytes5 : Tryd.prog.bytesOf 5 = 1 := by kernel_rfl

set_option maxHeartbeats 4000000 in
set_option maxRecDepth 100000 in
theorem walk (v0 : Value) (x0 : List Int) (v1 : Value) (x1 : List Stt) (a2 : Int) (w : World) (hT : Tab w) (r0 : Rd .u8 w v0 x0) (f0 : ∀ n ∈ x0, (Lit.int .u8 n).wf = true) (z0 : x0.length * 1 ≤ 140737488351232) (r1 : SlR 2 stR w v1 x1) (g1 : ∀ x ∈ x1, gS x) (z1 : x1.length * 32 ≤ 140737488351232) (w2 : (Lit.int .i64 a2).wf = true) :
    Calls Tryd.prog 4 #[v0, v1, .int .i64 a2] w fun e w' => e = .returned (.bool true) ∧ Below w.heap.size w w' := by
  have hb0 : bytesL x0 := fun n hn => by have := f0 n hn; simp [Lit.wf, IntKind.min, IntKind.max, IntKind.bits, IntKind.signed] at this; omega
  have n0 : -9223372036854775808 ≤ a2 ∧ a2 < 9223372036854775808 := by have := w2; simp [Lit.wf, IntKind.min, IntKind.max, IntKind.bits, IntKind.signed] at this; omega
  have zz : x0.length ≤ 140737488351232 := by omega
  have c1 := fun w hT h hl => w_psave19 v0 v1 x0 x1 w hT h hb0 hl zz
  by_cases hE : (vaSv x0 x1).2 = 0
  · obtain ⟨R, hR, hl1, hA, hN, hO⟩ := sv_cut hb0 hE
    rw [hR] at c1
    simp only at c1
    have cA := fun v w h hv => w_papply18 v0 v x0 R a2 w h hv zz n0.1 n0.2
    obtain ⟨aL, aB⟩ := hA a2
    have c3 := fun v w hT h => w_pload19 v (aplF x0 R a2) w hT h aB (by rw [aL]; decide)
    have c4 := fun w hT h => w_pload19 v0 x0 w hT h hb0 zz
    by_cases hn : (R.length : Int) ≤ a2
    · rw [hN a2 hn] at c3
      obtain ⟨M, hM⟩ : ∃ M, aplF x0 R a2 = M := ⟨_, rfl⟩
      simp only [hM] at cA c3
      clear hM hA hN hO aL aB hR hE c4 w2
      go_enter Tryd.func4, Tryd.ntmps4
      go_wp2_with (first
        | (go_at_call 7; refine (w_alive19 _ hT).mono ?_; rintro e q1 ⟨rfl, b1⟩)
        | (go_at_call 8; refine (c1 _ (hT.below b1) (r0.below b1) (r1.below b1 stR_below)).mono ?_; rintro e q2 ⟨v2, rfl, r2, b2⟩; have hl2 := slr_len r2 uPb (P := Tryd.prog); have b12 := below_trans b1 b2)
        | (go_at_call 14; refine (cA _ _ (r0.below b12) r2).mono ?_; rintro e q3 ⟨v3, rfl, o3, b3⟩; have r3 := (Rd_own o3).1; have b13 := below_trans b12 b3)
        | (go_at_call 11; refine (c3 _ _ (hT.below b13) r3).mono ?_; rintro e q4 ⟨v4, rfl, r4, b4⟩; have b14 := below_trans b13 b4)
        | (go_at_call 10; refine (w_rsame19 v4 v1 x1 x1 _ r4 (r1.below b14 stR_below)).mono ?_; rintro e q5 ⟨rfl, b5⟩))
      go_ret
      exact ⟨ret_b (by simp), below_trans b14 b5⟩
    · rw [hO a2 (by omega)] at c3
      obtain ⟨M, hM⟩ : ∃ M, aplF x0 R a2 = M := ⟨_, rfl⟩
      simp only [hM] at cA c3
      obtain ⟨L, hL⟩ : ∃ L, (vaDe (rcvF x0).1).1 = L := ⟨_, rfl⟩
      simp only [hL] at c3 c4
      clear hM hA hN hO aL aB hR hE hL w2
      go_enter Tryd.func4, Tryd.ntmps4
      go_upto_region 9 with (first
        | (go_at_call 7; refine (w_alive19 _ hT).mono ?_; rintro e q1 ⟨rfl, b1⟩)
        | (go_at_call 8; refine (c1 _ (hT.below b1) (r0.below b1) (r1.below b1 stR_below)).mono ?_; rintro e q2 ⟨v2, rfl, r2, b2⟩; have hl2 := slr_len r2 uPb (P := Tryd.prog); have b12 := below_trans b1 b2)
        | (go_at_call 14; refine (cA _ _ (r0.below b12) r2).mono ?_; rintro e q3 ⟨v3, rfl, o3, b3⟩; have r3 := (Rd_own o3).1; have b13 := below_trans b12 b3)
        | (go_at_call 11; refine (c3 _ _ (hT.below b13) r3).mono ?_; rintro e q4 ⟨v4, rfl, r4, b4⟩; have b14 := below_trans b13 b4)
        | fail)
      go_wp2_with (first
        | (go_at_call 11; refine (c4 _ (hT.below b14) (r0.below b14)).mono ?_; rintro e q5 ⟨v5, rfl, r5, b5⟩; have b15 := below_trans b14 b5)
        | (go_at_call 10; refine (w_rsame19 v4 v5 L L _ (r4.below b5 stR_below) r5).mono ?_; rintro e q6 ⟨rfl, b6⟩))
      go_ret
      exact ⟨ret_b (by simp), below_trans b15 b6⟩
  · have hn := sv_no hE
    obtain ⟨⟨R, E⟩, hX⟩ : ∃ x, vaSv x0 x1 = x := ⟨_, rfl⟩
    rw [hX] at hE hn
    simp only [hX] at c1
    simp only at hE hn
    subst hn
    clear hX w2
    go_enter Tryd.func4, Tryd.ntmps4
    go_wp2_with (first
      | (go_at_call 7; refine (w_alive19 _ hT).mono ?_; rintro e q1 ⟨rfl, b1⟩)
      | (go_at_call 8; refine (c1 _ (hT.below b1) (r0.below b1) (r1.below b1 stR_below)).mono ?_; rintro e q2 ⟨v2, rfl, r2, b2⟩; have hl2 : ∀ ty w', (Builtin.len_ #[25] ty #[v2]).run Tryd.prog w' = .ok (.int .i64 0) w' := slr_len r2 uPb (P := Tryd.prog)))
    go_ret
    exact ⟨ret_b (by simp), below_trans b1 b2⟩

set_option maxRecDepth 100000 in
/-- what the walk gives, for every argument and every world that holds what is listed -/
theorem contract (H : Type) (enc : TypeId × Value → H) (W : World) (base : Nat) (args : Array Value) (ds gs : List (DataW H)) (before : List MemPlace)
    (hval0 : ∀ (j : Nat) t v, Tryd.f4.params[j]? = some t → args[j]? = some v → Value.okWide Tryd.prog W .any base t v)
    (hW : DataW.Whole enc Tryd.prog Tryd.f4.params.toList Rows.varsCutSpec.vars false W args.toList ds gs before)
    (hsz0 : (DataW.weightsEach Tryd.prog (Tryd.f4.params.toList ++ Rows.varsCutSpec.plain.varTypes Tryd.prog) (ds ++ gs)).all (· ≤ reachBytes) = true)
    (hL : laidMetH Tryd.prog Rows.varsCutRow.laid W) :
    Calls Tryd.prog 4 args W fun e W' => ∃ v, e = .returned v ∧ Rows.varsCutSpec.post enc Tryd.prog Tryd.f4 false true false false W args v W' := by
  have hval : ∀ (j : Nat) t v, Tryd.f4.params[j]? = some t → args[j]? = some v → Value.okWide Tryd.prog W .any base t v := hval0
  have hsz : (DataW.weightsEach Tryd.prog (Tryd.f4.params.toList ++ Rows.varsCutSpec.plain.varTypes Tryd.prog) (ds ++ gs)).all (· ≤ reachBytes) = true := hsz0
  have hT : Tab W := tab_of_laid hL
  have hW' := hW
  obtain ⟨p, q, hA0, hV, rfl, hfz, hnd⟩ := hW
  have hA : DataW.TrodAll enc Tryd.prog W 0 (fun _ => true) true Tryd.f4.params.toList args.toList ds p := hA0
  rw [Tryd.params4] at hA hval hsz
  obtain ⟨v0, vs0, d0, ds0, p0, q0, hargs, rfl, rfl, h0, r0⟩ := trodAll_cons hA
  obtain ⟨v1, vs1, d1, ds1, p1, q1, rfl, rfl, rfl, h1, r1⟩ := trodAll_cons r0
  obtain ⟨v2, vs2, d2, ds2, p2, q2, rfl, rfl, rfl, h2, r2⟩ := trodAll_cons r1
  obtain ⟨rfl, rfl, rfl⟩ := trodAll_nil r2
  obtain rfl : args = #[v0, v1, v2] := by cases args; simp_all
  obtain ⟨rfl, rfl⟩ := trodVars_none hV
  obtain ⟨s0, l0, c0, rfl⟩ := okWide_slice Tryd.underlying22 (hval 0 22 v0 rfl rfl)
  have k0 := h0
  have lt0 : ∀ x ∈ p0, x.block < W.heap.size := by obtain ⟨m, hm⟩ := k0; exact DataW.trod_lt m _ _ _ hm
  obtain ⟨x0, r100, f0, hd0⟩ := rd_open (k := .u8) Tryd.underlying22 Tryd.underlying5 (by kernel_rfl) h0
  have z0 : x0.length * 1 ≤ 140737488351232 := by
    rcases hd0 with rfl | ⟨ys, zs, rfl, hle⟩
    · simp
    · have := sized_slice hsz (j := 0) (t := 22) (e := 5) rfl rfl Tryd.underlying22
      rw [bytes5] at this
      unfold reachBytes at this
      omega
  obtain ⟨s1, l1, c1, rfl⟩ := okWide_slice Tryd.underlying23 (hval 1 23 v1 rfl rfl)
  have k1 := h1
  have lt1 : ∀ x ∈ p1, x.block < W.heap.size := by obtain ⟨m, hm⟩ := k1; exact DataW.trod_lt m _ _ _ hm
  obtain ⟨x1, r101, g1, z1⟩ := sts_open h1 (fun n hn => by simpa using List.all_eq_true.1 hsz n (DataW.weights_mem_each (j := 1) (t := 23) (d := d1) rfl rfl n hn))
  obtain ⟨a2, rfl, rfl, rfl, w2⟩ := open_int Tryd.underlying3 (hval 2 3 v2 rfl rfl) h2
  clear hA0 hval0 hsz0
  refine (walk (.slice s0 l0 c0) x0 (.slice s1 l1 c1) x1 a2 W hT r100 f0 z0 r101 g1 z1 w2).mono fun e W' ⟨he, bel⟩ => ?_
  subst he
  exact ⟨_, rfl, _, _, _, [], _, [], hW', trodAll_mk1 (shut_bool Tryd.underlying4 _), (trodAll_cons_mk (Below.trod laidOut (by kernel_rfl) (of_decide_eq_true (by kernel_rfl)) k0 bel lt0) (trodAll_cons_mk (Below.trod laidOut (by kernel_rfl) (of_decide_eq_true (by kernel_rfl)) k1 bel lt1) (trodAll_cons_mk (shut_int Tryd.underlying3 w2) trodAll_mk0))), rfl, bel.frame _, fun h => by cases h⟩

/-- a world for the witness: the settled one, the listed blocks as their initialisers lay them -/
def layBlock (b : Nat × Array Value) : Obj → Obj
  | .cells _ t frozen => .cells b.2 t frozen
  | o => o
noncomputable def laidWorld (os : Os) : World :=
  { World.holding Tryd.prog os ⟨#[], #[], []⟩ with heap := laidBlocks.foldl (fun h b => h.modify b.1 (layBlock b)) (World.holding Tryd.prog os ⟨#[], #[], []⟩).heap }
theorem laid_met (os : Os) : laidMet Tryd.prog Rows.varsCutRow.laid ((laidWorld os).forCall (fun _ _ => 0) ⟨#[], #[.slice none 0 0, .slice none 0 0, .int .i64 0], []⟩).memory :=
  laidMet_of_run' 8 (by kernel_rfl) (by kernel_rfl)
theorem reads (os : Os) {H : Type} (enc : TypeId × Value → H) : ∃ places, DataW.whole enc Tryd.prog ((laidWorld os).forCall (fun _ _ => 0) ⟨#[], #[.slice none 0 0, .slice none 0 0, .int .i64 0], []⟩).memory Tryd.f4.params.toList Rows.varsCutSpec.vars false #[.slice none 0 0, .slice none 0 0, .int .i64 0].toList 8 = some ([.nil, .nil, .lit (.int .i64 0)], [], places) :=
  ⟨[], by kernel_rfl⟩

set_option maxRecDepth 100000 in
theorem lifted (os : Os) (started : os.Started) (H : Type) (enc : TypeId × Value → H) (F : Stop.Interp) :
    ReturnsInHanded {} Tryd.checked os 4 .any ((OpenSpec.ofChange Rows.varsCutSpec).preRow enc Tryd.prog Tryd.f4 Rows.varsCutRow.domain false Rows.varsCutRow.laid) (((OpenSpec.ofChange Rows.varsCutSpec).at F).post enc Tryd.prog Tryd.f4 false true false false) := by
  obtain ⟨places, hx⟩ := reads os enc
  refine returnsInHanded_of_row (C := Tryd.checked) (s := OpenSpec.ofChange Rows.varsCutSpec) own started (by kernel_rfl) Tryd.func4
    (witness_row_at (enc := enc) (C := Tryd.checked) false (laidWorld os) #[.slice none 0 0, .slice none 0 0, .int .i64 0] rfl (by kernel_rfl) (by kernel_rfl) (by kernel_rfl)
      (OpenSpec.preRow_of_cond 8 hx (by kernel_rfl) (fun k hk => by cases hk) (by kernel_rfl) (laid_met os))) ?_
  intro W base args ds gs before hval hW _ hcnd hsz hL _ _
  exact contract H enc W base args ds gs before hval hW hsz hL

theorem said : Rows.VarsCutSaid :=
  OpenClaim.holds_of_cond 4 Tryd.f4 rfl rfl rfl rfl rfl rfl rfl ⟨rfl, rfl, rfl, rfl, rfl⟩ rfl rfl rfl rfl rfl (by kernel_rfl) Tryd.func4 (by kernel_rfl)
    (of_decide_eq_true (by kernel_rfl)) (by unfold Func.isWrapper; first | (rw [if_pos (by decide +kernel)]; kernel_rfl) | (rw [if_neg (by decide +kernel)]; exact ⟨rfl, rfl⟩))
    (fun os started H enc _ F => by rw [OpenClaim.pre_eq_preRow]; exact lifted os started H enc F)

theorem plain (f : FuncId) (fn : Func) (hf : Tryd.pinned.checked.prog.funcNamed "tinder/tinderlaw19.VarsCut" = some f) (hfn : Tryd.pinned.checked.prog.funcs[f]? = some fn) :
    false = Tryd.pinned.checked.prog.looks [] ∧ ∀ (j : Nat) t, fn.params[j]? = some t → Tryd.pinned.checked.prog.wantsStandIn t = false := by
  obtain rfl : f = 4 := Option.some.inj ((show Tryd.prog.funcNamed "tinder/tinderlaw19.VarsCut" = some 4 by kernel_rfl).symm.trans hf) |>.symm
  obtain rfl : fn = Tryd.f4 := (Option.some.inj (Tryd.func4.symm.trans hfn)).symm
  refine ⟨by kernel_rfl, fun j t ht => ?_⟩
  rw [Tryd.params4] at ht
  rcases j with _ | _ | _ | j
  · obtain rfl : t = 22 := by simpa using ht.symm
    exact (show Tryd.prog.wantsStandIn 22 = false by kernel_rfl)
  · obtain rfl : t = 23 := by simpa using ht.symm
    exact (show Tryd.prog.wantsStandIn 23 = false by kernel_rfl)
  · obtain rfl : t = 3 := by simpa using ht.symm
    exact (show Tryd.prog.wantsStandIn 3 = false by kernel_rfl)
  · simp at ht

theorem card : Rows.VarsCutCardSaid :=
  Claim7.holds_tied_plain_at .later [] _ _ _ _ said (fun _ h => by cases h) (by kernel_rfl) (fun _ h => by cases h) varsCut_row_tie rfl ⟨rfl, rfl⟩ (by kernel_rfl) rfl plain (by kernel_rfl)
end Go.Proofs.YtaiimfdcbdfbdabDoor.varsCut
namespace Go.Proofs.YtaiimfdcbdfbdabDoor
theorem varsCut_holds : Rows.VarsCutCardSaid := varsCut.card
#print axioms varsCut_holds
end Go.Proofs.YtaiimfdcbdfbdabDoor
