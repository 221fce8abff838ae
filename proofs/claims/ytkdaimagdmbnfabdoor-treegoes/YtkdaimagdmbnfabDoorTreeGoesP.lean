/-
  Going from property to property tells each one of a device once, in order.
-/
import Derived.Test.YtkdaimagdmbnfabDoorRows
import Derived.WalkKit
import Derived.ProofKit
import Derived.OpenShut
import Derived.ShutString
import Derived.ChangeOld
import Derived.Below
import Derived.Carry
import Derived.SizedLaws
import Derived.Deep.DeepHandedRow
import Derived.SevenTiedAt
import Derived.Test.YtkdaimagdmbnfabDoorCards
import Derived.Test.YtkdaimagdmbnfabDoorTie
import Derived.Test.YtkdaimagdmbnfabDoorB5
namespace Go.Proofs.YtkdaimagdmbnfabDoor.treeGoes
open Go.ChangeShapes Go.WideShapes Go.ChangeAt Go.RowKit
open Go.ChangeMaps (open_string shut_string)
set_option linter.unusedVariables false

theorem own : ownKnob Tryd.prog.godebug = none := by kernel_rfl
theorem laidOut : laidOutB Tryd.prog = true := by kernel_rfl

set_option maxHeartbeats 4000000 in
set_option maxRecDepth 100000 in
theorem walk (v0 : Value) (x0 : List Nd) (a1 : Int) (w : World) (hT : Tab w) (r0 : RdT w v0 x0) (g0 : ∀ x ∈ x0, goodN x) (z0 : x0.length * 96 ≤ 140737488351232) (w1 : (Lit.int .i64 a1).wf = true) :
    Calls Tryd.prog 3 #[v0, .int .i64 a1] w fun e w' => e = .returned (.bool true) ∧ Below w.heap.size w w' := by
  have hg : goodT x0 := g0
  have e0 : strOfNums ([] : List Int) = ⟨#[]⟩ := by decide +kernel
  have l0 : L ⟨#[]⟩ = [] := by decide +kernel
  have q0 : ((⟨#[]⟩ : ByteArray).toList == (⟨#[]⟩ : ByteArray).toList) = true := by decide +kernel
  have cN := fun s w hT h hs => w_p8next v0 x0 a1 s w hT h hg z0 w1 hs
  have c1 := fun w hT h => w_p8next v0 x0 a1 ⟨#[]⟩ w hT h hg z0 w1 (by decide)
  rw [l0] at c1
  by_cases hw : wrgF x0 a1 = 0
  · obtain ⟨hf, hn0, hn⟩ := wrg_ok hw
    obtain ⟨m, rfl⟩ : ∃ m : Nat, a1 = (m : Int) := ⟨a1.toNat, by omega⟩
    have hm : m < x0.length := by simpa using hn
    have hP : prpF x0 (m : Int) = x0[m].2.2.2.1 := by rw [prp_at (by simpa using hn)]; simp
    have hpl : x0[m].2.2.2.1.length ≤ 16 := by rw [← hP]; exact (frm_props hf hn).1
    have hfi := nxt_first hw
    have hat := nxt_at hw
    have hgp := prp_goodP (n := (m : Int)) hg
    simp only [hfi] at c1
    clear hfi hw hf hn0 hn
    simp only [hP] at c1 hat hgp
    have hat' : ∀ i (hi : i < x0[m].2.2.2.1.length), nxtF x0 (m : Int) x0[m].2.2.2.1[i].1 = ((x0[m].2.2.2.1.getD (i + 1) ([], [])).1, 0) := fun i hi => by
      have := hat i (by first | exact hi | (rw [hP]; exact hi))
      simpa only [hP] using this
    clear hat hP
    go_enter Tryd.func3, Tryd.ntmps3
    go_wp2_with (go_at_call 5; refine (w_alive8 _ hT).mono ?_; rintro e q1 ⟨rfl, B1⟩; have hT1 := hT.below B1; have t1 := r0.below B1)
    go_wp2_with (go_at_call 6; refine (c1 _ hT1 t1).mono ?_; rintro e q2 ⟨rfl, B2⟩; have hT2 := hT1.below B2; have t2 := t1.below B2)
    go_loopw [5, 6, 7] (fun S E I wx => ∃ (k : Nat) (sb : ByteArray), (k : Int) ≤ x0[m].2.2.2.1.length ∧ I = .int .i64 k ∧ S = .string sb ∧ Hid (sb = strOfNums (x0[m].2.2.2.1.getD k ([], [])).1) ∧ Below q2.heap.size q2 wx) (fun _ _ I _ => (x0[m].2.2.2.1.length - intOf I).toNat)
    case atStart => exact ⟨0, _, by omega, rfl, rfl, hid rfl, Below.refl _ _⟩
    case round =>
      obtain ⟨k, sb, hk, rfl, rfl, hs, hb⟩ := hrel
      obtain ⟨b1, o1, nm, vu, vp, vc, r1, f0, f1, f2, f3, f4, e1, hu1, hp1, hc1⟩ := nod_at (t2.below hb) m hm
      have hlp := slr_len hp1 uR (P := Tryd.prog)
      by_cases hlt : (k : Int) < x0[m].2.2.2.1.length
      · have hkl : k < x0[m].2.2.2.1.length := by omega
        obtain ⟨b2, o2, n2, vd, r2, d0, d1, e2, hd⟩ := prp_at8 hp1 k hkl
        have hg2 := hgp _ (List.getElem_mem hkl)
        have hsn : sb = n2 := by
          rw [hs.out, List.getD_eq_getElem?_getD, List.getElem?_eq_getElem hkl]
          exact e2
        subst hsn
        have hL : L sb = x0[m].2.2.2.1[k].1 := by rw [← e2]; exact LB_nums _ hg2.1
        have c2 := fun w hT h => cN sb w hT h (by rw [← L_size, hL]; exact hg2.2.2.1)
        simp only [hL, hat' k hkl] at c2
        have qs : (sb.toList == sb.toList) = true := by simp
        have qs2 : (sb.toList != sb.toList) = false := by simp
        have hT3 := hT2.below hb
        have t3 := t2.below hb
        clear hL hg2 e2 e1 hs hat' hgp cN
        go_wp2_with (go_at_call 6; refine (c2 _ hT3 t3).mono ?_; rintro e q4 ⟨rfl, b4⟩)
        go_roundw
        case rel => exact ⟨k + 1, _, by omega, by go_num, rfl, hid rfl, below_trans hb b4⟩
        case measure => simp [intOf]; omega
      · have hsn : sb = ⟨#[]⟩ := by
          rw [hs.out, List.getD_eq_getElem?_getD, List.getElem?_eq_none (by omega)]
          exact e0
        subst hsn
        go_wp2_with fail
        go_ret
        exact ⟨by simp, below_trans (below_trans B1 B2) hb⟩
  · have hx : nxtF x0 a1 [] = ([], wrgF x0 a1) := by unfold nxtF; rw [if_pos hw]
    simp only [hx, e0] at c1
    obtain ⟨E, hE⟩ : ∃ E, wrgF x0 a1 = E := ⟨_, rfl⟩
    simp only [hE] at c1 hw
    have qE : (E == 0) = false := by simpa using hw
    have qN : (E != 0) = true := by simpa using hw
    clear hE hx cN
    go_enter Tryd.func3, Tryd.ntmps3
    go_wp2_with (go_at_call 5; refine (w_alive8 _ hT).mono ?_; rintro e q1 ⟨rfl, B1⟩; have hT1 := hT.below B1; have t1 := r0.below B1)
    go_wp2_with (go_at_call 6; refine (c1 _ hT1 t1).mono ?_; rintro e q2 ⟨rfl, B2⟩)
    go_ret
    exact ⟨by simp, below_trans B1 B2⟩

set_option maxRecDepth 100000 in
/-- what the walk gives, for every argument and every world that holds what is listed -/
theorem contract (H : Type) (enc : TypeId × Value → H) (W : World) (base : Nat) (args : Array Value) (ds gs : List (DataW H)) (before : List MemPlace)
    (hval0 : ∀ (j : Nat) t v, Tryd.f3.params[j]? = some t → args[j]? = some v → Value.okWide Tryd.prog W .any base t v)
    (hW : DataW.Whole enc Tryd.prog Tryd.f3.params.toList Rows.treeGoesSpec.vars false W args.toList ds gs before)
    (hsz0 : (DataW.weightsEach Tryd.prog (Tryd.f3.params.toList ++ Rows.treeGoesSpec.plain.varTypes Tryd.prog) (ds ++ gs)).all (· ≤ reachBytes) = true)
    (hL : laidMetH Tryd.prog Rows.treeGoesRow.laid W) :
    Calls Tryd.prog 3 args W fun e W' => ∃ v, e = .returned v ∧ Rows.treeGoesSpec.post enc Tryd.prog Tryd.f3 false true false false W args v W' := by
  have hval : ∀ (j : Nat) t v, Tryd.f3.params[j]? = some t → args[j]? = some v → Value.okWide Tryd.prog W .any base t v := hval0
  have hsz : (DataW.weightsEach Tryd.prog (Tryd.f3.params.toList ++ Rows.treeGoesSpec.plain.varTypes Tryd.prog) (ds ++ gs)).all (· ≤ reachBytes) = true := hsz0
  have hT : Tab W := tab_of_laid hL
  have hW' := hW
  obtain ⟨p, q, hA0, hV, rfl, hfz, hnd⟩ := hW
  have hA : DataW.TrodAll enc Tryd.prog W 0 (fun _ => true) true Tryd.f3.params.toList args.toList ds p := hA0
  rw [Tryd.params3] at hA hval hsz
  obtain ⟨v0, vs0, d0, ds0, p0, q0, hargs, rfl, rfl, h0, r0⟩ := trodAll_cons hA
  obtain ⟨v1, vs1, d1, ds1, p1, q1, rfl, rfl, rfl, h1, r1⟩ := trodAll_cons r0
  obtain ⟨rfl, rfl, rfl⟩ := trodAll_nil r1
  obtain rfl : args = #[v0, v1] := by cases args; simp_all
  obtain ⟨rfl, rfl⟩ := trodVars_none hV
  obtain ⟨s0, l0, c0, rfl⟩ := okWide_slice Tryd.underlying22 (hval 0 22 v0 rfl rfl)
  have k0 := h0
  have lt0 : ∀ x ∈ p0, x.block < W.heap.size := by obtain ⟨m, hm⟩ := k0; exact DataW.trod_lt m _ _ _ hm
  obtain ⟨x0, r100, g0, z0⟩ := nod_open h0 (fun n hn => by simpa using List.all_eq_true.1 hsz n (DataW.weights_mem_each (j := 0) (t := 22) (d := d0) rfl rfl n hn))
  obtain ⟨a1, rfl, rfl, rfl, w1⟩ := open_int Tryd.underlying3 (hval 1 3 v1 rfl rfl) h1
  clear hA0 hval0 hsz0
  refine (walk (.slice s0 l0 c0) x0 a1 W hT r100 g0 z0 w1).mono fun e W' ⟨he, bel⟩ => ?_
  subst he
  exact ⟨_, rfl, _, _, _, [], _, [], hW', trodAll_mk1 (shut_bool Tryd.underlying4 _), (trodAll_cons_mk (Below.trod laidOut (by kernel_rfl) (of_decide_eq_true (by kernel_rfl)) k0 bel lt0) (trodAll_cons_mk (shut_int Tryd.underlying3 w1) trodAll_mk0)), rfl, bel.frame _, fun h => by cases h⟩

/-- a world for the witness: the settled one, the listed blocks as their initialisers lay them -/
def layBlock (b : Nat × Array Value) : Obj → Obj
  | .cells _ t frozen => .cells b.2 t frozen
  | o => o
noncomputable def laidWorld (os : Os) : World :=
  { World.holding Tryd.prog os ⟨#[], #[], []⟩ with heap := laidBlocks.foldl (fun h b => h.modify b.1 (layBlock b)) (World.holding Tryd.prog os ⟨#[], #[], []⟩).heap }
theorem laid_met (os : Os) : laidMet Tryd.prog Rows.treeGoesRow.laid ((laidWorld os).forCall (fun _ _ => 0) ⟨#[], #[.slice none 0 0, .int .i64 0], []⟩).memory :=
  laidMet_of_run' 8 (by kernel_rfl) (by kernel_rfl)
theorem reads (os : Os) {H : Type} (enc : TypeId × Value → H) : ∃ places, DataW.whole enc Tryd.prog ((laidWorld os).forCall (fun _ _ => 0) ⟨#[], #[.slice none 0 0, .int .i64 0], []⟩).memory Tryd.f3.params.toList Rows.treeGoesSpec.vars false #[.slice none 0 0, .int .i64 0].toList 8 = some ([.nil, .lit (.int .i64 0)], [], places) :=
  ⟨[], by kernel_rfl⟩

set_option maxRecDepth 100000 in
theorem lifted (os : Os) (started : os.Started) (H : Type) (enc : TypeId × Value → H) (F : Stop.Interp) :
    ReturnsInHanded {} Tryd.checked os 3 .any ((OpenSpec.ofChange Rows.treeGoesSpec).preRow enc Tryd.prog Tryd.f3 Rows.treeGoesRow.domain false Rows.treeGoesRow.laid) (((OpenSpec.ofChange Rows.treeGoesSpec).at F).post enc Tryd.prog Tryd.f3 false true false false) := by
  obtain ⟨places, hx⟩ := reads os enc
  refine returnsInHanded_of_row (C := Tryd.checked) (s := OpenSpec.ofChange Rows.treeGoesSpec) own started (by kernel_rfl) Tryd.func3
    (witness_row_at (enc := enc) (C := Tryd.checked) false (laidWorld os) #[.slice none 0 0, .int .i64 0] rfl (by kernel_rfl) (by kernel_rfl) (by kernel_rfl)
      (OpenSpec.preRow_of_cond 8 hx (by kernel_rfl) (fun k hk => by cases hk) (by kernel_rfl) (laid_met os))) ?_
  intro W base args ds gs before hval hW _ hcnd hsz hL _ _
  exact contract H enc W base args ds gs before hval hW hsz hL

theorem said : Rows.TreeGoesSaid :=
  OpenClaim.holds_of_cond 3 Tryd.f3 rfl rfl rfl rfl rfl rfl rfl ⟨rfl, rfl, rfl, rfl, rfl⟩ rfl rfl rfl rfl rfl (by kernel_rfl) Tryd.func3 (by kernel_rfl)
    (of_decide_eq_true (by kernel_rfl)) (by unfold Func.isWrapper; first | (rw [if_pos (by decide +kernel)]; kernel_rfl) | (rw [if_neg (by decide +kernel)]; exact ⟨rfl, rfl⟩))
    (fun os started H enc _ F => by rw [OpenClaim.pre_eq_preRow]; exact lifted os started H enc F)

theorem plain (f : FuncId) (fn : Func) (hf : Tryd.pinned.checked.prog.funcNamed "tinder/tinderlaw08.TreeGoes" = some f) (hfn : Tryd.pinned.checked.prog.funcs[f]? = some fn) :
    false = Tryd.pinned.checked.prog.looks [] ∧ ∀ (j : Nat) t, fn.params[j]? = some t → Tryd.pinned.checked.prog.wantsStandIn t = false := by
  obtain rfl : f = 3 := Option.some.inj ((show Tryd.prog.funcNamed "tinder/tinderlaw08.TreeGoes" = some 3 by kernel_rfl).symm.trans hf) |>.symm
  obtain rfl : fn = Tryd.f3 := (Option.some.inj (Tryd.func3.symm.trans hfn)).symm
  refine ⟨by kernel_rfl, fun j t ht => ?_⟩
  rw [Tryd.params3] at ht
  rcases j with _ | _ | j
  · obtain rfl : t = 22 := by simpa using ht.symm
    exact (show Tryd.prog.wantsStandIn 22 = false by kernel_rfl)
  · obtain rfl : t = 3 := by simpa using ht.symm
    exact (show Tryd.prog.wantsStandIn 3 = false by kernel_rfl)
  · simp at ht

theorem card : Rows.TreeGoesCardSaid :=
  Claim7.holds_tied_plain_at .later [] _ _ _ _ said (fun _ h => by cases h) (by kernel_rfl) (fun _ h => by cases h) treeGoes_row_tie rfl ⟨rfl, rfl⟩ (by kernel_rfl) rfl plain (by kernel_rfl)
end Go.Proofs.YtkdaimagdmbnfabDoor.treeGoes
namespace Go.Proofs.YtkdaimagdmbnfabDoor
theorem treeGoes_holds : Rows.TreeGoesCardSaid := treeGoes.card
#print axioms treeGoes_holds
end Go.Proofs.YtkdaimagdmbnfabDoor
