/-
  StackBelow: for every word and all lists, a word done by the program changes nothing of what lies below the cells that it needs: the law returns true. No conditions.
-/
import Derived.Test.YtefiohepglggdaaDoorRows
import Derived.WalkKit
import Derived.ProofKit
import Derived.OpenShut
import Derived.ShutString
import Derived.ChangeOld
import Derived.Below
import Derived.Carry
import Derived.SizedLaws
import Derived.Deep.DeepHandedRow
import Derived.SevenTiedAt
import Derived.Test.YtefiohepglggdaaDoorCards
import Derived.Test.YtefiohepglggdaaDoorTie
import Derived.Test.YtefiohepglggdaaDoorSl
import Derived.Test.YtefiohepglggdaaDoorSal
import Derived.Test.YtefiohepglggdaaDoorPsb
namespace Go.Proofs.YtefiohepglggdaaDoor.stackBelow
open Go.ChangeShapes Go.WideShapes Go.ChangeAt Go.RowKit
open Go.ChangeMaps (open_string shut_string)
set_option linter.unusedVariables false

theorem own : ownKnob Tryd.prog.godebug = none := by kernel_rfl
theorem laidOut : laidOutB Tryd.prog = true := by kernel_rfl
theorem bytes39 : Tryd.prog.bytesOf 39 = 4 := by kernel_rfl

set_option maxHeartbeats 4000000 in
set_option maxRecDepth 100000 in
theorem walk (a0 : Int) (v1 : Value) (x1 : List Int) (v2 : Value) (x2 : List Int) (w : World) (hT : Tab w) (w0 : (Lit.int .i64 a0).wf = true) (r1 : Rd .u32 w v1 x1) (f1 : ∀ n ∈ x1, (Lit.int .u32 n).wf = true) (z1 : x1.length * 4 ≤ 140737488351232) (r2 : Rd .u32 w v2 x2) (f2 : ∀ n ∈ x2, (Lit.int .u32 n).wf = true) (z2 : x2.length * 4 ≤ 140737488351232) :
    Calls Tryd.prog 7 #[.int .i64 a0, v1, v2] w fun e w' => e = .returned (.bool true) ∧ Below w.heap.size w w' := by
  have hX := wf_u32 f1
  have hY := wf_u32 f2
  have hlen1 := rd_len r1 uS (P := Tryd.prog)
  have hlen2 := rd_len r2 uS (P := Tryd.prog)
  by_cases h81 : a0 = 81
  · have h81b : (a0 == 81) = true := by simp [h81]
    clear h81
    go_enter Tryd.func7, Tryd.ntmps7
    go_wp2_with (go_at_call 8; refine (w_alive _ hT).mono ?_; rintro e wa ⟨rfl, ba⟩)
    go_ret
    exact ⟨rfl, ba⟩
  have h81b : (a0 == 81) = false := by simpa using h81
  by_cases hl : (64 : Int) < x1.length
  · clear h81
    go_enter Tryd.func7, Tryd.ntmps7
    go_wp2_with (go_at_call 8; refine (w_alive _ hT).mono ?_; rintro e wa ⟨rfl, ba⟩)
    go_ret
    exact ⟨rfl, ba⟩
  by_cases hb : (64 : Int) - x1.length < x2.length
  · clear h81
    go_enter Tryd.func7, Tryd.ntmps7
    go_wp2_with (go_at_call 8; refine (w_alive _ hT).mono ?_; rintro e wa ⟨rfl, ba⟩)
    go_ret
    exact ⟨rfl, ba⟩
  have hXY : ∀ x ∈ x2 ++ x1, 0 ≤ x ∧ x < 4294967296 := cells_app hY hX
  obtain ⟨i0, hi, hz0, hz1, hz2⟩ := info_parts infoU32
  obtain ⟨X, E, d1⟩ : ∃ X E, doF a0 x1 = (X, E) := ⟨_, _, rfl⟩
  obtain ⟨Y, F, d2⟩ : ∃ Y F, doF a0 (x2 ++ x1) = (Y, F) := ⟨_, _, rfl⟩
  have cd1 : ∀ w, Tab w → Rd .u32 w v1 x1 → Calls Tryd.prog 10 #[.int .i64 a0, v1] w fun e w' => ∃ u, e = .returned (.tuple #[u, .int .i64 E]) ∧ Rd .u32 w' u X ∧ Below w.heap.size w w' := fun w hT h => by
    have := w_sdo v1 x1 a0 w hT h hX
    rw [d1] at this
    exact this
  have cd2 : ∀ w v, Tab w → Rd .u32 w v (x2 ++ x1) → Calls Tryd.prog 10 #[.int .i64 a0, v] w fun e w' => ∃ u, e = .returned (.tuple #[u, .int .i64 F]) ∧ Rd .u32 w' u Y ∧ Below w.heap.size w w' := fun w v hT h => by
    have := w_sdo v (x2 ++ x1) a0 w hT h hXY
    rw [d2] at this
    exact this
  by_cases he : E = 0
  · subst he
    have hbel := doF_below a0 x2 x1 X (fun y hy => (hX y hy).1) h81 (by omega) d1
    rw [d2] at hbel
    rcases hbel with ⟨hov, h62⟩ | hok
    · have hF : F = 6 := congrArg Prod.snd hov
      subst hF
      have H62 : decide ((64 : Int) < ((x2.length + x1.length : Nat) : Int) + 2) = true := by simp; omega
      have H62' := hid h62
      clear h81 hov h62 d1 d2 hXY hX hY
      go_enter Tryd.func7, Tryd.ntmps7
      go_wp2_with (first
        | (go_at_call 8; refine (w_alive _ hT).mono ?_; rintro e wa ⟨rfl, ba⟩)
        | (go_at_call 9; refine (w_rcopy v2 x2 _ (r2.below ba) (by unfold maxLen; omega) (by omega)).mono ?_; rintro e wb ⟨u1, rfl, o1, bb⟩)
        | (at_builtin; refine wpList_append_rd (k := .u32) rfl _ _ 22 rfl wa.heap.size 39 i0 4 Tryd.underlying22 hi hz0 hz1 hz2 u1 x2 rfl o1 v1 x1 rfl (r1.below (below_trans ba bb)) (by unfold maxLen; omega) (by omega) bb.size ?_; intro u2 wc o2 g2))
      have bc := below_grown bb g2 (fun k hk => (o1.lt k hk).1)
      have B := below_trans ba bc
      have ra := (Rd_own o2).1
      clear g2 o2 o1
      refine (cd1 _ (hT.below B) (r1.below B)).mono ?_
      rintro e wd ⟨u3, rfl, ru3, bd⟩
      go_wp2_with fail
      refine (cd2 _ _ ((hT.below B).below bd) (ra.below bd)).mono ?_
      rintro e we ⟨u4, rfl, ru4, be⟩
      have alen2 := rd_len ra uS (P := Tryd.prog)
      rw [List.length_append] at alen2
      go_wp2_with fail
      go_ret
      exact ⟨ret_b (by have := H62'.out; simp; omega), below_trans (below_trans B bd) be⟩
    · have hF : F = 0 := congrArg Prod.snd hok
      have hYX : Y = x2 ++ X := congrArg Prod.fst hok
      subst hF
      subst hYX
      have hXl := hid (doF_len a0 x1 X d1)
      clear h81 hok d1 d2 hXY hX hY
      go_enter Tryd.func7, Tryd.ntmps7
      go_wp2_with (first
        | (go_at_call 8; refine (w_alive _ hT).mono ?_; rintro e wa ⟨rfl, ba⟩)
        | (go_at_call 9; refine (w_rcopy v2 x2 _ (r2.below ba) (by unfold maxLen; omega) (by omega)).mono ?_; rintro e wb ⟨u1, rfl, o1, bb⟩)
        | (at_builtin; refine wpList_append_rd (k := .u32) rfl _ _ 22 rfl wa.heap.size 39 i0 4 Tryd.underlying22 hi hz0 hz1 hz2 u1 x2 rfl o1 v1 x1 rfl (r1.below (below_trans ba bb)) (by unfold maxLen; omega) (by omega) bb.size ?_; intro u2 wc o2 g2))
      have bc := below_grown bb g2 (fun k hk => (o1.lt k hk).1)
      have B := below_trans ba bc
      have ra := (Rd_own o2).1
      clear g2 o2 o1
      refine (cd1 _ (hT.below B) (r1.below B)).mono ?_
      rintro e wd ⟨u3, rfl, ru3, bd⟩
      go_wp2_with fail
      refine (cd2 _ _ ((hT.below B).below bd) (ra.below bd)).mono ?_
      rintro e we ⟨u4, rfl, ru4, be⟩
      have alen2 := rd_len ra uS (P := Tryd.prog)
      rw [List.length_append] at alen2
      have B2 := below_trans (below_trans B bd) be
      go_wp2_with (first
        | (go_at_call 9; refine (w_rcopy v2 x2 _ (r2.below B2) (by unfold maxLen; omega) (by omega)).mono ?_; rintro e wf ⟨u5, rfl, o5, bf⟩)
        | (at_builtin; refine wpList_append_rdg (k := .u32) rfl _ _ 22 rfl we.heap.size 39 i0 4 Tryd.underlying22 hi hz0 hz1 hz2 u5 x2 rfl o5 u3 X rfl (ru3.below (below_trans be bf)) (by have := hXl.out; unfold maxLen; omega) (by have := hXl.out; omega) bf.size ?_; intro u6 wg o6 g6))
      have bg := below_grown bf g6 (fun k hk => (o5.lt k hk).1)
      refine (w_rsame _ _ _ _ _ (ru4.below bg) (Rd_own o6).1).mono ?_
      rintro e wh ⟨rfl, bh⟩
      go_wp2_with fail
      go_ret
      exact ⟨rfl, below_trans (below_trans B2 bg) bh⟩
  · have heb : (E != 0) = true := by simpa using he
    clear h81 he d1 d2 hXY hX hY
    go_enter Tryd.func7, Tryd.ntmps7
    go_wp2_with (first
      | (go_at_call 8; refine (w_alive _ hT).mono ?_; rintro e wa ⟨rfl, ba⟩)
      | (go_at_call 9; refine (w_rcopy v2 x2 _ (r2.below ba) (by unfold maxLen; omega) (by omega)).mono ?_; rintro e wb ⟨u1, rfl, o1, bb⟩)
      | (at_builtin; refine wpList_append_rd (k := .u32) rfl _ _ 22 rfl wa.heap.size 39 i0 4 Tryd.underlying22 hi hz0 hz1 hz2 u1 x2 rfl o1 v1 x1 rfl (r1.below (below_trans ba bb)) (by unfold maxLen; omega) (by omega) bb.size ?_; intro u2 wc o2 g2))
    have bc := below_grown bb g2 (fun k hk => (o1.lt k hk).1)
    have B := below_trans ba bc
    have ra := (Rd_own o2).1
    clear g2 o2 o1
    refine (cd1 _ (hT.below B) (r1.below B)).mono ?_
    rintro e wd ⟨u3, rfl, ru3, bd⟩
    go_wp2_with fail
    refine (cd2 _ _ ((hT.below B).below bd) (ra.below bd)).mono ?_
    rintro e we ⟨u4, rfl, ru4, be⟩
    have alen2 := rd_len ra uS (P := Tryd.prog)
    rw [List.length_append] at alen2
    go_wp2_with fail
    go_ret
    exact ⟨rfl, below_trans (below_trans B bd) be⟩

/-- what the walk gives, for every argument and every world that holds what is listed -/
theorem contract (H : Type) (enc : TypeId × Value → H) (W : World) (base : Nat) (args : Array Value) (ds gs : List (DataW H)) (before : List MemPlace)
    (hval0 : ∀ (j : Nat) t v, Tryd.f7.params[j]? = some t → args[j]? = some v → Value.okWide Tryd.prog W .any base t v)
    (hW : DataW.Whole enc Tryd.prog Tryd.f7.params.toList Rows.stackBelowSpec.vars false W args.toList ds gs before)
    (hsz0 : (DataW.weightsEach Tryd.prog (Tryd.f7.params.toList ++ Rows.stackBelowSpec.plain.varTypes Tryd.prog) (ds ++ gs)).all (· ≤ reachBytes) = true)
    (hL : laidMetH Tryd.prog Rows.stackBelowRow.laid W) :
    Calls Tryd.prog 7 args W fun e W' => ∃ v, e = .returned v ∧ Rows.stackBelowSpec.post enc Tryd.prog Tryd.f7 false true false false W args v W' := by
  have hval : ∀ (j : Nat) t v, Tryd.f7.params[j]? = some t → args[j]? = some v → Value.okWide Tryd.prog W .any base t v := hval0
  have hsz : (DataW.weightsEach Tryd.prog (Tryd.f7.params.toList ++ Rows.stackBelowSpec.plain.varTypes Tryd.prog) (ds ++ gs)).all (· ≤ reachBytes) = true := hsz0
  have hT : Tab W := tab_of_laid hL
  have hW' := hW
  obtain ⟨p, q, hA0, hV, rfl, hfz, hnd⟩ := hW
  have hA : DataW.TrodAll enc Tryd.prog W 0 (fun _ => true) true Tryd.f7.params.toList args.toList ds p := hA0
  rw [Tryd.params7] at hA hval hsz
  obtain ⟨v0, vs0, d0, ds0, p0, q0, hargs, rfl, rfl, h0, r0⟩ := trodAll_cons hA
  obtain ⟨v1, vs1, d1, ds1, p1, q1, rfl, rfl, rfl, h1, r1⟩ := trodAll_cons r0
  obtain ⟨v2, vs2, d2, ds2, p2, q2, rfl, rfl, rfl, h2, r2⟩ := trodAll_cons r1
  obtain ⟨rfl, rfl, rfl⟩ := trodAll_nil r2
  obtain rfl : args = #[v0, v1, v2] := by cases args; simp_all
  obtain ⟨rfl, rfl⟩ := trodVars_none hV
  obtain ⟨a0, rfl, rfl, rfl, w0⟩ := open_int Tryd.underlying3 (hval 0 3 v0 rfl rfl) h0
  obtain ⟨s1, l1, c1, rfl⟩ := okWide_slice Tryd.underlying22 (hval 1 22 v1 rfl rfl)
  have k1 := h1
  have lt1 : ∀ x ∈ p1, x.block < W.heap.size := by obtain ⟨m, hm⟩ := k1; exact DataW.trod_lt m _ _ _ hm
  obtain ⟨x1, r101, f1, hd1⟩ := rd_open (k := .u32) Tryd.underlying22 Tryd.underlying39 (by kernel_rfl) h1
  have z1 : x1.length * 4 ≤ 140737488351232 := by
    rcases hd1 with rfl | ⟨ys, zs, rfl, hle⟩
    · simp
    · have := sized_slice hsz (j := 1) (t := 22) (e := 39) rfl rfl Tryd.underlying22
      rw [bytes39] at this
      unfold reachBytes at this
      omega
  obtain ⟨s2, l2, c2, rfl⟩ := okWide_slice Tryd.underlying22 (hval 2 22 v2 rfl rfl)
  have k2 := h2
  have lt2 : ∀ x ∈ p2, x.block < W.heap.size := by obtain ⟨m, hm⟩ := k2; exact DataW.trod_lt m _ _ _ hm
  obtain ⟨x2, r102, f2, hd2⟩ := rd_open (k := .u32) Tryd.underlying22 Tryd.underlying39 (by kernel_rfl) h2
  have z2 : x2.length * 4 ≤ 140737488351232 := by
    rcases hd2 with rfl | ⟨ys, zs, rfl, hle⟩
    · simp
    · have := sized_slice hsz (j := 2) (t := 22) (e := 39) rfl rfl Tryd.underlying22
      rw [bytes39] at this
      unfold reachBytes at this
      omega
  clear hA0 hval0 hsz0
  refine (walk a0 (.slice s1 l1 c1) x1 (.slice s2 l2 c2) x2 W hT w0 r101 f1 z1 r102 f2 z2).mono fun e W' ⟨he, bel⟩ => ?_
  subst he
  exact ⟨_, rfl, _, _, _, [], _, [], hW', trodAll_mk1 (shut_bool Tryd.underlying4 _), (trodAll_cons_mk (shut_int Tryd.underlying3 w0) (trodAll_cons_mk (Below.trod laidOut (by kernel_rfl) (of_decide_eq_true (by kernel_rfl)) k1 bel lt1) (trodAll_cons_mk (Below.trod laidOut (by kernel_rfl) (of_decide_eq_true (by kernel_rfl)) k2 bel lt2) trodAll_mk0))), rfl, bel.frame _, fun h => by cases h⟩

/-- a world for the witness: the settled one, the listed blocks as their initialisers lay them -/
def layBlock (b : Nat × Array Value) : Obj → Obj
  | .cells _ t frozen => .cells b.2 t frozen
  | o => o
noncomputable def laidWorld (os : Os) : World :=
  { World.holding Tryd.prog os ⟨#[], #[], []⟩ with heap := laidBlocks.foldl (fun h b => h.modify b.1 (layBlock b)) (World.holding Tryd.prog os ⟨#[], #[], []⟩).heap }
theorem laid_met (os : Os) : laidMet Tryd.prog Rows.stackBelowRow.laid ((laidWorld os).forCall (fun _ _ => 0) ⟨#[], #[.int .i64 0, .slice none 0 0, .slice none 0 0], []⟩).memory :=
  laidMet_of_run' 8 (by kernel_rfl) (by kernel_rfl)
theorem reads (os : Os) {H : Type} (enc : TypeId × Value → H) : ∃ places, DataW.whole enc Tryd.prog ((laidWorld os).forCall (fun _ _ => 0) ⟨#[], #[.int .i64 0, .slice none 0 0, .slice none 0 0], []⟩).memory Tryd.f7.params.toList Rows.stackBelowSpec.vars false #[.int .i64 0, .slice none 0 0, .slice none 0 0].toList 8 = some ([.lit (.int .i64 0), .nil, .nil], [], places) :=
  ⟨[], by kernel_rfl⟩

set_option maxRecDepth 100000 in
theorem lifted (os : Os) (started : os.Started) (H : Type) (enc : TypeId × Value → H) (F : Stop.Interp) :
    ReturnsInHanded {} Tryd.checked os 7 .any ((OpenSpec.ofChange Rows.stackBelowSpec).preRow enc Tryd.prog Tryd.f7 Rows.stackBelowRow.domain false Rows.stackBelowRow.laid) (((OpenSpec.ofChange Rows.stackBelowSpec).at F).post enc Tryd.prog Tryd.f7 false true false false) := by
  obtain ⟨places, hx⟩ := reads os enc
  refine returnsInHanded_of_row (C := Tryd.checked) (s := OpenSpec.ofChange Rows.stackBelowSpec) own started (by kernel_rfl) Tryd.func7
    (witness_row_at (enc := enc) (C := Tryd.checked) false (laidWorld os) #[.int .i64 0, .slice none 0 0, .slice none 0 0] rfl (by kernel_rfl) (by kernel_rfl) (by kernel_rfl)
      (OpenSpec.preRow_of_cond 8 hx (by kernel_rfl) (fun k hk => by cases hk) (by kernel_rfl) (laid_met os))) ?_
  intro W base args ds gs before hval hW _ _ hsz hL _ _
  exact contract H enc W base args ds gs before hval hW hsz hL

theorem said : Rows.StackBelowSaid :=
  OpenClaim.holds_of_cond 7 Tryd.f7 rfl rfl rfl rfl rfl rfl rfl ⟨rfl, rfl, rfl, rfl, rfl⟩ rfl rfl rfl rfl rfl (by kernel_rfl) Tryd.func7 (by kernel_rfl)
    (of_decide_eq_true (by kernel_rfl)) (by unfold Func.isWrapper; first | (rw [if_pos (by decide +kernel)]; kernel_rfl) | (rw [if_neg (by decide +kernel)]; exact ⟨rfl, rfl⟩))
    (fun os started H enc _ F => by rw [OpenClaim.pre_eq_preRow]; exact lifted os started H enc F)

theorem plain (f : FuncId) (fn : Func) (hf : Tryd.pinned.checked.prog.funcNamed "tinder/tinderlaw03.StackBelow" = some f) (hfn : Tryd.pinned.checked.prog.funcs[f]? = some fn) :
    false = Tryd.pinned.checked.prog.looks [] ∧ ∀ (j : Nat) t, fn.params[j]? = some t → Tryd.pinned.checked.prog.wantsStandIn t = false := by
  obtain rfl : f = 7 := Option.some.inj ((show Tryd.prog.funcNamed "tinder/tinderlaw03.StackBelow" = some 7 by kernel_rfl).symm.trans hf) |>.symm
  obtain rfl : fn = Tryd.f7 := (Option.some.inj (Tryd.func7.symm.trans hfn)).symm
  refine ⟨by kernel_rfl, fun j t ht => ?_⟩
  rw [Tryd.params7] at ht
  rcases j with _ | _ | _ | j
  · obtain rfl : t = 3 := by simpa using ht.symm
    exact (show Tryd.prog.wantsStandIn 3 = false by kernel_rfl)
  · obtain rfl : t = 22 := by simpa using ht.symm
    exact (show Tryd.prog.wantsStandIn 22 = false by kernel_rfl)
  · obtain rfl : t = 22 := by simpa using ht.symm
    exact (show Tryd.prog.wantsStandIn 22 = false by kernel_rfl)
  · simp at ht

theorem card : Rows.StackBelowCardSaid :=
  Claim7.holds_tied_plain_at .later [] _ _ _ _ said (fun _ h => by cases h) (by kernel_rfl) (fun _ h => by cases h) stackBelow_row_tie rfl ⟨rfl, rfl⟩ (by kernel_rfl) rfl plain (by kernel_rfl)
end Go.Proofs.YtefiohepglggdaaDoor.stackBelow
namespace Go.Proofs.YtefiohepglggdaaDoor
theorem stackBelow_holds : Rows.StackBelowCardSaid := stackBelow.card
#print axioms stackBelow_holds
end Go.Proofs.YtefiohepglggdaaDoor
