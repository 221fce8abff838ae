/-
  Properties are got and gone through, and children told, as the document's answer says.
-/
import Derived.Test.YtkdaimagdmbnfaaDoorRows
import Derived.WalkKit
import Derived.ProofKit
import Derived.OpenShut
import Derived.ShutString
import Derived.ChangeOld
import Derived.Below
import Derived.Carry
import Derived.SizedLaws
import Derived.Deep.DeepHandedRow
import Derived.SevenTiedAt
import Derived.Test.YtkdaimagdmbnfaaDoorCards
import Derived.Test.YtkdaimagdmbnfaaDoorTie
import Derived.Test.YtkdaimagdmbnfaaDoorB7
namespace Go.Proofs.YtkdaimagdmbnfaaDoor.treeGets
open Go.ChangeShapes Go.WideShapes Go.ChangeAt Go.RowKit
open Go.ChangeMaps (open_string shut_string)
set_option linter.unusedVariables false

theorem own : ownKnob Tryd.prog.godebug = none := by kernel_rfl
theorem laidOut : laidOutB Tryd.prog = true := by kernel_rfl

set_option maxHeartbeats 4000000 in
set_option maxRecDepth 100000 in
theorem walk (ct0 : Value) (cn0 : Int) (cs0 : ByteArray) (cd0 : Value) (kt0 : List Nd) (kb0 : List Int) (w : World) (hT : Tab w) (r0 : RdT w ct0 kt0) (g0 : ∀ x ∈ kt0, goodN x) (z0 : kt0.length * 96 ≤ 140737488351232) (wn0 : (Lit.int .i64 cn0).wf = true) (ws0 : cs0.size ≤ maxLen) (rd0 : Rd .u8 w cd0 kb0) (bd0 : bytesL kb0) (zd0 : kb0.length ≤ 140737488351232) :
    Calls Tryd.prog 6 #[.agg #[ct0, .int .i64 cn0, .string cs0, cd0]] w fun e w' => e = .returned (.bool true) ∧ Below w.heap.size w w' := by
  have hg : goodT kt0 := g0
  have bb := box_below w (.cells #[ct0, .int .i64 cn0, .string cs0, cd0] 30)
  have st_0 := stands_new w #[ct0, .int .i64 cn0, .string cs0, cd0] 30
  obtain ⟨k0_0, k1_0, k2_0, k3_0⟩ := cas_cells st_0
  have t_0 := r0.below bb
  have y_0 := rd0.below bb
  have hT_0 := hT.below bb
  have c1 := fun w hT h => w_p8get ct0 kt0 cn0 cs0 w hT h hg z0 wn0 ws0
  have c2 := fun w h => w_r8get ct0 kt0 cn0 cs0 w h hg.byt hg.len
  have c3 := fun w hT h => w_p8next ct0 kt0 cn0 cs0 w hT h hg z0 wn0 ws0
  have c4 := fun w h => w_r8next ct0 kt0 cn0 cs0 w h hg.byt hg.len
  have c5 := fun w hT h => w_p8children ct0 kt0 cn0 w hT h hg z0 wn0
  have c6 := fun w h => w_r8children ct0 kt0 cn0 w h (by omega)
  have hby := get_bytes (n := cn0) (nm := L cs0) hg
  obtain ⟨A, E, hA⟩ : ∃ A E, getF kt0 cn0 (L cs0) = (A, E) := ⟨_, _, rfl⟩
  simp only [hA] at c1 c2 hby
  obtain ⟨B, F, hB⟩ : ∃ A E, nxtF kt0 cn0 (L cs0) = (A, E) := ⟨_, _, rfl⟩
  simp only [hB] at c3 c4
  obtain ⟨S, hS⟩ : ∃ S, strOfNums B = S := ⟨_, rfl⟩
  simp only [hS] at c3 c4
  obtain ⟨C, hC⟩ : ∃ C, chiF kt0 cn0 = C := ⟨_, rfl⟩
  simp only [hC] at c5 c6
  clear hA hB hS hC
  have c7 := fun va vb w ha hb => w_rsame va vb A A w ha hb hby hby
  have c8 := fun va vb w ha hb => w_ints8 va vb C C w ha hb
  simp only [decide_true] at c7 c8
  go_enter Tryd.func6, Tryd.ntmps6
  go_wp2_with (go_at_call 9; refine (w_alive8 _ hT_0).mono ?_; rintro e q1 ⟨rfl, b_1⟩; have hT_1 := hT_0.below b_1; have t_1 := t_0.below b_1; have y_1 := y_0.below b_1; have st_1 := st_0.below b_1; obtain ⟨k0_1, k1_1, k2_1, k3_1⟩ := cas_cells st_1)
  go_wp2_with (go_at_call 23; refine (c1 _ hT_1 t_1).mono ?_; rintro e q2 ⟨u2, rfl, p2, b_2⟩; have hT_2 := hT_1.below b_2; have t_2 := t_1.below b_2; have y_2 := y_1.below b_2; have st_2 := st_1.below b_2; obtain ⟨k0_2, k1_2, k2_2, k3_2⟩ := cas_cells st_2; have p_2 := p2)
  go_wp2_with (go_at_call 24; refine (c2 _ t_2).mono ?_; rintro e q3 ⟨u3, rfl, p3, b_3⟩; have hT_3 := hT_2.below b_3; have t_3 := t_2.below b_3; have y_3 := y_2.below b_3; have st_3 := st_2.below b_3; obtain ⟨k0_3, k1_3, k2_3, k3_3⟩ := cas_cells st_3; have p_3 := p_2.below b_3; have s_3 := p3)
  go_wp2_with (go_at_call 25; refine (c3 _ hT_3 t_3).mono ?_; rintro e q4 ⟨rfl, b_4⟩; have hT_4 := hT_3.below b_4; have t_4 := t_3.below b_4; have y_4 := y_3.below b_4; have st_4 := st_3.below b_4; obtain ⟨k0_4, k1_4, k2_4, k3_4⟩ := cas_cells st_4; have p_4 := p_3.below b_4; have s_4 := s_3.below b_4)
  go_wp2_with (go_at_call 26; refine (c4 _ t_4).mono ?_; rintro e q5 ⟨rfl, b_5⟩; have hT_5 := hT_4.below b_5; have t_5 := t_4.below b_5; have y_5 := y_4.below b_5; have st_5 := st_4.below b_5; obtain ⟨k0_5, k1_5, k2_5, k3_5⟩ := cas_cells st_5; have p_5 := p_4.below b_5; have s_5 := s_4.below b_5)
  have HS : Hid (∀ W, Below q5.heap.size q5 W → (W.cell? ⟨w.heap.size, 0, none⟩ = some ct0 ∧ W.cell? ⟨w.heap.size, 1, none⟩ = some (.int .i64 cn0))) := fun W g => ⟨below_cell g k0_5, below_cell g k1_5⟩
  have hrd : Hid (Below q5.heap.size q5 q5.drew) := below_drewN (Below.refl _ _) 1
  have P5 := hid p_5
  have S5 := hid s_5
  have T5 := hid t_5
  have HT5 := hid hT_5
  clear k0_5 k1_5 k2_5 k3_5 p_5 s_5 t_5 hT_5
  go_region_held (fun W => W.cell? ⟨w.heap.size, 0, none⟩ = some ct0 ∧ W.cell? ⟨w.heap.size, 1, none⟩ = some (.int .i64 cn0)) (exact HS.out _ (by first | with_reducible exact hrd.out | with_reducible exact R9.out | with_reducible exact R8.out | with_reducible exact R7.out))
    (first
      | (go_at_call 27; refine (c7 u2 u3 _ (P5.out.below hrd.out) (S5.out.below hrd.out)).mono ?_; rintro e q6 ⟨rfl, rfl⟩)
      | (go_at_call 29; refine (c5 _ (HT5.out.below hrd.out) (T5.out.below hrd.out)).mono ?_; rintro e q7 ⟨u7, rfl, p7, b7⟩; have R7 : Hid (Below q5.heap.size q5 q7) := below_trans hrd.out b7)
      | (go_at_call 30; refine (c6 _ (T5.out.below R7.out)).mono ?_; rintro e q8 ⟨u8, rfl, p8, b8⟩; have R8 : Hid (Below q5.heap.size q5 q8) := below_trans R7.out b8; have p7b := p7.below b8)
      | (go_at_call 28; refine (c8 u7 u8 _ p7b p8).mono ?_; rintro e q9 ⟨rfl, d9⟩; have R9 : Hid (Below q5.heap.size q5 q9) := below_trans R8.out (dr_below d9)))
  go_wp2_with fail
  go_ret
  exact ⟨by simp, below_trans (below_trans (below_trans (below_trans (below_trans (below_trans (bb) b_1) b_2) b_3) b_4) b_5) R9.out⟩

set_option maxRecDepth 100000 in
/-- what the walk gives, for every argument and every world that holds what is listed -/
theorem contract (H : Type) (enc : TypeId × Value → H) (W : World) (base : Nat) (args : Array Value) (ds gs : List (DataW H)) (before : List MemPlace)
    (hval0 : ∀ (j : Nat) t v, Tryd.f6.params[j]? = some t → args[j]? = some v → Value.okWide Tryd.prog W .any base t v)
    (hW : DataW.Whole enc Tryd.prog Tryd.f6.params.toList Rows.treeGetsSpec.vars false W args.toList ds gs before)
    (hsz0 : (DataW.weightsEach Tryd.prog (Tryd.f6.params.toList ++ Rows.treeGetsSpec.plain.varTypes Tryd.prog) (ds ++ gs)).all (· ≤ reachBytes) = true)
    (hL : laidMetH Tryd.prog Rows.treeGetsRow.laid W) :
    Calls Tryd.prog 6 args W fun e W' => ∃ v, e = .returned v ∧ Rows.treeGetsSpec.post enc Tryd.prog Tryd.f6 false true false false W args v W' := by
  have hval : ∀ (j : Nat) t v, Tryd.f6.params[j]? = some t → args[j]? = some v → Value.okWide Tryd.prog W .any base t v := hval0
  have hsz : (DataW.weightsEach Tryd.prog (Tryd.f6.params.toList ++ Rows.treeGetsSpec.plain.varTypes Tryd.prog) (ds ++ gs)).all (· ≤ reachBytes) = true := hsz0
  have hT : Tab W := tab_of_laid hL
  have hW' := hW
  obtain ⟨p, q, hA0, hV, rfl, hfz, hnd⟩ := hW
  have hA : DataW.TrodAll enc Tryd.prog W 0 (fun _ => true) true Tryd.f6.params.toList args.toList ds p := hA0
  rw [Tryd.params6] at hA hval hsz
  obtain ⟨v0, vs0, d0, ds0, p0, q0, hargs, rfl, rfl, h0, r0⟩ := trodAll_cons hA
  obtain ⟨rfl, rfl, rfl⟩ := trodAll_nil r0
  obtain rfl : args = #[v0] := by cases args; simp_all
  obtain ⟨rfl, rfl⟩ := trodVars_none hV
  have k0 := h0
  have lt0 : ∀ x ∈ p0, x.block < W.heap.size := by obtain ⟨m, hm⟩ := k0; exact DataW.trod_lt m _ _ _ hm
  obtain ⟨ct0, cn0, cs0, cd0, kt0, kb0, rfl, r100, g0, z0, wn0, ws0, rd0, bd0, zd0⟩ := cas_open (hval 0 30 v0 rfl rfl) h0 (fun n hn => by simpa using List.all_eq_true.1 hsz n (DataW.weights_mem_each (j := 0) (t := 30) (d := d0) rfl rfl n hn))
  clear hA0 hval0 hsz0
  refine (walk ct0 cn0 cs0 cd0 kt0 kb0 W hT r100 g0 z0 wn0 ws0 rd0 bd0 zd0).mono fun e W' ⟨he, bel⟩ => ?_
  subst he
  exact ⟨_, rfl, _, _, _, [], _, [], hW', trodAll_mk1 (shut_bool Tryd.underlying4 _), (trodAll_cons_mk (Below.trod laidOut (by kernel_rfl) (of_decide_eq_true (by kernel_rfl)) k0 bel lt0) trodAll_mk0), rfl, bel.frame _, fun h => by cases h⟩

/-- a world for the witness: the settled one, the listed blocks as their initialisers lay them -/
def layBlock (b : Nat × Array Value) : Obj → Obj
  | .cells _ t frozen => .cells b.2 t frozen
  | o => o
noncomputable def laidWorld (os : Os) : World :=
  { World.holding Tryd.prog os ⟨#[], #[], []⟩ with heap := laidBlocks.foldl (fun h b => h.modify b.1 (layBlock b)) (World.holding Tryd.prog os ⟨#[], #[], []⟩).heap }
theorem laid_met (os : Os) : laidMet Tryd.prog Rows.treeGetsRow.laid ((laidWorld os).forCall (fun _ _ => 0) ⟨#[], #[.agg #[.slice none 0 0, .int .i64 0, .string ⟨#[]⟩, .slice none 0 0]], []⟩).memory :=
  laidMet_of_run' 8 (by kernel_rfl) (by kernel_rfl)
theorem reads (os : Os) {H : Type} (enc : TypeId × Value → H) : ∃ places, DataW.whole enc Tryd.prog ((laidWorld os).forCall (fun _ _ => 0) ⟨#[], #[.agg #[.slice none 0 0, .int .i64 0, .string ⟨#[]⟩, .slice none 0 0]], []⟩).memory Tryd.f6.params.toList Rows.treeGetsSpec.vars false #[.agg #[.slice none 0 0, .int .i64 0, .string ⟨#[]⟩, .slice none 0 0]].toList 8 = some ([.agg [.nil, .lit (.int .i64 0), .lit (.string []), .nil]], [], places) :=
  ⟨[], by kernel_rfl⟩

set_option maxRecDepth 100000 in
theorem lifted (os : Os) (started : os.Started) (H : Type) (enc : TypeId × Value → H) (F : Stop.Interp) :
    ReturnsInHanded {} Tryd.checked os 6 .any ((OpenSpec.ofChange Rows.treeGetsSpec).preRow enc Tryd.prog Tryd.f6 Rows.treeGetsRow.domain false Rows.treeGetsRow.laid) (((OpenSpec.ofChange Rows.treeGetsSpec).at F).post enc Tryd.prog Tryd.f6 false true false false) := by
  obtain ⟨places, hx⟩ := reads os enc
  refine returnsInHanded_of_row (C := Tryd.checked) (s := OpenSpec.ofChange Rows.treeGetsSpec) own started (by kernel_rfl) Tryd.func6
    (witness_row_at (enc := enc) (C := Tryd.checked) false (laidWorld os) #[.agg #[.slice none 0 0, .int .i64 0, .string ⟨#[]⟩, .slice none 0 0]] rfl (by kernel_rfl) (by kernel_rfl) (by kernel_rfl)
      (OpenSpec.preRow_of_cond 8 hx (by kernel_rfl) (fun k hk => by cases hk) (by kernel_rfl) (laid_met os))) ?_
  intro W base args ds gs before hval hW _ hcnd hsz hL _ _
  exact contract H enc W base args ds gs before hval hW hsz hL

theorem said : Rows.TreeGetsSaid :=
  OpenClaim.holds_of_cond 6 Tryd.f6 rfl rfl rfl rfl rfl rfl rfl ⟨rfl, rfl, rfl, rfl, rfl⟩ rfl rfl rfl rfl rfl (by kernel_rfl) Tryd.func6 (by kernel_rfl)
    (of_decide_eq_true (by kernel_rfl)) (by unfold Func.isWrapper; first | (rw [if_pos (by decide +kernel)]; kernel_rfl) | (rw [if_neg (by decide +kernel)]; exact ⟨rfl, rfl⟩))
    (fun os started H enc _ F => by rw [OpenClaim.pre_eq_preRow]; exact lifted os started H enc F)

theorem plain (f : FuncId) (fn : Func) (hf : Tryd.pinned.checked.prog.funcNamed "tinder/tinderlaw08.TreeGets" = some f) (hfn : Tryd.pinned.checked.prog.funcs[f]? = some fn) :
    false = Tryd.pinned.checked.prog.looks [] ∧ ∀ (j : Nat) t, fn.params[j]? = some t → Tryd.pinned.checked.prog.wantsStandIn t = false := by
  obtain rfl : f = 6 := Option.some.inj ((show Tryd.prog.funcNamed "tinder/tinderlaw08.TreeGets" = some 6 by kernel_rfl).symm.trans hf) |>.symm
  obtain rfl : fn = Tryd.f6 := (Option.some.inj (Tryd.func6.symm.trans hfn)).symm
  refine ⟨by kernel_rfl, fun j t ht => ?_⟩
  rw [Tryd.params6] at ht
  rcases j with _ | j
  · obtain rfl : t = 30 := by simpa using ht.symm
    exact (show Tryd.prog.wantsStandIn 30 = false by kernel_rfl)
  · simp at ht

theorem card : Rows.TreeGetsCardSaid :=
  Claim7.holds_tied_plain_at .later [] _ _ _ _ said (fun _ h => by cases h) (by kernel_rfl) (fun _ h => by cases h) treeGets_row_tie rfl ⟨rfl, rfl⟩ (by kernel_rfl) rfl plain (by kernel_rfl)
end Go.Proofs.YtkdaimagdmbnfaaDoor.treeGets
namespace Go.Proofs.YtkdaimagdmbnfaaDoor
theorem treeGets_holds : Rows.TreeGetsCardSaid := treeGets.card
#print axioms treeGets_holds
end Go.Proofs.YtkdaimagdmbnfaaDoor
