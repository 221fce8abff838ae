/-
  A device is added, or refused, as the document's answer says, and the tree stays formed; what was handed in stays.
-/
import Derived.Test.YtkdaimagdmbnfaaDoorRows
import Derived.WalkKit
import Derived.ProofKit
import Derived.OpenShut
import Derived.ShutString
import Derived.ChangeOld
import Derived.Below
import Derived.Carry
import Derived.SizedLaws
import Derived.Deep.DeepHandedRow
import Derived.SevenTiedAt
import Derived.Test.YtkdaimagdmbnfaaDoorCards
import Derived.Test.YtkdaimagdmbnfaaDoorTie
import Derived.Test.YtkdaimagdmbnfaaDoorB7
namespace Go.Proofs.YtkdaimagdmbnfaaDoor.treeAdds
open Go.ChangeShapes Go.WideShapes Go.ChangeAt Go.RowKit
open Go.ChangeMaps (open_string shut_string)
set_option linter.unusedVariables false

theorem own : ownKnob Tryd.prog.godebug = none := by kernel_rfl
theorem laidOut : laidOutB Tryd.prog = true := by kernel_rfl
theorem bytes58 : Tryd.prog.bytesOf 58 = 4 := by kernel_rfl

set_option maxHeartbeats 4000000 in
set_option maxRecDepth 100000 in
theorem walk (ct0 : Value) (cn0 : Int) (cs0 : ByteArray) (cd0 : Value) (kt0 : List Nd) (kb0 : List Int) (v1 : Value) (x1 : List Int) (w : World) (hT : Tab w) (r0 : RdT w ct0 kt0) (g0 : ∀ x ∈ kt0, goodN x) (z0 : kt0.length * 96 ≤ 140737488351232) (wn0 : (Lit.int .i64 cn0).wf = true) (ws0 : cs0.size ≤ maxLen) (rd0 : Rd .u8 w cd0 kb0) (bd0 : bytesL kb0) (zd0 : kb0.length ≤ 140737488351232) (r1 : Rd .u32 w v1 x1) (f1 : ∀ n ∈ x1, (Lit.int .u32 n).wf = true) (z1 : x1.length * 4 ≤ 140737488351232) :
    Calls Tryd.prog 4 #[.agg #[ct0, .int .i64 cn0, .string cs0, cd0], v1] w fun e w' => e = .returned (.bool true) ∧ Below w.heap.size w w' := by
  have hg : goodT kt0 := g0
  have bb := box_below w (.cells #[ct0, .int .i64 cn0, .string cs0, cd0] 30)
  have st_0 := stands_new w #[ct0, .int .i64 cn0, .string cs0, cd0] 30
  obtain ⟨k0_0, k1_0, k2_0, k3_0⟩ := cas_cells st_0
  have t_0 := r0.below bb
  have y_0 := rd0.below bb
  have hT_0 := hT.below bb
  have z_0 := r1.below bb
  have hcu : cells x1 := fun n hn => wf8 (f1 n hn)
  have c1 := fun w h => w_r8copy ct0 kt0 w h (by omega) hg.siz
  have c2 := fun v w hT h hu => w_p8add v kt0 cn0 cs0 v1 x1 w hT h hg z0 wn0 ws0 hu hcu
  have c3 := fun w h hu => w_r8add ct0 kt0 cn0 cs0 v1 x1 w h hu hg.byt hg.len ws0
  have hfo := add_formed kt0 cn0 (L cs0) x1
  have hga : goodT (addF kt0 cn0 (L cs0) x1).1 := add_goodT hg (LB_bytes _) (by rw [L_size]; exact ws0) hcu
  obtain ⟨A, M, E, hA⟩ : ∃ A M E, addF kt0 cn0 (L cs0) x1 = (A, M, E) := ⟨_, _, _, rfl⟩
  simp only [hA] at c2 c3 hfo hga
  clear hA
  by_cases hE : E = 0
  · subst hE
    have hf := hfo rfl
    have c4 := fun v w hT h => w_p8formed v A w hT h hga
    simp only [hf] at c4
    clear hfo hf
    go_enter Tryd.func4, Tryd.ntmps4
    go_wp2_with (go_at_call 9; refine (w_alive8 _ hT_0).mono ?_; rintro e q1 ⟨rfl, b_1⟩; have hT_1 := hT_0.below b_1; have t_1 := t_0.below b_1; have y_1 := y_0.below b_1; have st_1 := st_0.below b_1; obtain ⟨k0_1, k1_1, k2_1, k3_1⟩ := cas_cells st_1; have z_1 := z_0.below b_1)
    go_wp2_with (go_at_call 16; refine (c1 _ t_1).mono ?_; rintro e q2 ⟨u2, rfl, o2, b_2⟩; have hT_2 := hT_1.below b_2; have t_2 := t_1.below b_2; have y_2 := y_1.below b_2; have st_2 := st_1.below b_2; obtain ⟨k0_2, k1_2, k2_2, k3_2⟩ := cas_cells st_2; have z_2 := z_1.below b_2; have own_2 := ownT8_read o2.own)
    go_wp2_with (go_at_call 17; refine (c2 u2 _ hT_2 own_2 z_2).mono ?_; rintro e q3 ⟨u3, rfl, p3, b_3⟩; have hT_3 := hT_2.below b_3; have t_3 := t_2.below b_3; have y_3 := y_2.below b_3; have st_3 := st_2.below b_3; obtain ⟨k0_3, k1_3, k2_3, k3_3⟩ := cas_cells st_3; have z_3 := z_2.below b_3; have own_3 := own_2.below b_3; have p_3 := p3)
    go_wp2_with (go_at_call 18; refine (c3 _ t_3 z_3).mono ?_; rintro e q4 ⟨u4, rfl, o4, b_4⟩; have hT_4 := hT_3.below b_4; have t_4 := t_3.below b_4; have y_4 := y_3.below b_4; have st_4 := st_3.below b_4; obtain ⟨k0_4, k1_4, k2_4, k3_4⟩ := cas_cells st_4; have z_4 := z_3.below b_4; have own_4 := own_3.below b_4; have p_4 := p_3.below b_4; have x_4 := ownT8_read o4)
    go_wp2_with (go_at_call_of 12 u3; refine (w_r8eq u3 u4 A _ p_4 x_4 hga).mono ?_; rintro e q5 ⟨rfl, b_5⟩; have hT_5 := hT_4.below b_5; have t_5 := t_4.below b_5; have y_5 := y_4.below b_5; have st_5 := st_4.below b_5; obtain ⟨k0_5, k1_5, k2_5, k3_5⟩ := cas_cells st_5; have z_5 := z_4.below b_5; have own_5 := own_4.below b_5; have p_5 := p_4.below b_5; have x_5 := x_4.below b_5)
    go_wp2_with (go_at_call_of 12 u2; refine (w_r8eq u2 ct0 kt0 _ own_5 t_5 hg).mono ?_; rintro e q6 ⟨rfl, b_6⟩; have hT_6 := hT_5.below b_6; have t_6 := t_5.below b_6; have y_6 := y_5.below b_6; have st_6 := st_5.below b_6; obtain ⟨k0_6, k1_6, k2_6, k3_6⟩ := cas_cells st_6; have z_6 := z_5.below b_6; have own_6 := own_5.below b_6; have p_6 := p_5.below b_6; have x_6 := x_5.below b_6)
    go_wp2_with (go_at_call 10; refine (c4 u3 _ hT_6 p_6).mono ?_; rintro e q7 ⟨rfl, b_7⟩; have hT_7 := hT_6.below b_7; have t_7 := t_6.below b_7; have y_7 := y_6.below b_7; have st_7 := st_6.below b_7; obtain ⟨k0_7, k1_7, k2_7, k3_7⟩ := cas_cells st_7; have z_7 := z_6.below b_7; have own_7 := own_6.below b_7; have p_7 := p_6.below b_7; have x_7 := x_6.below b_7)
    go_ret
    exact ⟨by simp, below_trans (below_trans (below_trans (below_trans (below_trans (below_trans (below_trans (bb) b_1) b_2) b_3) b_4) b_5) b_6) b_7⟩
  · have qE : (E == 0) = false := by simpa using hE
    have qN : (E != 0) = true := by simpa using hE
    clear hfo
    go_enter Tryd.func4, Tryd.ntmps4
    go_wp2_with (go_at_call 9; refine (w_alive8 _ hT_0).mono ?_; rintro e q1 ⟨rfl, b_1⟩; have hT_1 := hT_0.below b_1; have t_1 := t_0.below b_1; have y_1 := y_0.below b_1; have st_1 := st_0.below b_1; obtain ⟨k0_1, k1_1, k2_1, k3_1⟩ := cas_cells st_1; have z_1 := z_0.below b_1)
    go_wp2_with (go_at_call 16; refine (c1 _ t_1).mono ?_; rintro e q2 ⟨u2, rfl, o2, b_2⟩; have hT_2 := hT_1.below b_2; have t_2 := t_1.below b_2; have y_2 := y_1.below b_2; have st_2 := st_1.below b_2; obtain ⟨k0_2, k1_2, k2_2, k3_2⟩ := cas_cells st_2; have z_2 := z_1.below b_2; have own_2 := ownT8_read o2.own)
    go_wp2_with (go_at_call 17; refine (c2 u2 _ hT_2 own_2 z_2).mono ?_; rintro e q3 ⟨u3, rfl, p3, b_3⟩; have hT_3 := hT_2.below b_3; have t_3 := t_2.below b_3; have y_3 := y_2.below b_3; have st_3 := st_2.below b_3; obtain ⟨k0_3, k1_3, k2_3, k3_3⟩ := cas_cells st_3; have z_3 := z_2.below b_3; have own_3 := own_2.below b_3; have p_3 := p3)
    go_wp2_with (go_at_call 18; refine (c3 _ t_3 z_3).mono ?_; rintro e q4 ⟨u4, rfl, o4, b_4⟩; have hT_4 := hT_3.below b_4; have t_4 := t_3.below b_4; have y_4 := y_3.below b_4; have st_4 := st_3.below b_4; obtain ⟨k0_4, k1_4, k2_4, k3_4⟩ := cas_cells st_4; have z_4 := z_3.below b_4; have own_4 := own_3.below b_4; have p_4 := p_3.below b_4; have x_4 := ownT8_read o4)
    go_wp2_with (go_at_call_of 12 u3; refine (w_r8eq u3 u4 A _ p_4 x_4 hga).mono ?_; rintro e q5 ⟨rfl, b_5⟩; have hT_5 := hT_4.below b_5; have t_5 := t_4.below b_5; have y_5 := y_4.below b_5; have st_5 := st_4.below b_5; obtain ⟨k0_5, k1_5, k2_5, k3_5⟩ := cas_cells st_5; have z_5 := z_4.below b_5; have own_5 := own_4.below b_5; have p_5 := p_4.below b_5; have x_5 := x_4.below b_5)
    go_wp2_with (go_at_call_of 12 u2; refine (w_r8eq u2 ct0 kt0 _ own_5 t_5 hg).mono ?_; rintro e q6 ⟨rfl, b_6⟩; have hT_6 := hT_5.below b_6; have t_6 := t_5.below b_6; have y_6 := y_5.below b_6; have st_6 := st_5.below b_6; obtain ⟨k0_6, k1_6, k2_6, k3_6⟩ := cas_cells st_6; have z_6 := z_5.below b_6; have own_6 := own_5.below b_6; have p_6 := p_5.below b_6; have x_6 := x_5.below b_6)
    go_ret
    exact ⟨by simp, below_trans (below_trans (below_trans (below_trans (below_trans (below_trans (bb) b_1) b_2) b_3) b_4) b_5) b_6⟩

set_option maxRecDepth 100000 in
/-- what the walk gives, for every argument and every world that holds what is listed -/
theorem contract (H : Type) (enc : TypeId × Value → H) (W : World) (base : Nat) (args : Array Value) (ds gs : List (DataW H)) (before : List MemPlace)
    (hval0 : ∀ (j : Nat) t v, Tryd.f4.params[j]? = some t → args[j]? = some v → Value.okWide Tryd.prog W .any base t v)
    (hW : DataW.Whole enc Tryd.prog Tryd.f4.params.toList Rows.treeAddsSpec.vars false W args.toList ds gs before)
    (hsz0 : (DataW.weightsEach Tryd.prog (Tryd.f4.params.toList ++ Rows.treeAddsSpec.plain.varTypes Tryd.prog) (ds ++ gs)).all (· ≤ reachBytes) = true)
    (hL : laidMetH Tryd.prog Rows.treeAddsRow.laid W) :
    Calls Tryd.prog 4 args W fun e W' => ∃ v, e = .returned v ∧ Rows.treeAddsSpec.post enc Tryd.prog Tryd.f4 false true false false W args v W' := by
  have hval : ∀ (j : Nat) t v, Tryd.f4.params[j]? = some t → args[j]? = some v → Value.okWide Tryd.prog W .any base t v := hval0
  have hsz : (DataW.weightsEach Tryd.prog (Tryd.f4.params.toList ++ Rows.treeAddsSpec.plain.varTypes Tryd.prog) (ds ++ gs)).all (· ≤ reachBytes) = true := hsz0
  have hT : Tab W := tab_of_laid hL
  have hW' := hW
  obtain ⟨p, q, hA0, hV, rfl, hfz, hnd⟩ := hW
  have hA : DataW.TrodAll enc Tryd.prog W 0 (fun _ => true) true Tryd.f4.params.toList args.toList ds p := hA0
  rw [Tryd.params4] at hA hval hsz
  obtain ⟨v0, vs0, d0, ds0, p0, q0, hargs, rfl, rfl, h0, r0⟩ := trodAll_cons hA
  obtain ⟨v1, vs1, d1, ds1, p1, q1, rfl, rfl, rfl, h1, r1⟩ := trodAll_cons r0
  obtain ⟨rfl, rfl, rfl⟩ := trodAll_nil r1
  obtain rfl : args = #[v0, v1] := by cases args; simp_all
  obtain ⟨rfl, rfl⟩ := trodVars_none hV
  have k0 := h0
  have lt0 : ∀ x ∈ p0, x.block < W.heap.size := by obtain ⟨m, hm⟩ := k0; exact DataW.trod_lt m _ _ _ hm
  obtain ⟨ct0, cn0, cs0, cd0, kt0, kb0, rfl, r100, g0, z0, wn0, ws0, rd0, bd0, zd0⟩ := cas_open (hval 0 30 v0 rfl rfl) h0 (fun n hn => by simpa using List.all_eq_true.1 hsz n (DataW.weights_mem_each (j := 0) (t := 30) (d := d0) rfl rfl n hn))
  obtain ⟨s1, l1, c1, rfl⟩ := okWide_slice Tryd.underlying31 (hval 1 31 v1 rfl rfl)
  have k1 := h1
  have lt1 : ∀ x ∈ p1, x.block < W.heap.size := by obtain ⟨m, hm⟩ := k1; exact DataW.trod_lt m _ _ _ hm
  obtain ⟨x1, r101, f1, hd1⟩ := rd_open (k := .u32) Tryd.underlying31 Tryd.underlying58 (by kernel_rfl) h1
  have z1 : x1.length * 4 ≤ 140737488351232 := by
    rcases hd1 with rfl | ⟨ys, zs, rfl, hle⟩
    · simp
    · have := sized_slice hsz (j := 1) (t := 31) (e := 58) rfl rfl Tryd.underlying31
      rw [bytes58] at this
      unfold reachBytes at this
      omega
  clear hA0 hval0 hsz0
  refine (walk ct0 cn0 cs0 cd0 kt0 kb0 (.slice s1 l1 c1) x1 W hT r100 g0 z0 wn0 ws0 rd0 bd0 zd0 r101 f1 z1).mono fun e W' ⟨he, bel⟩ => ?_
  subst he
  exact ⟨_, rfl, _, _, _, [], _, [], hW', trodAll_mk1 (shut_bool Tryd.underlying4 _), (trodAll_cons_mk (Below.trod laidOut (by kernel_rfl) (of_decide_eq_true (by kernel_rfl)) k0 bel lt0) (trodAll_cons_mk (Below.trod laidOut (by kernel_rfl) (of_decide_eq_true (by kernel_rfl)) k1 bel lt1) trodAll_mk0)), rfl, bel.frame _, fun h => by cases h⟩

/-- a world for the witness: the settled one, the listed blocks as their initialisers lay them -/
def layBlock (b : Nat × Array Value) : Obj → Obj
  | .cells _ t frozen => .cells b.2 t frozen
  | o => o
noncomputable def laidWorld (os : Os) : World :=
  { World.holding Tryd.prog os ⟨#[], #[], []⟩ with heap := laidBlocks.foldl (fun h b => h.modify b.1 (layBlock b)) (World.holding Tryd.prog os ⟨#[], #[], []⟩).heap }
theorem laid_met (os : Os) : laidMet Tryd.prog Rows.treeAddsRow.laid ((laidWorld os).forCall (fun _ _ => 0) ⟨#[], #[.agg #[.slice none 0 0, .int .i64 0, .string ⟨#[]⟩, .slice none 0 0], .slice none 0 0], []⟩).memory :=
  laidMet_of_run' 8 (by kernel_rfl) (by kernel_rfl)
theorem reads (os : Os) {H : Type} (enc : TypeId × Value → H) : ∃ places, DataW.whole enc Tryd.prog ((laidWorld os).forCall (fun _ _ => 0) ⟨#[], #[.agg #[.slice none 0 0, .int .i64 0, .string ⟨#[]⟩, .slice none 0 0], .slice none 0 0], []⟩).memory Tryd.f4.params.toList Rows.treeAddsSpec.vars false #[.agg #[.slice none 0 0, .int .i64 0, .string ⟨#[]⟩, .slice none 0 0], .slice none 0 0].toList 8 = some ([.agg [.nil, .lit (.int .i64 0), .lit (.string []), .nil], .nil], [], places) :=
  ⟨[], by kernel_rfl⟩

set_option maxRecDepth 100000 in
theorem lifted (os : Os) (started : os.Started) (H : Type) (enc : TypeId × Value → H) (F : Stop.Interp) :
    ReturnsInHanded {} Tryd.checked os 4 .any ((OpenSpec.ofChange Rows.treeAddsSpec).preRow enc Tryd.prog Tryd.f4 Rows.treeAddsRow.domain false Rows.treeAddsRow.laid) (((OpenSpec.ofChange Rows.treeAddsSpec).at F).post enc Tryd.prog Tryd.f4 false true false false) := by
  obtain ⟨places, hx⟩ := reads os enc
  refine returnsInHanded_of_row (C := Tryd.checked) (s := OpenSpec.ofChange Rows.treeAddsSpec) own started (by kernel_rfl) Tryd.func4
    (witness_row_at (enc := enc) (C := Tryd.checked) false (laidWorld os) #[.agg #[.slice none 0 0, .int .i64 0, .string ⟨#[]⟩, .slice none 0 0], .slice none 0 0] rfl (by kernel_rfl) (by kernel_rfl) (by kernel_rfl)
      (OpenSpec.preRow_of_cond 8 hx (by kernel_rfl) (fun k hk => by cases hk) (by kernel_rfl) (laid_met os))) ?_
  intro W base args ds gs before hval hW _ hcnd hsz hL _ _
  exact contract H enc W base args ds gs before hval hW hsz hL

theorem said : Rows.TreeAddsSaid :=
  OpenClaim.holds_of_cond 4 Tryd.f4 rfl rfl rfl rfl rfl rfl rfl ⟨rfl, rfl, rfl, rfl, rfl⟩ rfl rfl rfl rfl rfl (by kernel_rfl) Tryd.func4 (by kernel_rfl)
    (of_decide_eq_true (by kernel_rfl)) (by unfold Func.isWrapper; first | (rw [if_pos (by decide +kernel)]; kernel_rfl) | (rw [if_neg (by decide +kernel)]; exact ⟨rfl, rfl⟩))
    (fun os started H enc _ F => by rw [OpenClaim.pre_eq_preRow]; exact lifted os started H enc F)

theorem plain (f : FuncId) (fn : Func) (hf : Tryd.pinned.checked.prog.funcNamed "tinder/tinderlaw08.TreeAdds" = some f) (hfn : Tryd.pinned.checked.prog.funcs[f]? = some fn) :
    false = Tryd.pinned.checked.prog.looks [] ∧ ∀ (j : Nat) t, fn.params[j]? = some t → Tryd.pinned.checked.prog.wantsStandIn t = false := by
  obtain rfl : f = 4 := Option.some.inj ((show Tryd.prog.funcNamed "tinder/tinderlaw08.TreeAdds" = some 4 by kernel_rfl).symm.trans hf) |>.symm
  obtain rfl : fn = Tryd.f4 := (Option.some.inj (Tryd.func4.symm.trans hfn)).symm
  refine ⟨by kernel_rfl, fun j t ht => ?_⟩
  rw [Tryd.params4] at ht
  rcases j with _ | _ | j
  · obtain rfl : t = 30 := by simpa using ht.symm
    exact (show Tryd.prog.wantsStandIn 30 = false by kernel_rfl)
  · obtain rfl : t = 31 := by simpa using ht.symm
    exact (show Tryd.prog.wantsStandIn 31 = false by kernel_rfl)
  · simp at ht

theorem card : Rows.TreeAddsCardSaid :=
  Claim7.holds_tied_plain_at .later [] _ _ _ _ said (fun _ h => by cases h) (by kernel_rfl) (fun _ h => by cases h) treeAdds_row_tie rfl ⟨rfl, rfl⟩ (by kernel_rfl) rfl plain (by kernel_rfl)
end Go.Proofs.YtkdaimagdmbnfaaDoor.treeAdds
namespace Go.Proofs.YtkdaimagdmbnfaaDoor
theorem treeAdds_holds : Rows.TreeAddsCardSaid := treeAdds.card
#print axioms treeAdds_holds
end Go.Proofs.YtkdaimagdmbnfaaDoor
