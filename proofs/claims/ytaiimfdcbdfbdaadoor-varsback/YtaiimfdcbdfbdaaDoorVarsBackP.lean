/-
  Settings that were encoded are decoded the same, and bytes that were decoded are encoded the same, if they find room.
-/
import Derived.Test.YtaiimfdcbdfbdaaDoorRows
import Derived.WalkKit
import Derived.ProofKit
import Derived.OpenShut
import Derived.ShutString
import Derived.ChangeOld
import Derived.Below
import Derived.Carry
import Derived.SizedLaws
import Derived.Deep.DeepHandedRow
import Derived.SevenTiedAt
import Derived.Test.YtaiimfdcbdfbdaaDoorCards
import Derived.Test.YtaiimfdcbdfbdaaDoorTie
import Derived.Test.YtaiimfdcbdfbdaaDoorSl
import Derived.Test.YtaiimfdcbdfbdaaDoorVlw
import Derived.Test.YtaiimfdcbdfbdaaDoorSg
import Derived.Test.YtaiimfdcbdfbdaaDoorVtb
namespace Go.Proofs.YtaiimfdcbdfbdaaDoor.varsBack
open Go.ChangeShapes Go.WideShapes Go.ChangeAt Go.RowKit
open Go.ChangeMaps (open_string shut_string)
set_option linter.unusedVariables false
set_option linter.unusedSimpArgs false

theorem own : ownKnob Tryd.prog.godebug = none := by kernel_rfl
theorem laidOut : laidOutB Tryd.prog = true := by kernel_rfl
theorem bytes5 : Tryd.prog.bytesOf 5 = 1 := by kernel_rfl

set_option maxHeartbeats 4000000 in
set_option maxRecDepth 100000 in
theorem walk (v0 : Value) (x0 : List Stt) (v1 : Value) (x1 : List Int) (w : World) (hT : Tab w) (r0 : SlR 2 stR w v0 x0) (g0 : ∀ x ∈ x0, gS x) (z0 : x0.length * 32 ≤ 140737488351232) (r1 : Rd .u8 w v1 x1) (f1 : ∀ n ∈ x1, (Lit.int .u8 n).wf = true) (z1 : x1.length * 1 ≤ 140737488351232) :
    Calls Tryd.prog 7 #[v0, v1] w fun e w' => e = .returned (.bool true) ∧ Below w.heap.size w w' := by
  have hb1 : bytesL x1 := fun n hn => by have := f1 n hn; simp [Lit.wf, IntKind.min, IntKind.max, IntKind.bits, IntKind.signed] at this; omega
  have hlb := rd_len r1 uB (P := Tryd.prog)
  have zz : x1.length ≤ 140737488351232 := by omega
  have c1 := fun w hT h => w_pencode19 v0 x0 w hT h
  have cD := fun w hT h => w_pdecode19 v1 x1 w hT h hb1 zz
  have hD1 := va_de hb1
  have hD2 := va_den x1
  obtain ⟨⟨D, F⟩, hD⟩ : ∃ x, vaDe x1 = x := ⟨_, rfl⟩
  rw [hD] at hD1 hD2
  simp only [hD] at cD
  simp only at hD1 hD2
  clear hD
  by_cases hE : (vaEn x0).2 = 0
  · obtain ⟨e1, e2, e3⟩ := vaEn_ok hE
    have cX := fun v w hT h => w_pdecode19 v (vaB x0) w hT h (va_bytes x0) (by omega)
    rw [va_back e1] at cX
    simp only [hE, e2] at c1
    simp only at cX
    obtain ⟨B, hB⟩ : ∃ B, vaB x0 = B := ⟨_, rfl⟩
    simp only [hB] at c1 cX
    clear e1 e2 e3 hB hE
    go_enter Tryd.func7, Tryd.ntmps7
    go_upto_region 8 with (first
      | (go_at_call 9; refine (w_alive19 _ hT).mono ?_; rintro e q1 ⟨rfl, b1⟩)
      | (go_at_call 24; refine (c1 _ (hT.below b1) (r0.below b1 stR_below)).mono ?_; rintro e q2 ⟨v2, rfl, r2, b2⟩; have b12 := below_trans b1 b2)
      | (go_at_call 26; refine (cX _ _ (hT.below b12) r2).mono ?_; rintro e q3 ⟨v3, rfl, r3, b3⟩; have b13 := below_trans b12 b3)
      | (go_at_call 19; refine (w_rsame19 v3 v0 x0 x0 _ r3 (r0.below b13 stR_below)).mono ?_; rintro e q4 ⟨hs, b4⟩; rw [decide_eq_true rfl] at hs; subst hs; have b14 := below_trans b13 b4)
      | fail)
    clear c1 cX
    by_cases hF : F = 0
    · obtain ⟨d1, d2⟩ := hD1 hF
      have cE2 := fun v w hT h => w_pencode19 v D w hT h
      by_cases hL : 248 < x1.length
      · rw [show vaEn D = ([], 10) from vaEn_long d1 d2 hL] at cE2
        simp only at cE2
        have hLi : (248 : Int) < x1.length := by omega
        subst hF
        clear d1 d2 hD1 hD2 hL
        go_wp2_with (first
          | (go_at_call 26; refine (cD _ (hT.below b14) (r1.below b14)).mono ?_; rintro e p1 ⟨u1, rfl, s1, g1⟩; have g01 := below_trans b14 g1)
          | (go_at_call 24; refine (cE2 _ _ (hT.below g01) s1).mono ?_; rintro e p2 ⟨u2, rfl, s2, g2⟩; have g02 := below_trans g01 g2))
        go_ret
        exact ⟨ret_b (by simp), g02⟩
      · rw [show vaEn D = (x1, 0) from vaEn_short d1 d2 hL] at cE2
        simp only at cE2
        have hLi : ¬ (248 : Int) < x1.length := by omega
        subst hF
        clear d1 d2 hD1 hD2 hL
        go_wp2_with (first
          | (go_at_call 26; refine (cD _ (hT.below b14) (r1.below b14)).mono ?_; rintro e p1 ⟨u1, rfl, s1, g1⟩; have g01 := below_trans b14 g1)
          | (go_at_call 24; refine (cE2 _ _ (hT.below g01) s1).mono ?_; rintro e p2 ⟨u2, rfl, s2, g2⟩; have g02 := below_trans g01 g2)
          | (go_at_call 28; refine (w_rsame u2 v1 x1 x1 _ s2 (r1.below g02) hb1 hb1).mono ?_; rintro e p3 ⟨rfl, hw⟩; obtain rfl := hw.symm))
        go_ret
        exact ⟨ret_b (by simp), g02⟩
    · have hDn := hD2 hF
      subst hDn
      clear hD1 hD2
      go_wp2_with (go_at_call 26; refine (cD _ (hT.below b14) (r1.below b14)).mono ?_; rintro e p1 ⟨u1, rfl, s1, g1⟩; have hl1 : ∀ ty w', (Builtin.len_ #[30] ty #[u1]).run Tryd.prog w' = .ok (.int .i64 0) w' := slr_len s1 uSt (P := Tryd.prog))
      go_ret
      exact ⟨ret_b (by simp), below_trans b14 g1⟩
  · have hx := vaEn_no hE
    obtain ⟨⟨X, E⟩, hX⟩ : ∃ x, vaEn x0 = x := ⟨_, rfl⟩
    simp only [hX] at c1
    rw [hX] at hE
    simp only at hE
    clear hX hx
    go_enter Tryd.func7, Tryd.ntmps7
    go_upto_region 8 with (first
      | (go_at_call 9; refine (w_alive19 _ hT).mono ?_; rintro e q1 ⟨rfl, b1⟩)
      | (go_at_call 24; refine (c1 _ (hT.below b1) (r0.below b1 stR_below)).mono ?_; rintro e q2 ⟨v2, rfl, r2, b2⟩; have b12 := below_trans b1 b2)
      | fail)
    clear c1
    by_cases hF : F = 0
    · obtain ⟨d1, d2⟩ := hD1 hF
      have cE2 := fun v w hT h => w_pencode19 v D w hT h
      by_cases hL : 248 < x1.length
      · rw [show vaEn D = ([], 10) from vaEn_long d1 d2 hL] at cE2
        simp only at cE2
        have hLi : (248 : Int) < x1.length := by omega
        subst hF
        clear d1 d2 hD1 hD2 hL
        go_wp2_with (first
          | (go_at_call 26; refine (cD _ (hT.below b12) (r1.below b12)).mono ?_; rintro e p1 ⟨u1, rfl, s1, g1⟩; have g01 := below_trans b12 g1)
          | (go_at_call 24; refine (cE2 _ _ (hT.below g01) s1).mono ?_; rintro e p2 ⟨u2, rfl, s2, g2⟩; have g02 := below_trans g01 g2))
        go_ret
        exact ⟨ret_b (by simp), g02⟩
      · rw [show vaEn D = (x1, 0) from vaEn_short d1 d2 hL] at cE2
        simp only at cE2
        have hLi : ¬ (248 : Int) < x1.length := by omega
        subst hF
        clear d1 d2 hD1 hD2 hL
        go_wp2_with (first
          | (go_at_call 26; refine (cD _ (hT.below b12) (r1.below b12)).mono ?_; rintro e p1 ⟨u1, rfl, s1, g1⟩; have g01 := below_trans b12 g1)
          | (go_at_call 24; refine (cE2 _ _ (hT.below g01) s1).mono ?_; rintro e p2 ⟨u2, rfl, s2, g2⟩; have g02 := below_trans g01 g2)
          | (go_at_call 28; refine (w_rsame u2 v1 x1 x1 _ s2 (r1.below g02) hb1 hb1).mono ?_; rintro e p3 ⟨rfl, hw⟩; obtain rfl := hw.symm))
        go_ret
        exact ⟨ret_b (by simp), g02⟩
    · have hDn := hD2 hF
      subst hDn
      clear hD1 hD2
      go_wp2_with (go_at_call 26; refine (cD _ (hT.below b12) (r1.below b12)).mono ?_; rintro e p1 ⟨u1, rfl, s1, g1⟩; have hl1 : ∀ ty w', (Builtin.len_ #[30] ty #[u1]).run Tryd.prog w' = .ok (.int .i64 0) w' := slr_len s1 uSt (P := Tryd.prog))
      go_ret
      exact ⟨ret_b (by simp), below_trans b12 g1⟩

set_option maxRecDepth 100000 in
/-- what the walk gives, for every argument and every world that holds what is listed -/
theorem contract (H : Type) (enc : TypeId × Value → H) (W : World) (base : Nat) (args : Array Value) (ds gs : List (DataW H)) (before : List MemPlace)
    (hval0 : ∀ (j : Nat) t v, Tryd.f7.params[j]? = some t → args[j]? = some v → Value.okWide Tryd.prog W .any base t v)
    (hW : DataW.Whole enc Tryd.prog Tryd.f7.params.toList Rows.varsBackSpec.vars false W args.toList ds gs before)
    (hsz0 : (DataW.weightsEach Tryd.prog (Tryd.f7.params.toList ++ Rows.varsBackSpec.plain.varTypes Tryd.prog) (ds ++ gs)).all (· ≤ reachBytes) = true)
    (hL : laidMetH Tryd.prog Rows.varsBackRow.laid W) :
    Calls Tryd.prog 7 args W fun e W' => ∃ v, e = .returned v ∧ Rows.varsBackSpec.post enc Tryd.prog Tryd.f7 false true false false W args v W' := by
  have hval : ∀ (j : Nat) t v, Tryd.f7.params[j]? = some t → args[j]? = some v → Value.okWide Tryd.prog W .any base t v := hval0
  have hsz : (DataW.weightsEach Tryd.prog (Tryd.f7.params.toList ++ Rows.varsBackSpec.plain.varTypes Tryd.prog) (ds ++ gs)).all (· ≤ reachBytes) = true := hsz0
  have hT : Tab W := tab_of_laid hL
  have hW' := hW
  obtain ⟨p, q, hA0, hV, rfl, hfz, hnd⟩ := hW
  have hA : DataW.TrodAll enc Tryd.prog W 0 (fun _ => true) true Tryd.f7.params.toList args.toList ds p := hA0
  rw [Tryd.params7] at hA hval hsz
  obtain ⟨v0, vs0, d0, ds0, p0, q0, hargs, rfl, rfl, h0, r0⟩ := trodAll_cons hA
  obtain ⟨v1, vs1, d1, ds1, p1, q1, rfl, rfl, rfl, h1, r1⟩ := trodAll_cons r0
  obtain ⟨rfl, rfl, rfl⟩ := trodAll_nil r1
  obtain rfl : args = #[v0, v1] := by cases args; simp_all
  obtain ⟨rfl, rfl⟩ := trodVars_none hV
  obtain ⟨s0, l0, c0, rfl⟩ := okWide_slice Tryd.underlying30 (hval 0 30 v0 rfl rfl)
  have k0 := h0
  have lt0 : ∀ x ∈ p0, x.block < W.heap.size := by obtain ⟨m, hm⟩ := k0; exact DataW.trod_lt m _ _ _ hm
  obtain ⟨x0, r100, g0, z0⟩ := sts_open h0 (fun n hn => by simpa using List.all_eq_true.1 hsz n (DataW.weights_mem_each (j := 0) (t := 30) (d := d0) rfl rfl n hn))
  obtain ⟨s1, l1, c1, rfl⟩ := okWide_slice Tryd.underlying39 (hval 1 39 v1 rfl rfl)
  have k1 := h1
  have lt1 : ∀ x ∈ p1, x.block < W.heap.size := by obtain ⟨m, hm⟩ := k1; exact DataW.trod_lt m _ _ _ hm
  obtain ⟨x1, r101, f1, hd1⟩ := rd_open (k := .u8) Tryd.underlying39 Tryd.underlying5 (by kernel_rfl) h1
  have z1 : x1.length * 1 ≤ 140737488351232 := by
    rcases hd1 with rfl | ⟨ys, zs, rfl, hle⟩
    · simp
    · have := sized_slice hsz (j := 1) (t := 39) (e := 5) rfl rfl Tryd.underlying39
      rw [bytes5] at this
      unfold reachBytes at this
      omega
  clear hA0 hval0 hsz0
  refine (walk (.slice s0 l0 c0) x0 (.slice s1 l1 c1) x1 W hT r100 g0 z0 r101 f1 z1).mono fun e W' ⟨he, bel⟩ => ?_
  subst he
  exact ⟨_, rfl, _, _, _, [], _, [], hW', trodAll_mk1 (shut_bool Tryd.underlying4 _), (trodAll_cons_mk (Below.trod laidOut (by kernel_rfl) (of_decide_eq_true (by kernel_rfl)) k0 bel lt0) (trodAll_cons_mk (Below.trod laidOut (by kernel_rfl) (of_decide_eq_true (by kernel_rfl)) k1 bel lt1) trodAll_mk0)), rfl, bel.frame _, fun h => by cases h⟩

/-- a world for the witness: the settled one, the listed blocks as their initialisers lay them -/
def layBlock (b : Nat × Array Value) : Obj → Obj
  | .cells _ t frozen => .cells b.2 t frozen
  | o => o
noncomputable def laidWorld (os : Os) : World :=
  { World.holding Tryd.prog os ⟨#[], #[], []⟩ with heap := laidBlocks.foldl (fun h b => h.modify b.1 (layBlock b)) (World.holding Tryd.prog os ⟨#[], #[], []⟩).heap }
theorem laid_met (os : Os) : laidMet Tryd.prog Rows.varsBackRow.laid ((laidWorld os).forCall (fun _ _ => 0) ⟨#[], #[.slice none 0 0, .slice none 0 0], []⟩).memory :=
  laidMet_of_run' 8 (by kernel_rfl) (by kernel_rfl)
theorem reads (os : Os) {H : Type} (enc : TypeId × Value → H) : ∃ places, DataW.whole enc Tryd.prog ((laidWorld os).forCall (fun _ _ => 0) ⟨#[], #[.slice none 0 0, .slice none 0 0], []⟩).memory Tryd.f7.params.toList Rows.varsBackSpec.vars false #[.slice none 0 0, .slice none 0 0].toList 8 = some ([.nil, .nil], [], places) :=
  ⟨[], by kernel_rfl⟩

set_option maxRecDepth 100000 in
theorem lifted (os : Os) (started : os.Started) (H : Type) (enc : TypeId × Value → H) (F : Stop.Interp) :
    ReturnsInHanded {} Tryd.checked os 7 .any ((OpenSpec.ofChange Rows.varsBackSpec).preRow enc Tryd.prog Tryd.f7 Rows.varsBackRow.domain false Rows.varsBackRow.laid) (((OpenSpec.ofChange Rows.varsBackSpec).at F).post enc Tryd.prog Tryd.f7 false true false false) := by
  obtain ⟨places, hx⟩ := reads os enc
  refine returnsInHanded_of_row (C := Tryd.checked) (s := OpenSpec.ofChange Rows.varsBackSpec) own started (by kernel_rfl) Tryd.func7
    (witness_row_at (enc := enc) (C := Tryd.checked) false (laidWorld os) #[.slice none 0 0, .slice none 0 0] rfl (by kernel_rfl) (by kernel_rfl) (by kernel_rfl)
      (OpenSpec.preRow_of_cond 8 hx (by kernel_rfl) (fun k hk => by cases hk) (by kernel_rfl) (laid_met os))) ?_
  intro W base args ds gs before hval hW _ hcnd hsz hL _ _
  exact contract H enc W base args ds gs before hval hW hsz hL

theorem said : Rows.VarsBackSaid :=
  OpenClaim.holds_of_cond 7 Tryd.f7 rfl rfl rfl rfl rfl rfl rfl ⟨rfl, rfl, rfl, rfl, rfl⟩ rfl rfl rfl rfl rfl (by kernel_rfl) Tryd.func7 (by kernel_rfl)
    (of_decide_eq_true (by kernel_rfl)) (by unfold Func.isWrapper; first | (rw [if_pos (by decide +kernel)]; kernel_rfl) | (rw [if_neg (by decide +kernel)]; exact ⟨rfl, rfl⟩))
    (fun os started H enc _ F => by rw [OpenClaim.pre_eq_preRow]; exact lifted os started H enc F)

theorem plain (f : FuncId) (fn : Func) (hf : Tryd.pinned.checked.prog.funcNamed "tinder/tinderlaw19.VarsBack" = some f) (hfn : Tryd.pinned.checked.prog.funcs[f]? = some fn) :
    false = Tryd.pinned.checked.prog.looks [] ∧ ∀ (j : Nat) t, fn.params[j]? = some t → Tryd.pinned.checked.prog.wantsStandIn t = false := by
  obtain rfl : f = 7 := Option.some.inj ((show Tryd.prog.funcNamed "tinder/tinderlaw19.VarsBack" = some 7 by kernel_rfl).symm.trans hf) |>.symm
  obtain rfl : fn = Tryd.f7 := (Option.some.inj (Tryd.func7.symm.trans hfn)).symm
  refine ⟨by kernel_rfl, fun j t ht => ?_⟩
  rw [Tryd.params7] at ht
  rcases j with _ | _ | j
  · obtain rfl : t = 30 := by simpa using ht.symm
    exact (show Tryd.prog.wantsStandIn 30 = false by kernel_rfl)
  · obtain rfl : t = 39 := by simpa using ht.symm
    exact (show Tryd.prog.wantsStandIn 39 = false by kernel_rfl)
  · simp at ht

theorem card : Rows.VarsBackCardSaid :=
  Claim7.holds_tied_plain_at .later [] _ _ _ _ said (fun _ h => by cases h) (by kernel_rfl) (fun _ h => by cases h) varsBack_row_tie rfl ⟨rfl, rfl⟩ (by kernel_rfl) rfl plain (by kernel_rfl)
end Go.Proofs.YtaiimfdcbdfbdaaDoor.varsBack
namespace Go.Proofs.YtaiimfdcbdfbdaaDoor
theorem varsBack_holds : Rows.VarsBackCardSaid := varsBack.card
#print axioms varsBack_holds
end Go.Proofs.YtaiimfdcbdfbdaaDoor
