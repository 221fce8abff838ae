/-
  What is shown is cut to the same kinds and texts, at places that grow, where it isn't too long.
-/
import Derived.Test.YtpjkjkjoaapdiaaDoorRows
import Derived.WalkKit
import Derived.ProofKit
import Derived.OpenShut
import Derived.ShutString
import Derived.ChangeOld
import Derived.Below
import Derived.Carry
import Derived.SizedLaws
import Derived.Deep.DeepHandedRow
import Derived.SevenTiedAt
import Derived.Test.YtpjkjkjoaapdiaaDoorCards
import Derived.Test.YtpjkjkjoaapdiaaDoorTie
import Derived.Test.YtpjkjkjoaapdiaaDoorSl
import Derived.Test.YtpjkjkjoaapdiaaDoorBk
import Derived.Deep.CondSized
import Derived.JoinedCond
import Derived.Test.YtpjkjkjoaapdiaaDoorSca
import Derived.Test.YtpjkjkjoaapdiaaDoorPsv
import Derived.Test.YtpjkjkjoaapdiaaDoorStb
namespace Go.Proofs.YtpjkjkjoaapdiaaDoor.scanBack
open Go.ChangeShapes Go.WideShapes Go.ChangeAt Go.RowKit
open Go.ChangeMaps (open_string shut_string)
set_option linter.unusedVariables false

theorem own : ownKnob Tryd.prog.godebug = none := by kernel_rfl
theorem laidOut : laidOutB Tryd.prog = true := by kernel_rfl

set_option maxHeartbeats 4000000 in
set_option maxRecDepth 100000 in
theorem walk (v0 : Value) (x0 : List Tk) (w : World) (hT : Tab w) (r0 : SlR 3 tokR w v0 x0) (bx0 : ∀ x ∈ x0, bytesL x.2.1) (lx0 : ∀ x ∈ x0, x.2.1.length ≤ maxLen) (u0 : wt x0 ≤ 1048576) :
    Calls Tryd.prog 5 #[v0] w fun e w' => e = .returned (.bool true) ∧ Below w.heap.size w w' := by
  have hwx := shw_wt x0
  have hz : (shwT (x0.map pr)).length ≤ 100000000000 := by have e : x0.map pr = x0.map (fun x => (x.1, x.2.1)) := rfl; rw [e]; omega
  have hsz : ∀ x ∈ x0, x.2.1.length ≤ 100000000000 := fun x hx => by have := wt_mem hx; omega
  have c2 := fun w h => w_pshow v0 x0 w h bx0 hz hsz
  have hm0 := slr_max r0
  unfold maxLen at hm0
  cases hgood : (x0.map pr).all (fun x => good x.1 x.2)
  · have e : shwF (x0.map pr) = ([], 1) := by unfold shwF; rw [hgood]; rfl
    rw [e] at c2
    have es : strOfNums ([] : List Int) = ⟨#[]⟩ := by decide +kernel
    rw [es] at c2
    clear e es hgood
    go_enter Tryd.func5, Tryd.ntmps5
    go_wp2_with (first
      | (go_at_call 8; refine (w_alive _ hT).mono ?_; rintro e q1 ⟨rfl, b1⟩; have hT1 := hT.below b1; have g1 := r0.below b1 tokR_below)
      | (go_at_call 12; refine (c2 _ g1).mono ?_; rintro e q2 ⟨rfl, b2⟩; have hT2 := hT1.below b2))
    go_ret
    exact ⟨rfl, below_trans b1 b2⟩
  · rw [shw_ok _ hgood] at c2
    have hb2 : ∀ x ∈ x0.map pr, bytesL x.2 := by
      intro y hy
      rw [List.mem_map] at hy
      obtain ⟨x, hx, rfl⟩ := hy
      exact bx0 x hx
    have hTb := shwD_bytes _ hb2
    have hLT : L (strOfNums ((shwT (x0.map pr)).drop 1)) = (shwT (x0.map pr)).drop 1 := LB_nums _ hTb
    have hTs : (strOfNums ((shwT (x0.map pr)).drop 1)).size = ((shwT (x0.map pr)).drop 1).length := toB_size _
    have hTl : ((shwT (x0.map pr)).drop 1).length ≤ 100000000000 := by rw [List.length_drop]; omega
    have c3 := fun w hT h15 => w_pcut (strOfNums ((shwT (x0.map pr)).drop 1)) w (by rw [hTs]; unfold maxLen; omega) hT h15
    simp only [hLT] at c3
    by_cases hlong : 4096 < ((shwT (x0.map pr)).drop 1).length
    · rw [cut_long _ hlong] at c3
      have hl4 : (4096 : Int) < (strOfNums ((shwT (x0.map pr)).drop 1)).size := by rw [hTs]; omega
      obtain ⟨T, hT⟩ : ∃ T, strOfNums ((shwT (x0.map pr)).drop 1) = T := ⟨_, rfl⟩
      simp only [hT] at c2 c3 hl4
      clear hT hTs hLT hTb hb2 hgood hz hsz hTl hlong hwx
      go_enter Tryd.func5, Tryd.ntmps5
      go_wp2_with (first
        | (go_at_call 8; refine (w_alive _ hT).mono ?_; rintro e q1 ⟨rfl, b1⟩; have hT1 := hT.below b1; have g1 := r0.below b1 tokR_below)
        | (go_at_call 12; refine (c2 _ g1).mono ?_; rintro e q2 ⟨rfl, b2⟩; have hT2 := hT1.below b2)
        | (go_at_call 9; refine (c3 _ hT2 (by decide)).mono ?_; rintro e q3 ⟨v3, rfl, r3, b3⟩; have l3 := slr_len r3 uK (P := Tryd.prog)))
      go_ret
      exact ⟨rfl, below_trans (below_trans b1 b2) b3⟩
    · rw [cut_shw _ (fun x hx => hb2 x hx) (fun x hx => by rw [List.all_eq_true] at hgood; exact hgood x hx) (by omega)] at c3
      have hl4 : ¬ (4096 : Int) < (strOfNums ((shwT (x0.map pr)).drop 1)).size := by rw [hTs]; omega
      obtain ⟨M, hM, hpl, hpb, hpi⟩ : ∃ M, plc 0 (x0.map pr) = M ∧ M.length = x0.length ∧ M.map pr = x0.map pr ∧ (∀ (j : Nat) (h : j + 1 < M.length), (M[j]'(by omega)).2.2 < M[j + 1].2.2) :=
        ⟨_, rfl, by rw [plc_len]; simp, plc_back _ 0, plc_inc _ 0⟩
      simp only [hM] at c3
      have Hpb := hid hpb
      have Hpi := hid hpi
      obtain ⟨T, hT⟩ : ∃ T, strOfNums ((shwT (x0.map pr)).drop 1) = T := ⟨_, rfl⟩
      simp only [hT] at c2 c3 hl4
      have hl0 := slr_len r0 uK (P := Tryd.prog)
      have hpI : ((M.length : Int) != (x0.length : Int)) = false := by simp [hpl]
      have Hpl := hid hpl
      clear hT hTs hLT hTb hb2 hgood hz hsz hTl hlong hpb hM hpl hpi hwx
      go_enter Tryd.func5, Tryd.ntmps5
      go_wp2_with (first
        | (go_at_call 8; refine (w_alive _ hT).mono ?_; rintro e q1 ⟨rfl, b1⟩; have hT1 := hT.below b1; have g1 := r0.below b1 tokR_below)
        | (go_at_call 12; refine (c2 _ g1).mono ?_; rintro e q2 ⟨rfl, b2⟩; have hT2 := hT1.below b2; have g2 := g1.below b2 tokR_below)
        | (go_at_call 9; refine (c3 _ hT2 (by decide)).mono ?_; rintro e q3 ⟨v3, rfl, r3, b3⟩; have l3 := slr_len r3 uK (P := Tryd.prog); have g3 := g2.below b3 tokR_below))
      go_loopw [7] (fun I wx => ∃ (k : Nat), (k : Int) ≤ x0.length ∧ I = .int .i64 k ∧ Below q3.heap.size q3 wx) (fun I _ => (x0.length - intOf I).toNat)
      case atStart => exact ⟨0, by omega, rfl, Below.refl _ _⟩
      case round =>
        obtain ⟨k, hk, rfl, hb⟩ := hrel
        have hend := below_trans (below_trans (below_trans b1 b2) b3) hb
        by_cases hlt : (k : Int) < x0.length
        · have hkk : k < x0.length := by omega
          have hkm : k < M.length := by have := Hpl.out; omega
          obtain ⟨bm, om, K, p, T1, im, m0, m1, m2, e0, e1, e2⟩ := tok_at (r3.below hb tokR_below) k hkm
          obtain ⟨bl, ol, K2, p2, T2, il, l0, l1, l2, f0, f1, f2⟩ := tok_at (g3.below hb tokR_below) k hkk
          have hpe : pr M[k] = pr x0[k] := by
            have h1 : (M.map pr)[k]'(by simpa using hkm) = (x0.map pr)[k]'(by simpa using hkk) := by simp only [Hpb.out]
            simpa using h1
          obtain ⟨hp1, hp2⟩ := Prod.mk.inj hpe
          obtain rfl : K = K2 := by rw [← e0, ← f0, hp1]
          obtain rfl : T1 = T2 := by rw [← e1, ← f1, hp2]
          clear hpe hp1 hp2 f0 f1 f2 e0 e1
          have y1 : (K != K) = false := by simp
          have y2 : (K == K) = true := by simp
          have y3 : (T1.toList == T1.toList) = true := by simp
          have y4 : (T1.toList != T1.toList) = false := by simp
          rcases Nat.eq_zero_or_pos k with hk0 | hk0
          · have hkn : ¬ (0 : Int) < k := by omega
            have hkd : decide (0 < k) = false := decide_eq_false (by omega)
            clear hk0 e2 hkn
            go_wp2_with fail
            go_quiet (fail)
            go_wp2_with fail
            go_roundw
            case rel => exact ⟨k + 1, by omega, by go_num, below_drewN hb _⟩
            case measure => simp [intOf]; omega
          · have hkp : (0 : Int) < k := by omega
            have hkd : decide (0 < k) = true := decide_eq_true hk0
            obtain ⟨b3', o3, K3, p3, T3, i3, n0, n1, n2, d0, d1, d2⟩ := tok_at (r3.below hb tokR_below) (k - 1) (by omega)
            rw [show ((k - 1 : Nat) : Int) = (k : Int) - 1 by omega] at i3
            have hinc : ¬ p ≤ p3 := by
              have := Hpi.out (k - 1) (by omega)
              have e : M[k - 1 + 1]'(by omega) = M[k] := by congr 1; omega
              rw [e, e2, d2] at this
              omega
            have hid2 : decide (p ≤ p3) = false := decide_eq_false hinc
            clear hk0 e2 d0 d1 d2
            go_wp2_with fail
            go_quiet (fail)
            go_wp2_with fail
            go_roundw
            case rel => exact ⟨k + 1, by omega, by go_num, below_drewN hb _⟩
            case measure => simp [intOf]; omega
        · go_wp2_with fail
          go_ret
          exact ⟨rfl, hend⟩

set_option maxRecDepth 100000 in
/-- what the walk gives, for every argument and every world that holds what is listed -/
theorem contract (H : Type) (enc : TypeId × Value → H) (W : World) (base : Nat) (args : Array Value) (ds gs : List (DataW H)) (before : List MemPlace)
    (hval0 : ∀ (j : Nat) t v, Tryd.f5.params[j]? = some t → args[j]? = some v → Value.okWide Tryd.prog W .any base t v)
    (hW : DataW.Whole enc Tryd.prog Tryd.f5.params.toList Rows.scanBackSpec.vars false W args.toList ds gs before)
    (hsz0 : (DataW.weightsEach Tryd.prog (Tryd.f5.params.toList ++ Rows.scanBackSpec.plain.varTypes Tryd.prog) (ds ++ gs)).all (· ≤ reachBytes) = true)
    (hL : laidMetH Tryd.prog Rows.scanBackRow.laid W)
    (hk0 : ∀ k, (Rows.OpenSpec.upto Rows.scanBackSpec).cond = some k → k H (ds ++ gs) = true) :
    Calls Tryd.prog 5 args W fun e W' => ∃ v, e = .returned v ∧ Rows.scanBackSpec.post enc Tryd.prog Tryd.f5 false true false false W args v W' := by
  have hval : ∀ (j : Nat) t v, Tryd.f5.params[j]? = some t → args[j]? = some v → Value.okWide Tryd.prog W .any base t v := hval0
  have hsz : (DataW.weightsEach Tryd.prog (Tryd.f5.params.toList ++ Rows.scanBackSpec.plain.varTypes Tryd.prog) (ds ++ gs)).all (· ≤ reachBytes) = true := hsz0
  have hT : Tab W := tab_of_laid hL
  have hW' := hW
  obtain ⟨p, q, hA0, hV, rfl, hfz, hnd⟩ := hW
  have hA : DataW.TrodAll enc Tryd.prog W 0 (fun _ => true) true Tryd.f5.params.toList args.toList ds p := hA0
  rw [Tryd.params5] at hA hval hsz
  obtain ⟨v0, vs0, d0, ds0, p0, q0, hargs, rfl, rfl, h0, r0⟩ := trodAll_cons hA
  obtain ⟨rfl, rfl, rfl⟩ := trodAll_nil r0
  obtain rfl : args = #[v0] := by cases args; simp_all
  obtain ⟨rfl, rfl⟩ := trodVars_none hV
  have hkk : Rows.uptoBulkAll _ ≤ 1048576 := of_decide_eq_true (hk0 _ rfl)
  have b0 : Rows.uptoBulk d0 ≤ 1048576 := Nat.le_trans (bk_mem (by simp)) hkk
  obtain ⟨s0, l0, c0, rfl⟩ := okWide_slice Tryd.underlying23 (hval 0 23 v0 rfl rfl)
  have k0 := h0
  have lt0 : ∀ x ∈ p0, x.block < W.heap.size := by obtain ⟨m, hm⟩ := k0; exact DataW.trod_lt m _ _ _ hm
  obtain ⟨x0, r100, bx0, lx0, wx0⟩ := tok_open h0
  have u0 : wt x0 ≤ 1048576 := Nat.le_trans wx0 b0
  clear hA0 hval0 hsz0
  refine (walk (.slice s0 l0 c0) x0 W hT r100 bx0 lx0 u0).mono fun e W' ⟨he, bel⟩ => ?_
  subst he
  exact ⟨_, rfl, _, _, _, [], _, [], hW', trodAll_mk1 (shut_bool Tryd.underlying4 _), (trodAll_cons_mk (Below.trod laidOut (by kernel_rfl) (of_decide_eq_true (by kernel_rfl)) k0 bel lt0) trodAll_mk0), rfl, bel.frame _, fun h => by cases h⟩

/-- a world for the witness: the settled one, the listed blocks as their initialisers lay them -/
def layBlock (b : Nat × Array Value) : Obj → Obj
  | .cells _ t frozen => .cells b.2 t frozen
  | o => o
noncomputable def laidWorld (os : Os) : World :=
  { World.holding Tryd.prog os ⟨laidObjs, #[], []⟩ with heap := laidBlocks.foldl (fun h b => h.modify b.1 (layBlock b)) (World.holding Tryd.prog os ⟨laidObjs, #[], []⟩).heap }
theorem laid_met (os : Os) : laidMet Tryd.prog Rows.scanBackRow.laid ((laidWorld os).forCall (fun _ _ => 0) ⟨#[], #[.slice none 0 0], []⟩).memory :=
  laidMet_of_run' 8 (by kernel_rfl) (by kernel_rfl)
theorem reads (os : Os) {H : Type} (enc : TypeId × Value → H) : ∃ places, DataW.whole enc Tryd.prog ((laidWorld os).forCall (fun _ _ => 0) ⟨#[], #[.slice none 0 0], []⟩).memory Tryd.f5.params.toList Rows.scanBackSpec.vars false #[.slice none 0 0].toList 8 = some ([.nil], [], places) :=
  ⟨[], by kernel_rfl⟩

set_option maxRecDepth 100000 in
theorem lifted (os : Os) (started : os.Started) (H : Type) (enc : TypeId × Value → H) (F : Stop.Interp) :
    ReturnsInHanded {} Tryd.checked os 5 .any ((Rows.OpenSpec.upto Rows.scanBackSpec).preRow enc Tryd.prog Tryd.f5 Rows.scanBackUptoRow.domain false Rows.scanBackUptoRow.laid) (((Rows.OpenSpec.upto Rows.scanBackSpec).at F).post enc Tryd.prog Tryd.f5 false true false false) := by
  obtain ⟨places, hx⟩ := reads os enc
  refine returnsInHanded_of_row (C := Tryd.checked) (s := Rows.OpenSpec.upto Rows.scanBackSpec) own started (by kernel_rfl) Tryd.func5
    (witness_row_at (enc := enc) (C := Tryd.checked) false (laidWorld os) #[.slice none 0 0] rfl (by kernel_rfl) (by kernel_rfl) (by kernel_rfl)
      (OpenSpec.preRow_of_cond 8 hx (by kernel_rfl) (fun k hk => by cases hk; kernel_rfl) (by kernel_rfl) (laid_met os))) ?_
  intro W base args ds gs before hval hW _ hcnd hsz hL _ _
  exact contract H enc W base args ds gs before hval hW hsz hL hcnd

theorem said : Rows.ScanBackUptoSaid :=
  OpenClaim.holds_of_cond 5 Tryd.f5 rfl rfl rfl rfl rfl rfl rfl ⟨rfl, rfl, rfl, rfl, rfl⟩ rfl rfl rfl rfl rfl (by kernel_rfl) Tryd.func5 (by kernel_rfl)
    (of_decide_eq_true (by kernel_rfl)) (by unfold Func.isWrapper; first | (rw [if_pos (by decide +kernel)]; kernel_rfl) | (rw [if_neg (by decide +kernel)]; exact ⟨rfl, rfl⟩))
    (fun os started H enc _ F => by rw [OpenClaim.pre_eq_preRow]; exact lifted os started H enc F)

theorem plain (f : FuncId) (fn : Func) (hf : Tryd.pinned.checked.prog.funcNamed "tinder/tinderlaw06.ScanBack" = some f) (hfn : Tryd.pinned.checked.prog.funcs[f]? = some fn) :
    true = Tryd.pinned.checked.prog.looks [] ∧ ∀ (j : Nat) t, fn.params[j]? = some t → Tryd.pinned.checked.prog.wantsStandIn t = false := by
  obtain rfl : f = 5 := Option.some.inj ((show Tryd.prog.funcNamed "tinder/tinderlaw06.ScanBack" = some 5 by kernel_rfl).symm.trans hf) |>.symm
  obtain rfl : fn = Tryd.f5 := (Option.some.inj (Tryd.func5.symm.trans hfn)).symm
  refine ⟨by kernel_rfl, fun j t ht => ?_⟩
  rw [Tryd.params5] at ht
  rcases j with _ | j
  · obtain rfl : t = 23 := by simpa using ht.symm
    exact (show Tryd.prog.wantsStandIn 23 = false by kernel_rfl)
  · simp at ht

theorem card : Rows.ScanBackUptoCardSaid :=
  Claim7.holds_tied_plain_at .later [] _ _ _ _ said (fun _ h => by cases h) (by kernel_rfl) (fun _ h => by cases h) scanBackUpto_row_tie rfl ⟨rfl, rfl⟩ (by kernel_rfl) rfl plain (by kernel_rfl)
end Go.Proofs.YtpjkjkjoaapdiaaDoor.scanBack
namespace Go.Proofs.YtpjkjkjoaapdiaaDoor
theorem scanBackUpto_holds : Rows.ScanBackUptoCardSaid := scanBack.card
#print axioms scanBackUpto_holds
end Go.Proofs.YtpjkjkjoaapdiaaDoor
