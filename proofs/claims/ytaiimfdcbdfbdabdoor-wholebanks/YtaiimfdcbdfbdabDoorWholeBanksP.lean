/-
  Where neither bank is marked as valid each variable has its default, whatever the other bytes are.
-/
import Derived.Test.YtaiimfdcbdfbdabDoorRows
import Derived.WalkKit
import Derived.ProofKit
import Derived.OpenShut
import Derived.ShutString
import Derived.ChangeOld
import Derived.Below
import Derived.Carry
import Derived.SizedLaws
import Derived.Deep.DeepHandedRow
import Derived.SevenTiedAt
import Derived.Test.YtaiimfdcbdfbdabDoorCards
import Derived.Test.YtaiimfdcbdfbdabDoorTie
import Derived.Test.YtaiimfdcbdfbdabDoorB24
namespace Go.Proofs.YtaiimfdcbdfbdabDoor.wholeBanks
set_option maxRecDepth 100000
open Go.ChangeShapes Go.WideShapes Go.ChangeAt Go.RowKit
open Go.ChangeMaps (open_string shut_string)
set_option linter.unusedVariables false
set_option linter.unusedSimpArgs false

theorem own : ownKnob Tryd.prog.godebug = none := by kernel_rfl
theorem laidOut : laidOutB Tryd.prog = true := by kernel_rfl
theorem bytes5 : Tryd.prog.bytesOf 5 = 1 := by kernel_rfl

set_option maxHeartbeats 4000000 in
set_option maxRecDepth 100000 in
theorem walk (v0 : Value) (x0 : List Int) (a1 : Int) (a2 : Int) (w : World) (hT : Tab w) (r0 : Rd .u8 w v0 x0) (f0 : ∀ n ∈ x0, (Lit.int .u8 n).wf = true) (z0 : x0.length * 1 ≤ 140737488351232) (w1 : (Lit.int .u8 a1).wf = true) (w2 : (Lit.int .u8 a2).wf = true) :
    Calls Tryd.prog 6 #[v0, .int .u8 a1, .int .u8 a2] w fun e w' => e = .returned (.bool true) ∧ Below w.heap.size w w' := by
  have hb0 : bytesL x0 := fun n hn => by have := f0 n hn; simp [Lit.wf, IntKind.min, IntKind.max, IntKind.bits, IntKind.signed] at this; omega
  have ha : 0 ≤ a1 ∧ a1 < 256 := by have := w1; simp [Lit.wf, IntKind.min, IntKind.max, IntKind.bits, IntKind.signed] at this; omega
  have hb : 0 ≤ a2 ∧ a2 < 256 := by have := w2; simp [Lit.wf, IntKind.min, IntKind.max, IntKind.bits, IntKind.signed] at this; omega
  have hlen := rd_len r0 uB (P := Tryd.prog)
  clear w1 w2
  by_cases hl : x0.length = 512
  · have hq : ((x0.length : Int) != 512) = false := by rw [show (x0.length : Int) = 512 by omega]; rfl
    by_cases h1 : a1 = 165
    · have hq1 : (a1 == 165) = true := by simpa using h1
      clear hl h1
      go_enter Tryd.func6, Tryd.ntmps6
      go_wp2_with (go_at_call 15; refine (w_keeps19 _ hT).mono ?_; rintro e q1 ⟨rfl, b1⟩)
      go_ret
      exact ⟨rfl, b1⟩
    · have hq1 : (a1 == 165) = false := by simpa using h1
      by_cases h2 : a2 = 165
      · have hq2 : (a2 == 165) = true := by simpa using h2
        clear hl h1 h2
        go_enter Tryd.func6, Tryd.ntmps6
        go_wp2_with (go_at_call 15; refine (w_keeps19 _ hT).mono ?_; rintro e q1 ⟨rfl, b1⟩)
        go_ret
        exact ⟨rfl, b1⟩
      · have hq2 : (a2 == 165) = false := by simpa using h2
        obtain ⟨hQl, hQb, hQr⟩ := spoilt_rcv hb0 hl ha hb h1 h2
        have cL := fun v w hT h => w_pload19 v ((x0.set 0 a1).set 256 a2) w hT h hQb (by rw [hQl]; decide)
        rw [hQr] at cL
        obtain ⟨Q, hQ⟩ : ∃ Q, (x0.set 0 a1).set 256 a2 = Q := ⟨_, rfl⟩
        have HQ := hid hQ
        simp only [hQ] at cL
        have Hl := hid hl
        obtain ⟨i0, hi, hz0, hz1, hz2⟩ := info_parts infoU8
        clear hl h1 h2 hQ hQl hQb hQr
        go_enter Tryd.func6, Tryd.ntmps6
        go_upto_region 6 with (first
          | (go_at_call 15; refine (w_keeps19 _ hT).mono ?_; rintro e q1 ⟨rfl, b1⟩; have r1 := r0.below (below_trans b1 (box_below q1 (.cells #[] 5))))
          | (at_builtin; refine wpList_append_rd (k := .u8) rfl _ _ 22 rfl q1.heap.size 5 i0 1 Tryd.underlying22 hi hz0 hz1 hz2 _ [] rfl (World.ownsRow_made q1 #[] 0 (Nat.le_refl _) (Nat.zero_le _) rfl) _ x0 rfl r1 (by unfold maxLen; simp; omega) (by simp; omega) (by simp) ?_; intro v5 w5 ho5 hg5; have b5 := below_grown (below_trans b1 (box_below q1 (.cells #[] 5))) hg5 (fun k hk => by simp [Value.ownBlock, Act.eval] at hk; have := b1.size; omega))
          | fail)
        have o5 : Own8 q1.heap.size w5 v5 x0 := by simpa [Own8] using ho5
        have hlx : x0.length = 512 := Hl.out
        obtain ⟨ad1, s1, s2, s3, s4, s5⟩ := own_set o5 uB zB 0 (by omega) (by omega)
        have o6 := s5 a1
        obtain ⟨ad2, t1, t2, t3, t4, t5⟩ := own_set o6 uB zB 256 (by omega) (by rw [List.length_set]; omega)
        have o7 := t5 a2
        have r7 : Rd .u8 ((w5.setCell ad1 (.int .u8 a1)).setCell ad2 (.int .u8 a2)) v5 Q := by
          have := (Rd_own o7).1
          rw [show (0 : Int).toNat = 0 from rfl, show (256 : Int).toNat = 256 from rfl, HQ.out] at this
          exact this
        have b7 := (b5.setCell (Nat.le_trans b1.size s4) (.int .u8 a1)).setCell (Nat.le_trans b1.size t4) (.int .u8 a2)
        clear o5 ho5 s5 t5 o6 o7 hlx hg5
        go_upto_region 7 with fail
        generalize ((w5.setCell ad1 (.int .u8 a1)).setCell ad2 (.int .u8 a2)) = W7 at r7 b7 ⊢
        clear t2 t3 t4 s2 s3 s4 s1 t1
        go_wp2_with (first
          | (go_at_call 11; refine (cL _ _ (hT.below b7) r7).mono ?_; rintro e w8 ⟨v8, rfl, r8, b8⟩; have b08 := below_trans b7 b8; have hl8 : ∀ ty w', (Builtin.len_ #[23] ty #[v8]).run Tryd.prog w' = .ok (.int .i64 0) w' := slr_len r8 uSt (P := Tryd.prog))
          | (go_at_call 17; refine (w_pnames19 _ (hT.below b08)).mono ?_; rintro e w9 ⟨v9, rfl, r9, b9⟩; have b09 := below_trans b08 b9; have r8' := r8.below b9 stR_below; have hl9 := slr_len r9 uSs (P := Tryd.prog); rw [vaNs_len] at hl9))
        go_loopw [10] (fun I wx => ∃ k : Nat, k ≤ 9 ∧ I = .int .i64 k ∧ Below w9.heap.size w9 wx) (fun I _ => (9 - intOf I).toNat)
        case atStart => exact ⟨0, by omega, rfl, Below.refl _ _⟩
        case round =>
          obtain ⟨k, hk, rfl, hg⟩ := hrel
          by_cases hlt : (k : Int) < 9
          · have hk9 : k < 9 := by omega
            obtain ⟨ad, c, i1, i2, i3, _⟩ := slr_idx (r9.below hg (fun _ _ h => h)) uSs zSs k (by omega) (by rw [vaNs_len]; omega)
            replace i3 : c = Value.string (vaT k).1 := by simpa [vaNs] using i3
            have hsz : (vaT k).1.size ≤ maxLen := by have := (va_size k hk9).1; unfold maxLen; omega
            have cG := fun v w hT h => w_pget19 v [] (vaT k).1 w hT h
            have cD := fun w hT => w_pdefault19 (vaT k).1 w hT
            have eD : vaD (vaT k).1 = ((vaT k).2.2, 0) := by unfold vaD; rw [va_nm k hk9, if_neg (by omega), Int.toNat_natCast]
            have eG : vaGt [] (vaT k).1 = ((vaT k).2.2, 0) := by
              have h0 : vaG (-1) [] = true := rfl
              have h1 : vaV [] (vaT k).1 = (vaD (vaT k).1).1 := rfl
              unfold vaGt
              rw [if_pos h0, va_nm k hk9, if_neg (by omega), h1, eD]
            simp only [eD] at cD
            simp only [eG] at cG
            obtain ⟨⟨T1, T2, T3⟩, hTe⟩ : ∃ t, vaT k = t := ⟨_, rfl⟩
            rw [hTe] at cG cD i3
            simp only at cG cD i3
            subst i3
            clear hTe eD eG hsz
            go_wp2_with (first
              | (go_at_call 18; refine (cG _ _ (hT.below (below_trans b09 hg)) (r8'.below hg stR_below)).mono ?_; rintro e q7 ⟨rfl, g7⟩; have i4 := below_cell g7 i2; have h7 := below_trans hg g7)
              | (go_at_call 19; refine (cD _ (hT.below (below_trans b09 h7))).mono ?_; rintro e q8 ⟨rfl, g8⟩; have h8 := below_trans h7 g8))
            go_roundw
            case rel => exact ⟨k + 1, by omega, by go_num, h8⟩
            case measure => simp [intOf]; omega
          · go_wp2_with fail
            go_ret
            exact ⟨ret_b (by simp), below_trans b09 hg⟩
  · have hq : ((x0.length : Int) != 512) = true := by simp; omega
    clear hl
    go_enter Tryd.func6, Tryd.ntmps6
    go_wp2_with (go_at_call 15; refine (w_keeps19 _ hT).mono ?_; rintro e q1 ⟨rfl, b1⟩)
    go_ret
    exact ⟨rfl, b1⟩

set_option maxRecDepth 100000 in
/-- what the walk gives, for every argument and every world that holds what is listed -/
theorem contract (H : Type) (enc : TypeId × Value → H) (W : World) (base : Nat) (args : Array Value) (ds gs : List (DataW H)) (before : List MemPlace)
    (hval0 : ∀ (j : Nat) t v, Tryd.f6.params[j]? = some t → args[j]? = some v → Value.okWide Tryd.prog W .any base t v)
    (hW : DataW.Whole enc Tryd.prog Tryd.f6.params.toList Rows.wholeBanksSpec.vars false W args.toList ds gs before)
    (hsz0 : (DataW.weightsEach Tryd.prog (Tryd.f6.params.toList ++ Rows.wholeBanksSpec.plain.varTypes Tryd.prog) (ds ++ gs)).all (· ≤ reachBytes) = true)
    (hL : laidMetH Tryd.prog Rows.wholeBanksRow.laid W) :
    Calls Tryd.prog 6 args W fun e W' => ∃ v, e = .returned v ∧ Rows.wholeBanksSpec.post enc Tryd.prog Tryd.f6 false true false false W args v W' := by
  have hval : ∀ (j : Nat) t v, Tryd.f6.params[j]? = some t → args[j]? = some v → Value.okWide Tryd.prog W .any base t v := hval0
  have hsz : (DataW.weightsEach Tryd.prog (Tryd.f6.params.toList ++ Rows.wholeBanksSpec.plain.varTypes Tryd.prog) (ds ++ gs)).all (· ≤ reachBytes) = true := hsz0
  have hT : Tab W := tab_of_laid hL
  have hW' := hW
  obtain ⟨p, q, hA0, hV, rfl, hfz, hnd⟩ := hW
  have hA : DataW.TrodAll enc Tryd.prog W 0 (fun _ => true) true Tryd.f6.params.toList args.toList ds p := hA0
  rw [Tryd.params6] at hA hval hsz
  obtain ⟨v0, vs0, d0, ds0, p0, q0, hargs, rfl, rfl, h0, r0⟩ := trodAll_cons hA
  obtain ⟨v1, vs1, d1, ds1, p1, q1, rfl, rfl, rfl, h1, r1⟩ := trodAll_cons r0
  obtain ⟨v2, vs2, d2, ds2, p2, q2, rfl, rfl, rfl, h2, r2⟩ := trodAll_cons r1
  obtain ⟨rfl, rfl, rfl⟩ := trodAll_nil r2
  obtain rfl : args = #[v0, v1, v2] := by cases args; simp_all
  obtain ⟨rfl, rfl⟩ := trodVars_none hV
  obtain ⟨s0, l0, c0, rfl⟩ := okWide_slice Tryd.underlying22 (hval 0 22 v0 rfl rfl)
  have k0 := h0
  have lt0 : ∀ x ∈ p0, x.block < W.heap.size := by obtain ⟨m, hm⟩ := k0; exact DataW.trod_lt m _ _ _ hm
  obtain ⟨x0, r100, f0, hd0⟩ := rd_open (k := .u8) Tryd.underlying22 Tryd.underlying5 (by kernel_rfl) h0
  have z0 : x0.length * 1 ≤ 140737488351232 := by
    rcases hd0 with rfl | ⟨ys, zs, rfl, hle⟩
    · simp
    · have := sized_slice hsz (j := 0) (t := 22) (e := 5) rfl rfl Tryd.underlying22
      rw [bytes5] at this
      unfold reachBytes at this
      omega
  obtain ⟨a1, rfl, rfl, rfl, w1⟩ := open_int Tryd.underlying5 (hval 1 5 v1 rfl rfl) h1
  obtain ⟨a2, rfl, rfl, rfl, w2⟩ := open_int Tryd.underlying5 (hval 2 5 v2 rfl rfl) h2
  clear hA0 hval0 hsz0
  refine (walk (.slice s0 l0 c0) x0 a1 a2 W hT r100 f0 z0 w1 w2).mono fun e W' ⟨he, bel⟩ => ?_
  subst he
  exact ⟨_, rfl, _, _, _, [], _, [], hW', trodAll_mk1 (shut_bool Tryd.underlying4 _), (trodAll_cons_mk (Below.trod laidOut (by kernel_rfl) (of_decide_eq_true (by kernel_rfl)) k0 bel lt0) (trodAll_cons_mk (shut_int Tryd.underlying5 w1) (trodAll_cons_mk (shut_int Tryd.underlying5 w2) trodAll_mk0))), rfl, bel.frame _, fun h => by cases h⟩

/-- a world for the witness: the settled one, the listed blocks as their initialisers lay them -/
def layBlock (b : Nat × Array Value) : Obj → Obj
  | .cells _ t frozen => .cells b.2 t frozen
  | o => o
noncomputable def laidWorld (os : Os) : World :=
  { World.holding Tryd.prog os ⟨#[], #[], []⟩ with heap := laidBlocks.foldl (fun h b => h.modify b.1 (layBlock b)) (World.holding Tryd.prog os ⟨#[], #[], []⟩).heap }
theorem laid_met (os : Os) : laidMet Tryd.prog Rows.wholeBanksRow.laid ((laidWorld os).forCall (fun _ _ => 0) ⟨#[], #[.slice none 0 0, .int .u8 0, .int .u8 0], []⟩).memory :=
  laidMet_of_run' 8 (by kernel_rfl) (by kernel_rfl)
theorem reads (os : Os) {H : Type} (enc : TypeId × Value → H) : ∃ places, DataW.whole enc Tryd.prog ((laidWorld os).forCall (fun _ _ => 0) ⟨#[], #[.slice none 0 0, .int .u8 0, .int .u8 0], []⟩).memory Tryd.f6.params.toList Rows.wholeBanksSpec.vars false #[.slice none 0 0, .int .u8 0, .int .u8 0].toList 8 = some ([.nil, .lit (.int .u8 0), .lit (.int .u8 0)], [], places) :=
  ⟨[], by kernel_rfl⟩

set_option maxRecDepth 100000 in
theorem lifted (os : Os) (started : os.Started) (H : Type) (enc : TypeId × Value → H) (F : Stop.Interp) :
    ReturnsInHanded {} Tryd.checked os 6 .any ((OpenSpec.ofChange Rows.wholeBanksSpec).preRow enc Tryd.prog Tryd.f6 Rows.wholeBanksRow.domain false Rows.wholeBanksRow.laid) (((OpenSpec.ofChange Rows.wholeBanksSpec).at F).post enc Tryd.prog Tryd.f6 false true false false) := by
  obtain ⟨places, hx⟩ := reads os enc
  refine returnsInHanded_of_row (C := Tryd.checked) (s := OpenSpec.ofChange Rows.wholeBanksSpec) own started (by kernel_rfl) Tryd.func6
    (witness_row_at (enc := enc) (C := Tryd.checked) false (laidWorld os) #[.slice none 0 0, .int .u8 0, .int .u8 0] rfl (by kernel_rfl) (by kernel_rfl) (by kernel_rfl)
      (OpenSpec.preRow_of_cond 8 hx (by kernel_rfl) (fun k hk => by cases hk) (by kernel_rfl) (laid_met os))) ?_
  intro W base args ds gs before hval hW _ hcnd hsz hL _ _
  exact contract H enc W base args ds gs before hval hW hsz hL

theorem said : Rows.WholeBanksSaid :=
  OpenClaim.holds_of_cond 6 Tryd.f6 rfl rfl rfl rfl rfl rfl rfl ⟨rfl, rfl, rfl, rfl, rfl⟩ rfl rfl rfl rfl rfl (by kernel_rfl) Tryd.func6 (by kernel_rfl)
    (of_decide_eq_true (by kernel_rfl)) (by unfold Func.isWrapper; first | (rw [if_pos (by decide +kernel)]; kernel_rfl) | (rw [if_neg (by decide +kernel)]; exact ⟨rfl, rfl⟩))
    (fun os started H enc _ F => by rw [OpenClaim.pre_eq_preRow]; exact lifted os started H enc F)

theorem plain (f : FuncId) (fn : Func) (hf : Tryd.pinned.checked.prog.funcNamed "tinder/tindertop.WholeBanks" = some f) (hfn : Tryd.pinned.checked.prog.funcs[f]? = some fn) :
    false = Tryd.pinned.checked.prog.looks [] ∧ ∀ (j : Nat) t, fn.params[j]? = some t → Tryd.pinned.checked.prog.wantsStandIn t = false := by
  obtain rfl : f = 6 := Option.some.inj ((show Tryd.prog.funcNamed "tinder/tindertop.WholeBanks" = some 6 by kernel_rfl).symm.trans hf) |>.symm
  obtain rfl : fn = Tryd.f6 := (Option.some.inj (Tryd.func6.symm.trans hfn)).symm
  refine ⟨by kernel_rfl, fun j t ht => ?_⟩
  rw [Tryd.params6] at ht
  rcases j with _ | _ | _ | j
  · obtain rfl : t = 22 := by simpa using ht.symm
    exact (show Tryd.prog.wantsStandIn 22 = false by kernel_rfl)
  · obtain rfl : t = 5 := by simpa using ht.symm
    exact (show Tryd.prog.wantsStandIn 5 = false by kernel_rfl)
  · obtain rfl : t = 5 := by simpa using ht.symm
    exact (show Tryd.prog.wantsStandIn 5 = false by kernel_rfl)
  · simp at ht

theorem card : Rows.WholeBanksCardSaid :=
  Claim7.holds_tied_plain_at .later [] _ _ _ _ said (fun _ h => by cases h) (by kernel_rfl) (fun _ h => by cases h) wholeBanks_row_tie rfl ⟨rfl, rfl⟩ (by kernel_rfl) rfl plain (by kernel_rfl)
end Go.Proofs.YtaiimfdcbdfbdabDoor.wholeBanks
namespace Go.Proofs.YtaiimfdcbdfbdabDoor
theorem wholeBanks_holds : Rows.WholeBanksCardSaid := wholeBanks.card
#print axioms wholeBanks_holds
end Go.Proofs.YtaiimfdcbdfbdabDoor
