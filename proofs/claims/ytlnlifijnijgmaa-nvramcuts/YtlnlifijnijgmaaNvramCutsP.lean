/-
  Behind any row of writings, each cut off anywhere, what is found is what was last written whole.
-/
import Derived.Test.YtlnlifijnijgmaaRows
import Derived.WalkKit
import Derived.ProofKit
import Derived.OpenShut
import Derived.ShutString
import Derived.ChangeOld
import Derived.Below
import Derived.Carry
import Derived.SizedLaws
import Derived.Test.YtlnlifijnijgmaaSl
import Derived.Test.YtlnlifijnijgmaaNlk
import Derived.Test.YtlnlifijnijgmaaNbp
import Derived.Test.YtlnlifijnijgmaaNr4
namespace Go.Proofs.Ytlnlifijnijgmaa.nvramCuts
open Go.ChangeShapes Go.WideShapes Go.ChangeAt Go.RowKit
open Go.ChangeMaps (open_string shut_string)
set_option linter.unusedVariables false
set_option linter.unusedSimpArgs false

theorem own : ownKnob Try.prog.godebug = none := by kernel_rfl
theorem laidOut : laidOutB Try.prog = true := by kernel_rfl
theorem bytes3 : Try.prog.bytesOf 3 = 8 := by kernel_rfl
theorem bytes5 : Try.prog.bytesOf 5 = 1 := by kernel_rfl

set_option maxHeartbeats 4000000 in
set_option maxRecDepth 100000 in
theorem walk (v0 : Value) (x0 : List Int) (v1 : Value) (x1 : List (List Int)) (v2 : Value) (x2 : List Int) (w : World) (r0 : Rd .u8 w v0 x0) (f0 : ∀ n ∈ x0, (Lit.int .u8 n).wf = true) (z0 : x0.length * 1 ≤ 140737488351232) (r1 : SlR 1 bytR w v1 x1) (r2 : Rd .i64 w v2 x2) (f2 : ∀ n ∈ x2, (Lit.int .i64 n).wf = true) (z2 : x2.length * 8 ≤ 140737488351232) :
    Calls Try.prog 8 #[v0, v1, v2] w fun e w' => e = .returned (.bool true) ∧ Below w.heap.size w w' := by
  have hb0 : bytesL x0 := fun n hn => by have := f0 n hn; simp [Lit.wf, IntKind.min, IntKind.max, IntKind.bits, IntKind.signed] at this; omega
  have hb2 : ∀ n ∈ x2, -9223372036854775808 ≤ n ∧ n < 9223372036854775808 := fun n hn => by have := f2 n hn; simp [Lit.wf, IntKind.min, IntKind.max, IntKind.bits, IntKind.signed] at this; omega
  have hl0 := rd_len r0 uB (P := Try.prog)
  have hl1 := slr_len r1 uBb (P := Try.prog)
  have hl2 := rd_len r2 uI (P := Try.prog)
  by_cases hl : x0.length = 512
  · have hq : ((x0.length : Int) != 512) = false := by rw [show (x0.length : Int) = 512 by omega]; rfl
    by_cases hm : (50 : Int) < x1.length
    · clear hl
      go_enter Try.func8, Try.ntmps8
      go_wp2_with (go_at_call 9; refine (w_alive18 _).mono ?_; rintro e q1 ⟨rfl, b1⟩)
      go_ret
      exact ⟨rfl, b1⟩
    · have cR0 := fun w h => w_rrecover18 v0 x0 w h hb0
      have hbm := rcv_bytes hb0
      go_enter Try.func8, Try.ntmps8
      go_upto_region 7 with (first
        | (go_at_call 9; refine (w_alive18 _).mono ?_; rintro e q1 ⟨rfl, b1⟩)
        | (go_at_call 14; refine (cR0 _ (r0.below b1)).mono ?_; rintro e q2 ⟨v2', rfl, rr2, b2⟩; have b12 := below_trans b1 b2)
        | fail)
      go_loopw [0, 7, 9, 10] (fun S0 S7 S9 I wx => ∃ (k : Nat) (N W : List Int) (O : Bool), (k : Int) ≤ x1.length ∧ I = .int .i64 k ∧ N.length = 512 ∧ bytesL N ∧ bytesL W ∧ Rd .u8 wx S0 N ∧ Rd .u8 wx S7 W ∧ S9 = .bool O ∧ (rcvF N).1 = W ∧ (rcvF N).2.2 = O ∧ Below w.heap.size w wx) (fun _ _ _ I _ => (x1.length - intOf I).toNat)
      case atStart => exact ⟨0, x0, _, _, by omega, rfl, hl, hb0, hbm, r0.below b12, rr2, rfl, rfl, rfl, b12⟩
      case round =>
        clear hl cR0 hbm rr2 b12 b1 b2
        obtain ⟨k, N, W, O, hk, rfl, hN, hNb, hWb, rN, rW, rfl, hW, hO, hg⟩ := hrel
        by_cases hlt : (k : Int) < x1.length
        · obtain ⟨ad, c, i1, i2, D, hD, rD, hDb⟩ := byt_k (r1.below hg (bytR_below hg)) k (by omega)
          have hlD := rd_len rD uB (P := Try.prog)
          have cP := fun vn w h rd => w_pplan18 vn c N D w h rd hNb hDb
          by_cases hs : (248 : Int) < D.length
          · rw [pln_long N D hN hs] at cP
            simp only at cP
            clear hW hO
            go_wp2_with (go_at_call 16; refine (cP _ _ rN rD).mono ?_; rintro e q3 ⟨v3, rfl, r3, b3⟩; have i3 := below_cell b3 i2)
            go_ret
            exact ⟨rfl, below_trans hg b3⟩
          · obtain ⟨R, hR, hRl, hRa, hRn, hRo⟩ := pln_cut N D hN hNb hDb (by omega)
            rw [hR] at cP
            simp only at cP
            have hRm : (R.length : Int) ≤ 257 := by omega
            have HRl := hid hRl
            clear hRl hR
            by_cases hc : (k : Int) < x2.length
            · obtain ⟨ac, j1, j2⟩ := rd_idx (r2.below hg) uI zI k (by omega) hc
              obtain ⟨C, hC⟩ : ∃ C, x2.getD (k : Int).toNat 0 = C := ⟨_, rfl⟩
              have hCb := hb2 C (by rw [← hC, List.getD_eq_getElem?_getD, List.getElem?_eq_getElem (by omega)]; simp)
              rw [hC] at j2
              obtain ⟨C0, C1⟩ := hCb
              clear hC
              by_cases hn : (R.length : Int) ≤ C
              · have cA := fun vn v3 w h rl => w_papply18 vn v3 N R C w h rl (by omega) (by omega) (by omega)
                obtain ⟨aL, aB⟩ := hRa C
                have cR := fun v w h => w_precover18 v (aplF N R C) w h aB (by omega)
                obtain ⟨kk, hkk⟩ := hRn C (by omega)
                rw [hkk] at cR
                simp only at cR
                have hW' : (rcvF (aplF N R C)).1 = D := by rw [hkk]
                have hO' : (rcvF (aplF N R C)).2.2 = true := by rw [hkk]
                clear hkk
                obtain ⟨M, hM⟩ : ∃ M, aplF N R C = M := ⟨_, rfl⟩
                rw [hM] at cA aL aB hW' hO'
                simp only [hM] at cR
                have HW := hid hW'
                have HO := hid hO'
                have HN := hid aL
                clear hM hRn hRo hRa hW hO hW' hO' aL hN
                go_wp2_with (first
                  | (go_at_call 16; refine (cP _ _ rN rD).mono ?_; rintro e q3 ⟨v3, rfl, r3, b3⟩; have hl3 := slr_len r3 uPb (P := Try.prog); have i3 := below_cell b3 i2; have j3 := below_cell b3 j2)
                  | (go_at_call 19; refine (cA _ _ _ (rN.below b3) r3).mono ?_; rintro e q4 ⟨v4, rfl, o4, b4⟩; have r4 := (Rd_own o4).1; have i4 := below_cell b4 i3; have b34 := below_trans b3 b4)
                  | (go_at_call 13; refine (cR _ _ r4).mono ?_; rintro e q5 ⟨v5, rfl, r5, b5⟩; have b35 := below_trans b34 b5)
                  | (go_at_call 15; refine (w_rsame v5 _ D D _ r5 (rD.below b35) hDb hDb).mono ?_; rintro e q6 ⟨rfl, hw⟩; obtain rfl := hw.symm))
                go_roundw
                case rel => exact ⟨k + 1, M, D, true, by omega, by go_num, HN.out, aB, hDb, r4.below b5, rD.below b35, rfl, HW.out, HO.out, below_trans hg b35⟩
                case measure => simp [intOf]; omega
              · have cA := fun vn v3 w h rl => w_papply18 vn v3 N R C w h rl (by omega) (by omega) (by omega)
                obtain ⟨aL, aB⟩ := hRa C
                have cR := fun v w h => w_precover18 v (aplF N R C) w h aB (by omega)
                obtain ⟨hW', hO'⟩ := hRo C (by omega)
                rw [hW] at hW'
                rw [hO] at hO'
                rw [hW', hO'] at cR
                have hoo : (O != O) = false := by simp
                obtain ⟨M, hM⟩ : ∃ M, aplF N R C = M := ⟨_, rfl⟩
                rw [hM] at cA aL aB hW' hO'
                simp only [hM] at cR
                have HW := hid hW'
                have HO := hid hO'
                have HN := hid aL
                clear hM hRn hRo hRa hW hO hW' hO' aL hN
                go_wp2_with (first
                  | (go_at_call 16; refine (cP _ _ rN rD).mono ?_; rintro e q3 ⟨v3, rfl, r3, b3⟩; have hl3 := slr_len r3 uPb (P := Try.prog); have i3 := below_cell b3 i2; have j3 := below_cell b3 j2)
                  | (go_at_call 19; refine (cA _ _ _ (rN.below b3) r3).mono ?_; rintro e q4 ⟨v4, rfl, o4, b4⟩; have r4 := (Rd_own o4).1; have i4 := below_cell b4 i3; have b34 := below_trans b3 b4)
                  | (go_at_call 13; refine (cR _ _ r4).mono ?_; rintro e q5 ⟨v5, rfl, r5, b5⟩; have b35 := below_trans b34 b5)
                  | (go_at_call 15; refine (w_rsame v5 _ W W _ r5 (rW.below b35) hWb hWb).mono ?_; rintro e q6 ⟨rfl, hw⟩; obtain rfl := hw.symm))
                go_roundw
                case rel => exact ⟨k + 1, M, W, O, by omega, by go_num, HN.out, aB, hWb, r4.below b5, rW.below b35, rfl, HW.out, HO.out, below_trans hg b35⟩
                case measure => simp [intOf]; omega
            · have cA := fun vn v3 w h rl => w_papply18 vn v3 N R R.length w h rl (by omega) (by omega) (by omega)
              obtain ⟨aL, aB⟩ := hRa R.length
              have cR := fun v w h => w_precover18 v (aplF N R R.length) w h aB (by omega)
              obtain ⟨kk, hkk⟩ := hRn R.length (by omega)
              rw [hkk] at cR
              simp only at cR
              have hW' : (rcvF (aplF N R R.length)).1 = D := by rw [hkk]
              have hO' : (rcvF (aplF N R R.length)).2.2 = true := by rw [hkk]
              clear hkk
              obtain ⟨M, hM⟩ : ∃ M, aplF N R R.length = M := ⟨_, rfl⟩
              rw [hM] at cA aL aB hW' hO'
              simp only [hM] at cR
              have HW := hid hW'
              have HO := hid hO'
              have HN := hid aL
              clear hM hRn hRo hRa hW hO hW' hO' aL hN
              go_wp2_with (first
                | (go_at_call 16; refine (cP _ _ rN rD).mono ?_; rintro e q3 ⟨v3, rfl, r3, b3⟩; have hl3 := slr_len r3 uPb (P := Try.prog); have i3 := below_cell b3 i2)
                | (go_at_call 19; refine (cA _ _ _ (rN.below b3) r3).mono ?_; rintro e q4 ⟨v4, rfl, o4, b4⟩; have r4 := (Rd_own o4).1; have i4 := below_cell b4 i3; have b34 := below_trans b3 b4)
                | (go_at_call 13; refine (cR _ _ r4).mono ?_; rintro e q5 ⟨v5, rfl, r5, b5⟩; have b35 := below_trans b34 b5)
                | (go_at_call 15; refine (w_rsame v5 _ D D _ r5 (rD.below b35) hDb hDb).mono ?_; rintro e q6 ⟨rfl, hw⟩; obtain rfl := hw.symm))
              go_roundw
              case rel => exact ⟨k + 1, M, D, true, by omega, by go_num, HN.out, aB, hDb, r4.below b5, rD.below b35, rfl, HW.out, HO.out, below_trans hg b35⟩
              case measure => simp [intOf]; omega
        · go_wp2_with fail
          go_ret
          exact ⟨rfl, hg⟩
  · have hq : ((x0.length : Int) != 512) = true := by simp; omega
    clear hl
    go_enter Try.func8, Try.ntmps8
    go_wp2_with (go_at_call 9; refine (w_alive18 _).mono ?_; rintro e q1 ⟨rfl, b1⟩)
    go_ret
    exact ⟨rfl, b1⟩

set_option maxRecDepth 100000 in
theorem lifted (os : Os) (started : os.Started) (H : Type) (enc : TypeId × Value → H) :
    ReturnsInHanded {} Try.checked os 8 .any (Rows.nvramCutsSpec.pre6 enc Try.prog Try.f8 Rows.nvramCutsRow.domain false) (Rows.nvramCutsSpec.post enc Try.prog Try.f8 false true false false) := by
  refine returnsInHanded_of_change_sized (C := Try.checked) own started (by kernel_rfl) Try.func8
    (ChangeSpec.witness6 (enc := enc) (C := Try.checked) false ⟨#[], #[.slice none 0 0, .slice none 0 0, .slice none 0 0], []⟩ 8 (by kernel_rfl) (by kernel_rfl) (by kernel_rfl) (by kernel_rfl)) ?_
  intro W base args ds gs before hval0 hW hcnd hsz0 _
  have hval : ∀ (j : Nat) t v, Try.f8.params[j]? = some t → args[j]? = some v → Value.okWide Try.prog W .any base t v := hval0
  have hsz : (DataW.weightsEach Try.prog (Try.f8.params.toList ++ Rows.nvramCutsSpec.plain.varTypes Try.prog) (ds ++ gs)).all (· ≤ reachBytes) = true := hsz0
  have hW' := hW
  obtain ⟨p, q, hA0, hV, rfl, hfz, hnd⟩ := hW
  have hA : DataW.TrodAll enc Try.prog W 0 (fun _ => true) true Try.f8.params.toList args.toList ds p := hA0
  rw [Try.params8] at hA hval hsz
  obtain ⟨v0, vs0, d0, ds0, p0, q0, hargs, rfl, rfl, h0, r0⟩ := trodAll_cons hA
  obtain ⟨v1, vs1, d1, ds1, p1, q1, rfl, rfl, rfl, h1, r1⟩ := trodAll_cons r0
  obtain ⟨v2, vs2, d2, ds2, p2, q2, rfl, rfl, rfl, h2, r2⟩ := trodAll_cons r1
  obtain ⟨rfl, rfl, rfl⟩ := trodAll_nil r2
  obtain rfl : args = #[v0, v1, v2] := by cases args; simp_all
  obtain ⟨rfl, rfl⟩ := trodVars_none hV
  obtain ⟨s0, l0, c0, rfl⟩ := okWide_slice Try.underlying22 (hval 0 22 v0 rfl rfl)
  have k0 := h0
  have lt0 : ∀ x ∈ p0, x.block < W.heap.size := by obtain ⟨m, hm⟩ := k0; exact DataW.trod_lt m _ _ _ hm
  obtain ⟨x0, r100, f0, hd0⟩ := rd_open (k := .u8) Try.underlying22 Try.underlying5 (by kernel_rfl) h0
  have z0 : x0.length * 1 ≤ 140737488351232 := by
    rcases hd0 with rfl | ⟨ys, zs, rfl, hle⟩
    · simp
    · have := sized_slice hsz (j := 0) (t := 22) (e := 5) rfl rfl Try.underlying22
      rw [bytes5] at this
      unfold reachBytes at this
      omega
  obtain ⟨s1, l1, c1, rfl⟩ := okWide_slice Try.underlying40 (hval 1 40 v1 rfl rfl)
  have k1 := h1
  have lt1 : ∀ x ∈ p1, x.block < W.heap.size := by obtain ⟨m, hm⟩ := k1; exact DataW.trod_lt m _ _ _ hm
  obtain ⟨x1, r101⟩ := byt_open Try.underlying40 Try.underlying22 Try.underlying5 (by kernel_rfl) (by kernel_rfl) h1
  obtain ⟨s2, l2, c2, rfl⟩ := okWide_slice Try.underlying41 (hval 2 41 v2 rfl rfl)
  have k2 := h2
  have lt2 : ∀ x ∈ p2, x.block < W.heap.size := by obtain ⟨m, hm⟩ := k2; exact DataW.trod_lt m _ _ _ hm
  obtain ⟨x2, r102, f2, hd2⟩ := rd_open (k := .i64) Try.underlying41 Try.underlying3 (by kernel_rfl) h2
  have z2 : x2.length * 8 ≤ 140737488351232 := by
    rcases hd2 with rfl | ⟨ys, zs, rfl, hle⟩
    · simp
    · have := sized_slice hsz (j := 2) (t := 41) (e := 3) rfl rfl Try.underlying41
      rw [bytes3] at this
      unfold reachBytes at this
      omega
  clear hA0 hval0 hsz0
  refine (walk (.slice s0 l0 c0) x0 (.slice s1 l1 c1) x1 (.slice s2 l2 c2) x2 W r100 f0 z0 r101 r102 f2 z2).mono fun e W' ⟨he, bel⟩ => ?_
  subst he
  exact ⟨_, rfl, _, _, _, [], _, [], hW', trodAll_mk1 (shut_bool Try.underlying4 _), (trodAll_cons_mk (Below.trod laidOut (by kernel_rfl) (of_decide_eq_true (by kernel_rfl)) k0 bel lt0) (trodAll_cons_mk (Below.trod laidOut (by kernel_rfl) (of_decide_eq_true (by kernel_rfl)) k1 bel lt1) (trodAll_cons_mk (Below.trod laidOut (by kernel_rfl) (of_decide_eq_true (by kernel_rfl)) k2 bel lt2) trodAll_mk0))), rfl, bel.frame _, fun h => by cases h⟩

theorem over : Rows.nvramCutsRow.holds Try.pinned (OpenSpec.ofChange Rows.nvramCutsSpec) :=
  OpenClaim.holds_of_wide 8 Try.f8 rfl rfl rfl rfl rfl rfl rfl ⟨rfl, rfl, rfl, rfl, rfl⟩ rfl rfl rfl rfl rfl (by kernel_rfl) Try.func8 (by kernel_rfl)
    (of_decide_eq_true (by kernel_rfl)) (by unfold Func.isWrapper; first | (rw [if_pos (by decide +kernel)]; kernel_rfl) | (rw [if_neg (by decide +kernel)]; exact ⟨rfl, rfl⟩))
    (fun os started H enc _ => lifted os started H enc)
end Go.Proofs.Ytlnlifijnijgmaa.nvramCuts
namespace Go.Proofs.Ytlnlifijnijgmaa
theorem nvramCuts_holds : Rows.NvramCutsSaid := nvramCuts.over
#print axioms nvramCuts_holds
end Go.Proofs.Ytlnlifijnijgmaa
