/-
  Wherever the power goes while data are written, what is found is what was found ahead, or the new data when all was written.
-/
import Derived.Test.YtlnlifijnijgmaaRows
import Derived.WalkKit
import Derived.ProofKit
import Derived.OpenShut
import Derived.ShutString
import Derived.ChangeOld
import Derived.Below
import Derived.Carry
import Derived.SizedLaws
import Derived.Test.YtlnlifijnijgmaaSl
import Derived.Test.YtlnlifijnijgmaaNal
import Derived.Test.YtlnlifijnijgmaaNbp
import Derived.Test.YtlnlifijnijgmaaNr4
import Derived.Test.YtlnlifijnijgmaaPn3
namespace Go.Proofs.Ytlnlifijnijgmaa.nvramCut
open Go.ChangeShapes Go.WideShapes Go.ChangeAt Go.RowKit
open Go.ChangeMaps (open_string shut_string)
set_option linter.unusedVariables false
set_option linter.unusedSimpArgs false

theorem own : ownKnob Try.prog.godebug = none := by kernel_rfl
theorem laidOut : laidOutB Try.prog = true := by kernel_rfl
theorem bytes5 : Try.prog.bytesOf 5 = 1 := by kernel_rfl

set_option maxHeartbeats 4000000 in
set_option maxRecDepth 100000 in
theorem walk (v0 : Value) (x0 : List Int) (v1 : Value) (x1 : List Int) (a2 : Int) (w : World) (r0 : Rd .u8 w v0 x0) (f0 : ∀ n ∈ x0, (Lit.int .u8 n).wf = true) (z0 : x0.length * 1 ≤ 140737488351232) (r1 : Rd .u8 w v1 x1) (f1 : ∀ n ∈ x1, (Lit.int .u8 n).wf = true) (z1 : x1.length * 1 ≤ 140737488351232) (w2 : (Lit.int .i64 a2).wf = true) :
    Calls Try.prog 7 #[v0, v1, .int .i64 a2] w fun e w' => e = .returned (.bool true) ∧ Below w.heap.size w w' := by
  have hb0 : bytesL x0 := fun n hn => by have := f0 n hn; simp [Lit.wf, IntKind.min, IntKind.max, IntKind.bits, IntKind.signed] at this; omega
  have hb1 : bytesL x1 := fun n hn => by have := f1 n hn; simp [Lit.wf, IntKind.min, IntKind.max, IntKind.bits, IntKind.signed] at this; omega
  have n0 : -9223372036854775808 ≤ a2 ∧ a2 < 9223372036854775808 := by have := w2; simp [Lit.wf, IntKind.min, IntKind.max, IntKind.bits, IntKind.signed] at this; omega
  obtain ⟨n0, n1⟩ := n0
  have hl0 := rd_len r0 uB (P := Try.prog)
  have hl1 := rd_len r1 uB (P := Try.prog)
  have c1 := fun w h rd => w_pplan18 v0 v1 x0 x1 w h rd hb0 hb1
  by_cases hl : x0.length = 512
  · by_cases hs : (248 : Int) < x1.length
    · rw [pln_long x0 x1 hl hs] at c1
      simp only at c1
      have hq : ((x0.length : Int) != 512) = false := by rw [show (x0.length : Int) = 512 by omega]; rfl
      clear hl w2
      go_enter Try.func7, Try.ntmps7
      go_wp2_with (first
        | (go_at_call 9; refine (w_alive18 _).mono ?_; rintro e q1 ⟨rfl, b1⟩)
        | (go_at_call 16; refine (c1 _ (r0.below b1) (r1.below b1)).mono ?_; rintro e q2 ⟨v2, rfl, r2, b2⟩; have hl2 : ∀ ty w', (Builtin.len_ #[32] ty #[v2]).run Try.prog w' = .ok (.int .i64 0) w' := slr_len r2 uPb (P := Try.prog)))
      go_ret
      exact ⟨ret_b (by simp), below_trans b1 b2⟩
    · obtain ⟨R, hR, hRl, hRa, hRn, hRo⟩ := pln_cut x0 x1 hl hb0 hb1 (by omega)
      rw [hR] at c1
      simp only at c1
      have cA := fun v2 w h rl => w_papply18 v0 v2 x0 R a2 w h rl (by omega) n0 n1
      obtain ⟨aL, aB⟩ := hRa a2
      have cR := fun v w h => w_precover18 v (aplF x0 R a2) w h aB (by omega)
      have cR0 := fun w h => w_precover18 v0 x0 w h hb0 (by omega)
      have hbm := rcv_bytes hb0
      have hRli : (R.length : Int) = 9 + x1.length := by omega
      have HRl := hid hRli
      have hRm : (R.length : Int) ≤ 257 := by omega
      by_cases hn : (R.length : Int) ≤ a2
      · obtain ⟨k, hk⟩ := hRn a2 hn
        rw [hk] at cR
        simp only at cR
        obtain ⟨M, hM⟩ : ∃ M, aplF x0 R a2 = M := ⟨_, rfl⟩
        rw [hM] at cA aL aB
        simp only [hM] at cR
        clear hM hk hRn hRo hRa hR hRl hRli hl cR0 w2
        go_enter Try.func7, Try.ntmps7
        go_wp2_with (first
          | (go_at_call 9; refine (w_alive18 _).mono ?_; rintro e q1 ⟨rfl, b1⟩)
          | (go_at_call 16; refine (c1 _ (r0.below b1) (r1.below b1)).mono ?_; rintro e q2 ⟨v2, rfl, r2, b2⟩; have hl2 := slr_len r2 uPb (P := Try.prog); have b12 := below_trans b1 b2)
          | (go_at_call 19; refine (cA _ _ (r0.below b12) r2).mono ?_; rintro e q3 ⟨v3, rfl, o3, b3⟩; have r3 := (Rd_own o3).1; have b13 := below_trans b12 b3)
          | (go_at_call 13; refine (cR _ _ r3).mono ?_; rintro e q4 ⟨v4, rfl, r4, b4⟩; have b14 := below_trans b13 b4)
          | (go_at_call 15; refine (w_rsame v4 v1 x1 x1 _ r4 (r1.below b14) hb1 hb1).mono ?_; rintro e q6 ⟨rfl, hw⟩; obtain rfl := hw.symm))
        go_ret
        exact ⟨ret_b (by simp), b14⟩
      · obtain ⟨e1, e2⟩ := hRo a2 (by omega)
        rw [← e1] at hbm
        obtain ⟨⟨B, K, O⟩, hBe⟩ : ∃ x, rcvF (aplF x0 R a2) = x := ⟨_, rfl⟩
        obtain ⟨⟨B', K', O'⟩, hBe'⟩ : ∃ x, rcvF x0 = x := ⟨_, rfl⟩
        rw [hBe] at hbm
        rw [hBe, hBe'] at e1 e2
        simp only [hBe] at cR
        simp only [hBe'] at cR0
        simp only at e1 e2 hbm
        subst e1 e2
        obtain ⟨M, hM⟩ : ∃ M, aplF x0 R a2 = M := ⟨_, rfl⟩
        rw [hM] at cA aL aB
        simp only [hM] at cR
        clear hM hBe hBe' hRn hRo hRa hR hRl hRli hl w2
        go_enter Try.func7, Try.ntmps7
        go_upto_region 9 with (first
          | (go_at_call 9; refine (w_alive18 _).mono ?_; rintro e q1 ⟨rfl, b1⟩)
          | (go_at_call 16; refine (c1 _ (r0.below b1) (r1.below b1)).mono ?_; rintro e q2 ⟨v2, rfl, r2, b2⟩; have hl2 := slr_len r2 uPb (P := Try.prog); have b12 := below_trans b1 b2)
          | (go_at_call 19; refine (cA _ _ (r0.below b12) r2).mono ?_; rintro e q3 ⟨v3, rfl, o3, b3⟩; have r3 := (Rd_own o3).1; have b13 := below_trans b12 b3)
          | (go_at_call 13; refine (cR _ _ r3).mono ?_; rintro e q4 ⟨v4, rfl, r4, b4⟩; have b14 := below_trans b13 b4)
          | fail)
        go_wp2_with (first
          | (go_at_call 13; refine (cR0 _ (r0.below b14)).mono ?_; rintro e q5 ⟨v5, rfl, r5, b5⟩)
          | (go_at_call 15; refine (w_rsame v4 v5 B B _ (r4.below b5) r5 hbm hbm).mono ?_; rintro e q6 ⟨rfl, hw⟩; obtain rfl := hw.symm))
        go_ret
        exact ⟨ret_b (by simp), below_trans b14 b5⟩
  · rw [pln_arg x0 x1 hl] at c1
    simp only at c1
    have hq : ((x0.length : Int) != 512) = true := by simp; omega
    clear hl w2
    go_enter Try.func7, Try.ntmps7
    go_wp2_with (first
      | (go_at_call 9; refine (w_alive18 _).mono ?_; rintro e q1 ⟨rfl, b1⟩)
      | (go_at_call 16; refine (c1 _ (r0.below b1) (r1.below b1)).mono ?_; rintro e q2 ⟨v2, rfl, r2, b2⟩; have hl2 : ∀ ty w', (Builtin.len_ #[32] ty #[v2]).run Try.prog w' = .ok (.int .i64 0) w' := slr_len r2 uPb (P := Try.prog)))
    go_ret
    exact ⟨ret_b (by simp), below_trans b1 b2⟩

set_option maxRecDepth 100000 in
theorem lifted (os : Os) (started : os.Started) (H : Type) (enc : TypeId × Value → H) :
    ReturnsInHanded {} Try.checked os 7 .any (Rows.nvramCutSpec.pre6 enc Try.prog Try.f7 Rows.nvramCutRow.domain false) (Rows.nvramCutSpec.post enc Try.prog Try.f7 false true false false) := by
  refine returnsInHanded_of_change_sized (C := Try.checked) own started (by kernel_rfl) Try.func7
    (ChangeSpec.witness6 (enc := enc) (C := Try.checked) false ⟨#[], #[.slice none 0 0, .slice none 0 0, .int .i64 0], []⟩ 8 (by kernel_rfl) (by kernel_rfl) (by kernel_rfl) (by kernel_rfl)) ?_
  intro W base args ds gs before hval0 hW hcnd hsz0 _
  have hval : ∀ (j : Nat) t v, Try.f7.params[j]? = some t → args[j]? = some v → Value.okWide Try.prog W .any base t v := hval0
  have hsz : (DataW.weightsEach Try.prog (Try.f7.params.toList ++ Rows.nvramCutSpec.plain.varTypes Try.prog) (ds ++ gs)).all (· ≤ reachBytes) = true := hsz0
  have hW' := hW
  obtain ⟨p, q, hA0, hV, rfl, hfz, hnd⟩ := hW
  have hA : DataW.TrodAll enc Try.prog W 0 (fun _ => true) true Try.f7.params.toList args.toList ds p := hA0
  rw [Try.params7] at hA hval hsz
  obtain ⟨v0, vs0, d0, ds0, p0, q0, hargs, rfl, rfl, h0, r0⟩ := trodAll_cons hA
  obtain ⟨v1, vs1, d1, ds1, p1, q1, rfl, rfl, rfl, h1, r1⟩ := trodAll_cons r0
  obtain ⟨v2, vs2, d2, ds2, p2, q2, rfl, rfl, rfl, h2, r2⟩ := trodAll_cons r1
  obtain ⟨rfl, rfl, rfl⟩ := trodAll_nil r2
  obtain rfl : args = #[v0, v1, v2] := by cases args; simp_all
  obtain ⟨rfl, rfl⟩ := trodVars_none hV
  obtain ⟨s0, l0, c0, rfl⟩ := okWide_slice Try.underlying22 (hval 0 22 v0 rfl rfl)
  have k0 := h0
  have lt0 : ∀ x ∈ p0, x.block < W.heap.size := by obtain ⟨m, hm⟩ := k0; exact DataW.trod_lt m _ _ _ hm
  obtain ⟨x0, r100, f0, hd0⟩ := rd_open (k := .u8) Try.underlying22 Try.underlying5 (by kernel_rfl) h0
  have z0 : x0.length * 1 ≤ 140737488351232 := by
    rcases hd0 with rfl | ⟨ys, zs, rfl, hle⟩
    · simp
    · have := sized_slice hsz (j := 0) (t := 22) (e := 5) rfl rfl Try.underlying22
      rw [bytes5] at this
      unfold reachBytes at this
      omega
  obtain ⟨s1, l1, c1, rfl⟩ := okWide_slice Try.underlying22 (hval 1 22 v1 rfl rfl)
  have k1 := h1
  have lt1 : ∀ x ∈ p1, x.block < W.heap.size := by obtain ⟨m, hm⟩ := k1; exact DataW.trod_lt m _ _ _ hm
  obtain ⟨x1, r101, f1, hd1⟩ := rd_open (k := .u8) Try.underlying22 Try.underlying5 (by kernel_rfl) h1
  have z1 : x1.length * 1 ≤ 140737488351232 := by
    rcases hd1 with rfl | ⟨ys, zs, rfl, hle⟩
    · simp
    · have := sized_slice hsz (j := 1) (t := 22) (e := 5) rfl rfl Try.underlying22
      rw [bytes5] at this
      unfold reachBytes at this
      omega
  obtain ⟨a2, rfl, rfl, rfl, w2⟩ := open_int Try.underlying3 (hval 2 3 v2 rfl rfl) h2
  clear hA0 hval0 hsz0
  refine (walk (.slice s0 l0 c0) x0 (.slice s1 l1 c1) x1 a2 W r100 f0 z0 r101 f1 z1 w2).mono fun e W' ⟨he, bel⟩ => ?_
  subst he
  exact ⟨_, rfl, _, _, _, [], _, [], hW', trodAll_mk1 (shut_bool Try.underlying4 _), (trodAll_cons_mk (Below.trod laidOut (by kernel_rfl) (of_decide_eq_true (by kernel_rfl)) k0 bel lt0) (trodAll_cons_mk (Below.trod laidOut (by kernel_rfl) (of_decide_eq_true (by kernel_rfl)) k1 bel lt1) (trodAll_cons_mk (shut_int Try.underlying3 w2) trodAll_mk0))), rfl, bel.frame _, fun h => by cases h⟩

theorem over : Rows.nvramCutRow.holds Try.pinned (OpenSpec.ofChange Rows.nvramCutSpec) :=
  OpenClaim.holds_of_wide 7 Try.f7 rfl rfl rfl rfl rfl rfl rfl ⟨rfl, rfl, rfl, rfl, rfl⟩ rfl rfl rfl rfl rfl (by kernel_rfl) Try.func7 (by kernel_rfl)
    (of_decide_eq_true (by kernel_rfl)) (by unfold Func.isWrapper; first | (rw [if_pos (by decide +kernel)]; kernel_rfl) | (rw [if_neg (by decide +kernel)]; exact ⟨rfl, rfl⟩))
    (fun os started H enc _ => lifted os started H enc)
end Go.Proofs.Ytlnlifijnijgmaa.nvramCut
namespace Go.Proofs.Ytlnlifijnijgmaa
theorem nvramCut_holds : Rows.NvramCutSaid := nvramCut.over
#print axioms nvramCut_holds
end Go.Proofs.Ytlnlifijnijgmaa
