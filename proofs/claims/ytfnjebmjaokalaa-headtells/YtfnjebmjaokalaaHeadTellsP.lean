/-
  A program of which one byte of the body, or of the sum, is another one is refused.
-/
import Derived.Test.YtfnjebmjaokalaaRows
import Derived.WalkKit
import Derived.ProofKit
import Derived.OpenShut
import Derived.ShutString
import Derived.ChangeOld
import Derived.Below
import Derived.Carry
import Derived.SizedLaws
import Derived.Test.YtfnjebmjaokalaaSl
import Derived.Test.YtfnjebmjaokalaaHal
import Derived.Test.YtfnjebmjaokalaaHr1
namespace Go.Proofs.Ytfnjebmjaokalaa.headTells
open Go.ChangeShapes Go.WideShapes Go.ChangeAt Go.RowKit
open Go.ChangeMaps (open_string shut_string)
set_option linter.unusedVariables false
set_option linter.unusedSimpArgs false

theorem own : ownKnob Try.prog.godebug = none := by kernel_rfl
theorem laidOut : laidOutB Try.prog = true := by kernel_rfl
theorem bytes5 : Try.prog.bytesOf 5 = 1 := by kernel_rfl

set_option maxHeartbeats 4000000 in
set_option maxRecDepth 100000 in
theorem walk (v0 : Value) (x0 : List Int) (a1 : Int) (a2 : Int) (w : World) (r0 : Rd .u8 w v0 x0) (f0 : ∀ n ∈ x0, (Lit.int .u8 n).wf = true) (z0 : x0.length * 1 ≤ 140737488351232) (w1 : (Lit.int .u16 a1).wf = true) (w2 : (Lit.int .u8 a2).wf = true) :
    Calls Try.prog 6 #[v0, .int .u16 a1, .int .u8 a2] w fun e w' => e = .returned (.bool true) ∧ Below w.heap.size w w' := by
  have hb0 : bytesL x0 := fun n hn => by have := f0 n hn; simp [Lit.wf, IntKind.min, IntKind.max, IntKind.bits, IntKind.signed] at this; omega
  have hz0 : x0.length ≤ 140737488355328 := by omega
  have t0 : 0 ≤ a2 ∧ a2 < 256 := by have := w2; simp [Lit.wf, IntKind.min, IntKind.max, IntKind.bits, IntKind.signed] at this; omega
  have s0 : 0 ≤ a1 ∧ a1 < 65536 := by have := w1; simp [Lit.wf, IntKind.min, IntKind.max, IntKind.bits, IntKind.signed] at this; omega
  obtain ⟨t0, t1⟩ := t0
  obtain ⟨s0, s1⟩ := s0
  have hl0 := rd_len r0 uB (P := Try.prog)
  have hm2 : a2.tmod 2 = a2 % 2 := Int.tmod_eq_emod_of_nonneg t0
  obtain ⟨W, hW⟩ : ∃ W : Bool, (a2 % 2 == 0) = W := ⟨_, rfl⟩
  have c1 := fun w h => w_pmake v0 x0 W w h hb0 hz0
  clear w1 w2
  by_cases hbig : (8184 : Int) < x0.length
  · have e : makF x0 W = ([], 3) := by unfold makF; rw [if_pos (by omega)]
    simp only [e] at c1
    clear e
    go_enter Try.func6, Try.ntmps6
    go_wp2_with (first
      | (go_at_call 7; refine (w_alive14 _).mono ?_; rintro e q1 ⟨rfl, b1⟩)
      | (go_at_call 8; refine (c1 _ (r0.below b1)).mono ?_; rintro e q2 ⟨v2, rfl, o2, b2⟩))
    go_ret
    exact ⟨rfl, below_trans b1 b2⟩
  have e : makF x0 W = (hdF x0 W ++ x0, 0) := by unfold makF; rw [if_neg (by omega)]
  simp only [e] at c1
  by_cases htz : a2 = 0
  · have hq : (a2 == 0) = true := by simpa using htz
    clear e htz
    go_enter Try.func6, Try.ntmps6
    go_wp2_with (first
      | (go_at_call 7; refine (w_alive14 _).mono ?_; rintro e q1 ⟨rfl, b1⟩)
      | (go_at_call 8; refine (c1 _ (r0.below b1)).mono ?_; rintro e q2 ⟨v2, rfl, o2, b2⟩))
    go_ret
    exact ⟨rfl, below_trans b1 b2⟩
  have hq : (a2 == 0) = false := by simpa using htz
  have hML : (hdF x0 W ++ x0).length = 8 + x0.length := by rw [List.length_append, hd_len]
  have hMb : bytesL (hdF x0 W ++ x0) := bytes_app (hd_bytes _ _) hb0
  have htl := tell_law x0 W (by omega) hb0
  obtain ⟨M, hM⟩ : ∃ M, hdF x0 W ++ x0 = M := ⟨_, rfl⟩
  rw [hM] at c1 hML hMb htl
  clear e hM
  have hrem : a1.tmod ((x0.length : Int) + 2) = a1 % ((x0.length : Int) + 2) := Int.tmod_eq_emod_of_nonneg s0
  have hr0 : 0 ≤ a1 % ((x0.length : Int) + 2) := Int.emod_nonneg _ (by omega)
  have hr1 : a1 % ((x0.length : Int) + 2) < (x0.length : Int) + 2 := Int.emod_lt_of_pos _ (by omega)
  obtain ⟨R, hR⟩ : ∃ R, a1 % ((x0.length : Int) + 2) = R := ⟨_, rfl⟩
  rw [hR] at hrem hr0 hr1
  clear hR
  have key : ∀ K : Int, (K = 2 ∨ K = 3 ∨ (8 ≤ K ∧ K < 8 + x0.length)) → 0 ≤ bits .xor .u8 (M.getD K.toNat 0) a2 ∧ bits .xor .u8 (M.getD K.toNat 0) a2 < 256 ∧ chkF (M.set K.toNat (bits .xor .u8 (M.getD K.toNat 0) a2)) = ([], false, 17) := by
    intro K hK
    have hm : M.getD K.toNat 0 ∈ M := by
      rw [List.getD_eq_getElem?_getD, List.getElem?_eq_getElem (by omega)]
      simp
    have hx := hMb _ hm
    have e := u8_xor (M.getD K.toNat 0) a2 hx.1 hx.2 t0 t1
    have hlt : (M.getD K.toNat 0).toNat ^^^ a2.toNat < 2 ^ 8 := Nat.xor_lt_two_pow (by omega) (by omega)
    have hne : ¬ ((M.getD K.toNat 0).toNat ^^^ a2.toNat = (M.getD K.toNat 0).toNat) := by
      intro h
      have : a2.toNat = 0 := by
        have h2 := congrArg (fun z => (M.getD K.toNat 0).toNat ^^^ z) h
        simpa [← Nat.xor_assoc] using h2
      omega
    rw [e]
    refine ⟨by omega, by omega, htl K.toNat _ (by omega) (by omega) (by omega) (by omega)⟩
  have hbs : ∀ (K y : Int), 0 ≤ y → y < 256 → bytesL (M.set K.toNat y) := fun K y h0 h1 x hx => by
    rcases List.mem_or_eq_of_mem_set hx with hx | rfl
    · exact hMb x hx
    · exact ⟨h0, h1⟩
  have KK := hid key
  have KB := hid hbs
  have HML := hid hML
  have hlc : ∀ (K y : Int), (M.set K.toNat y).length ≤ 140737488355328 := fun K y => by rw [List.length_set]; omega
  have KL := hid hlc
  clear key hbs htl hML hlc htz
  by_cases hsm : R < 2
  · have hK := KK.out (2 + R) (by omega)
    obtain ⟨X, hX⟩ : ∃ X, bits .xor .u8 (M.getD (2 + R).toNat 0) a2 = X := ⟨_, rfl⟩
    rw [hX] at hK
    obtain ⟨x0', x1', hck⟩ := hK
    have c3 := fun v w h => w_pcheck v (M.set (2 + R).toNat X) w h (KB.out _ _ x0' x1') (KL.out _ _)
    rw [hck] at c3
    simp only at c3
    have HX := hid hX
    clear hX hck
    go_enter Try.func6, Try.ntmps6
    go_wp2_with (first
      | (go_at_call 7; refine (w_alive14 _).mono ?_; rintro e q1 ⟨rfl, b1⟩)
      | (go_at_call 8; refine (c1 _ (r0.below b1)).mono ?_; rintro e q2 ⟨v2, rfl, o2, b2⟩; obtain ⟨ad, i1, i2, i3, i4, i5⟩ := own_set o2 uB zB (2 + R) (by omega) (by have := HML.out; omega); have i6 := i5 X; have hx2 := HX.out; obtain ⟨Y, hY⟩ : ∃ Y, M.getD (2 + R).toNat 0 = Y := ⟨_, rfl⟩; rw [hY] at i2 hx2; have bs := b2.setCell i4 (.int .u8 X); clear hY i5)
      | (go_at_call 14; refine (c3 _ _ (Rd_own i6).1).mono ?_; rintro e q4 ⟨v4, rfl, r4, b4⟩; have hl4 : ∀ ty w', (Builtin.len_ #[22] ty #[v4]).run Try.prog w' = .ok (.int .i64 0) w' := rd_len r4 uB (P := Try.prog)))
    go_ret
    exact ⟨rfl, below_trans b1 (below_trans bs b4)⟩
  · have hK := KK.out (2 + R + 4) (by omega)
    obtain ⟨X, hX⟩ : ∃ X, bits .xor .u8 (M.getD (2 + R + 4).toNat 0) a2 = X := ⟨_, rfl⟩
    rw [hX] at hK
    obtain ⟨x0', x1', hck⟩ := hK
    have c3 := fun v w h => w_pcheck v (M.set (2 + R + 4).toNat X) w h (KB.out _ _ x0' x1') (KL.out _ _)
    rw [hck] at c3
    simp only at c3
    have HX := hid hX
    clear hX hck
    go_enter Try.func6, Try.ntmps6
    go_wp2_with (first
      | (go_at_call 7; refine (w_alive14 _).mono ?_; rintro e q1 ⟨rfl, b1⟩)
      | (go_at_call 8; refine (c1 _ (r0.below b1)).mono ?_; rintro e q2 ⟨v2, rfl, o2, b2⟩; obtain ⟨ad, i1, i2, i3, i4, i5⟩ := own_set o2 uB zB (2 + R + 4) (by omega) (by have := HML.out; omega); have i6 := i5 X; have hx2 := HX.out; obtain ⟨Y, hY⟩ : ∃ Y, M.getD (2 + R + 4).toNat 0 = Y := ⟨_, rfl⟩; rw [hY] at i2 hx2; have bs := b2.setCell i4 (.int .u8 X); clear hY i5)
      | (go_at_call 14; refine (c3 _ _ (Rd_own i6).1).mono ?_; rintro e q4 ⟨v4, rfl, r4, b4⟩; have hl4 : ∀ ty w', (Builtin.len_ #[22] ty #[v4]).run Try.prog w' = .ok (.int .i64 0) w' := rd_len r4 uB (P := Try.prog)))
    go_ret
    exact ⟨rfl, below_trans b1 (below_trans bs b4)⟩

set_option maxRecDepth 100000 in
theorem lifted (os : Os) (started : os.Started) (H : Type) (enc : TypeId × Value → H) :
    ReturnsInHanded {} Try.checked os 6 .any (Rows.headTellsSpec.pre6 enc Try.prog Try.f6 Rows.headTellsRow.domain false) (Rows.headTellsSpec.post enc Try.prog Try.f6 false true false false) := by
  refine returnsInHanded_of_change_sized (C := Try.checked) own started (by kernel_rfl) Try.func6
    (ChangeSpec.witness6 (enc := enc) (C := Try.checked) false ⟨#[], #[.slice none 0 0, .int .u16 0, .int .u8 0], []⟩ 8 (by kernel_rfl) (by kernel_rfl) (by kernel_rfl) (by kernel_rfl)) ?_
  intro W base args ds gs before hval0 hW hcnd hsz0 _
  have hval : ∀ (j : Nat) t v, Try.f6.params[j]? = some t → args[j]? = some v → Value.okWide Try.prog W .any base t v := hval0
  have hsz : (DataW.weightsEach Try.prog (Try.f6.params.toList ++ Rows.headTellsSpec.plain.varTypes Try.prog) (ds ++ gs)).all (· ≤ reachBytes) = true := hsz0
  have hW' := hW
  obtain ⟨p, q, hA0, hV, rfl, hfz, hnd⟩ := hW
  have hA : DataW.TrodAll enc Try.prog W 0 (fun _ => true) true Try.f6.params.toList args.toList ds p := hA0
  rw [Try.params6] at hA hval hsz
  obtain ⟨v0, vs0, d0, ds0, p0, q0, hargs, rfl, rfl, h0, r0⟩ := trodAll_cons hA
  obtain ⟨v1, vs1, d1, ds1, p1, q1, rfl, rfl, rfl, h1, r1⟩ := trodAll_cons r0
  obtain ⟨v2, vs2, d2, ds2, p2, q2, rfl, rfl, rfl, h2, r2⟩ := trodAll_cons r1
  obtain ⟨rfl, rfl, rfl⟩ := trodAll_nil r2
  obtain rfl : args = #[v0, v1, v2] := by cases args; simp_all
  obtain ⟨rfl, rfl⟩ := trodVars_none hV
  obtain ⟨s0, l0, c0, rfl⟩ := okWide_slice Try.underlying22 (hval 0 22 v0 rfl rfl)
  have k0 := h0
  have lt0 : ∀ x ∈ p0, x.block < W.heap.size := by obtain ⟨m, hm⟩ := k0; exact DataW.trod_lt m _ _ _ hm
  obtain ⟨x0, r100, f0, hd0⟩ := rd_open (k := .u8) Try.underlying22 Try.underlying5 (by kernel_rfl) h0
  have z0 : x0.length * 1 ≤ 140737488351232 := by
    rcases hd0 with rfl | ⟨ys, zs, rfl, hle⟩
    · simp
    · have := sized_slice hsz (j := 0) (t := 22) (e := 5) rfl rfl Try.underlying22
      rw [bytes5] at this
      unfold reachBytes at this
      omega
  obtain ⟨a1, rfl, rfl, rfl, w1⟩ := open_int Try.underlying35 (hval 1 35 v1 rfl rfl) h1
  obtain ⟨a2, rfl, rfl, rfl, w2⟩ := open_int Try.underlying5 (hval 2 5 v2 rfl rfl) h2
  clear hA0 hval0 hsz0
  refine (walk (.slice s0 l0 c0) x0 a1 a2 W r100 f0 z0 w1 w2).mono fun e W' ⟨he, bel⟩ => ?_
  subst he
  exact ⟨_, rfl, _, _, _, [], _, [], hW', trodAll_mk1 (shut_bool Try.underlying4 _), (trodAll_cons_mk (Below.trod laidOut (by kernel_rfl) (of_decide_eq_true (by kernel_rfl)) k0 bel lt0) (trodAll_cons_mk (shut_int Try.underlying35 w1) (trodAll_cons_mk (shut_int Try.underlying5 w2) trodAll_mk0))), rfl, bel.frame _, fun h => by cases h⟩

theorem over : Rows.headTellsRow.holds Try.pinned (OpenSpec.ofChange Rows.headTellsSpec) :=
  OpenClaim.holds_of_wide 6 Try.f6 rfl rfl rfl rfl rfl rfl rfl ⟨rfl, rfl, rfl, rfl, rfl⟩ rfl rfl rfl rfl rfl (by kernel_rfl) Try.func6 (by kernel_rfl)
    (of_decide_eq_true (by kernel_rfl)) (by unfold Func.isWrapper; first | (rw [if_pos (by decide +kernel)]; kernel_rfl) | (rw [if_neg (by decide +kernel)]; exact ⟨rfl, rfl⟩))
    (fun os started H enc _ => lifted os started H enc)
end Go.Proofs.Ytfnjebmjaokalaa.headTells
namespace Go.Proofs.Ytfnjebmjaokalaa
theorem headTells_holds : Rows.HeadTellsSaid := headTells.over
#print axioms headTells_holds
end Go.Proofs.Ytfnjebmjaokalaa
