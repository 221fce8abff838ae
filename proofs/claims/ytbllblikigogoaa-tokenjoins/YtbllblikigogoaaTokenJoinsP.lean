/-
  Bytes behind those of some tokens are read as if they stood alone, unless offsets became wide.
-/
import Derived.Test.YtbllblikigogoaaRows
import Derived.WalkKit
import Derived.ProofKit
import Derived.OpenShut
import Derived.ShutString
import Derived.ChangeOld
import Derived.Below
import Derived.Carry
import Derived.SizedLaws
import Derived.Test.YtbllblikigogoaaSl
import Derived.Test.YtbllblikigogoaaTla
import Derived.Test.YtbllblikigogoaaTqp
import Derived.Test.YtbllblikigogoaaTr4
namespace Go.Proofs.Ytbllblikigogoaa.tokenJoins
open Go.ChangeShapes Go.WideShapes Go.ChangeAt Go.RowKit
open Go.ChangeMaps (open_string shut_string)
set_option linter.unusedVariables false
set_option linter.unusedSimpArgs false

theorem own : ownKnob Try.prog.godebug = none := by kernel_rfl
theorem laidOut : laidOutB Try.prog = true := by kernel_rfl
theorem bytes5 : Try.prog.bytesOf 5 = 1 := by kernel_rfl

set_option maxHeartbeats 4000000 in
set_option maxRecDepth 100000 in
theorem walk (v0 : Value) (x0 : List Int) (v1 : Value) (x1 : List Int) (a2 : Bool) (w : World) (r0 : Rd .u8 w v0 x0) (f0 : ∀ n ∈ x0, (Lit.int .u8 n).wf = true) (z0 : x0.length * 1 ≤ 140737488351232) (r1 : Rd .u8 w v1 x1) (f1 : ∀ n ∈ x1, (Lit.int .u8 n).wf = true) (z1 : x1.length * 1 ≤ 140737488351232) :
    Calls Try.prog 8 #[v0, v1, .bool a2] w fun e w' => e = .returned (.bool true) ∧ Below w.heap.size w w' := by
  have hb0 : bytesL x0 := fun n hn => by have := f0 n hn; simp [Lit.wf, IntKind.min, IntKind.max, IntKind.bits, IntKind.signed] at this; omega
  have hb1 : bytesL x1 := fun n hn => by have := f1 n hn; simp [Lit.wf, IntKind.min, IntKind.max, IntKind.bits, IntKind.signed] at this; omega
  have hl0 := rd_len r0 uB (P := Try.prog)
  have hl1 := rd_len r1 uB (P := Try.prog)
  by_cases hbig : (4000 : Int) < x0.length
  · go_enter Try.func8, Try.ntmps8
    go_wp2_with (go_at_call 9; refine (w_alive13 _).mono ?_; rintro e q1 ⟨rfl, b1⟩)
    go_ret
    exact ⟨rfl, b1⟩
  by_cases hbig1 : (4000 : Int) < x1.length
  · go_enter Try.func8, Try.ntmps8
    go_wp2_with (go_at_call 9; refine (w_alive13 _).mono ?_; rintro e q1 ⟨rfl, b1⟩)
    go_ret
    exact ⟨rfl, b1⟩
  have hjoin := join_law x0 x1 a2 hb0 hb1 (by omega)
  have hgX := dec_g x0 a2 hb0
  have hgY := dec_g x1 a2 hb1
  have hXl := dec_len x0 a2 hb0
  have hYl := dec_len x1 a2 hb1
  have hb01 : bytesL (x0 ++ x1) := fun y hy => (List.mem_append.1 hy).elim (hb0 y) (hb1 y)
  have c1 := fun w h => w_pdec v0 x0 a2 w h hb0
  have c2 := fun w h => w_pdec v1 x1 a2 w h hb1
  have c3 := fun v w h => w_pdec v (x0 ++ x1) a2 w h hb01
  obtain ⟨X, E, hE⟩ : ∃ X E, decF x0 a2 = (X, E) := ⟨_, _, rfl⟩
  obtain ⟨Y, F, hY⟩ : ∃ Y F, decF x1 a2 = (Y, F) := ⟨_, _, rfl⟩
  obtain ⟨Z, G, hZ⟩ : ∃ Z G, decF (x0 ++ x1) a2 = (Z, G) := ⟨_, _, rfl⟩
  simp only [hE, hY, hZ] at c1 c2 c3 hjoin hgX hgY hXl hYl
  clear hE hY hZ hb01
  by_cases he : E = 0
  case neg =>
    have hn : (E != 0) = true := by simpa using he
    clear hjoin he
    go_enter Try.func8, Try.ntmps8
    go_wp2_with (first
      | (go_at_call 9; refine (w_alive13 _).mono ?_; rintro e q1 ⟨rfl, b1⟩)
      | (go_at_call 14; refine (c1 _ (r0.below b1)).mono ?_; rintro e q2 ⟨v2, rfl, r2, b2⟩))
    go_ret
    exact ⟨rfl, below_trans b1 b2⟩
  subst he
  have HJ := hid (hjoin rfl)
  clear hjoin
  have hXi : (X.length : Int) ≤ 4000 := by omega
  have hYi : (Y.length : Int) ≤ 4000 := by omega
  obtain ⟨i0, hi, hz0, hz1, hz2⟩ := info_parts infoU8
  go_enter Try.func8, Try.ntmps8
  go_wp2_with (first
    | (go_at_call 9; refine (w_alive13 _).mono ?_; rintro e q1 ⟨rfl, b1⟩)
    | (go_at_call 14; refine (c1 _ (r0.below b1)).mono ?_; rintro e q2 ⟨v2, rfl, r2, b2⟩; have hl2 := slr_len r2 uQ (P := Try.prog)))
  have b12 := below_trans b1 b2
  go_loopw [9] (fun I wx => ∃ k : Nat, (k : Int) ≤ X.length ∧ I = .int .i64 k ∧ Hid (∀ t ∈ X.take k, ¬ t.c = 204) ∧ Below q2.heap.size q2 wx) (fun I _ => (X.length - intOf I).toNat)
  case atStart => exact ⟨0, by omega, rfl, hid (by simp), Below.refl _ _⟩
  case round =>
    obtain ⟨k, hk, rfl, hc, hb⟩ := hrel
    by_cases hlt : (k : Int) < X.length
    · have hkk : k < X.length := by omega
      obtain ⟨bz, oz, C, N, O, T, iz, z0', z1', z2', z3', e0, e1, e2, e3⟩ := tq_at (r2.below hb tqR_below) k hkk
      by_cases hcc : C = 204
      · subst hcc
        clear e0 e1 e2 e3
        go_wp2_with fail
        go_ret
        exact ⟨rfl, below_trans b12 hb⟩
      · have hq : (C == 204) = false := by simpa using hcc
        have hc2 : Hid (∀ t ∈ X.take (k + 1), ¬ t.c = 204) := by
          show ∀ t ∈ X.take (k + 1), ¬ t.c = 204
          rw [List.take_succ_eq_append_getElem hkk]
          intro t ht
          rw [List.mem_append, List.mem_singleton] at ht
          rcases ht with ht | rfl
          · exact hc.out t ht
          · rw [e0]; exact hcc
        clear e0 e1 e2 e3 hcc
        go_wp2_with fail
        go_roundw
        case rel => exact ⟨k + 1, by omega, by go_num, hc2, hb⟩
        case measure => simp [intOf]; omega
    · have hfin : Hid (G = F ∧ (F = 0 → Z = X ++ Y)) := by
        refine HJ.out ?_
        have := hc.out
        rwa [List.take_of_length_le (by omega)] at this
      obtain ⟨hgf, hzz⟩ := hfin.out
      subst hgf
      have HZ := hid hzz
      have hb2 := below_trans b12 hb
      clear hzz hfin hc
      by_cases hf : G = 0
      · subst hf
        have hZe := HZ.out rfl
        have hZl : (Z.length : Int) = X.length + Y.length := by rw [hZe]; simp
        have hT1 : Hid (Z.take X.length = X) := by show _ = _; rw [hZe, List.take_left']; rfl
        have hT2 : Hid (Z.drop X.length = Y) := by show _ = _; rw [hZe, List.drop_left']; rfl
        have hqq : ((Z.length : Int) == X.length + Y.length) = true := by simp [hZl]
        have HZl := hid hZl
        have gX : ∀ x ∈ X, bytesL x.t := fun t ht => (hgX t ht).2.2
        have gY : ∀ x ∈ Y, bytesL x.t := fun t ht => (hgY t ht).2.2
        clear hZe hZl
        go_wp2_with (first
          | (go_at_call_of 14 v1; refine (c2 _ (r1.below hb2)).mono ?_; rintro e q3 ⟨v3, rfl, r3, b3⟩; have hl3 := slr_len r3 uQ (P := Try.prog); have hb3 := below_trans hb2 b3)
          | (go_at_call 13; refine (w_rcopy v0 x0 _ (r0.below hb3) (by omega)).mono ?_; rintro e q4 ⟨v4, rfl, o4, b4⟩; have hb4 := below_trans hb3 b4)
          | (at_builtin; refine wpList_append_rd (k := .u8) rfl _ _ 24 rfl q3.heap.size 5 i0 1 Try.underlying24 hi hz0 hz1 hz2 v4 x0 rfl o4 v1 x1 rfl (r1.below hb4) (by unfold maxLen; omega) (by omega) b4.size ?_; intro v5 w5 o5 g5; have b45 := below_grown b4 g5 (fun k hk => (o4.lt k hk).1); have hb5 := below_trans hb3 b45)
          | (go_at_call 14; refine (c3 _ _ (Rd_own o5).1).mono ?_; rintro e q6 ⟨v6, rfl, r6, b6⟩; have hl6 := slr_len r6 uQ (P := Try.prog); obtain ⟨vt, it, rt⟩ := slr_first r6 uQ zQ X.length (by have := HZl.out; omega); rw [hT1.out] at rt; obtain ⟨vu, iu, ru⟩ := slr_tail r6 uQ zQ X.length (by have := HZl.out; omega); rw [hT2.out] at ru)
          | (go_at_call_of 16 vt; refine (w_r13same vt v2 X X q6 rt (r2.below (below_trans hb (below_trans b3 (below_trans b45 b6))) tqR_below) gX gX).mono ?_; rintro e q7 ⟨rfl, b7⟩)
          | (go_at_call_of 16 vu; refine (w_r13same vu v3 Y Y q7 (ru.below b7 tqR_below) (r3.below (below_trans b45 (below_trans b6 b7)) tqR_below) gY gY).mono ?_; rintro e q8 ⟨rfl, b8⟩))
        go_ret
        exact ⟨rfl, below_trans hb5 (below_trans b6 (below_trans b7 b8))⟩
      · have hn : (G != 0) = true := by simpa using hf
        clear hf
        go_wp2_with (first
          | (go_at_call_of 14 v1; refine (c2 _ (r1.below hb2)).mono ?_; rintro e q3 ⟨v3, rfl, r3, b3⟩; have hl3 := slr_len r3 uQ (P := Try.prog); have hb3 := below_trans hb2 b3)
          | (go_at_call 13; refine (w_rcopy v0 x0 _ (r0.below hb3) (by omega)).mono ?_; rintro e q4 ⟨v4, rfl, o4, b4⟩; have hb4 := below_trans hb3 b4)
          | (at_builtin; refine wpList_append_rd (k := .u8) rfl _ _ 24 rfl q3.heap.size 5 i0 1 Try.underlying24 hi hz0 hz1 hz2 v4 x0 rfl o4 v1 x1 rfl (r1.below hb4) (by unfold maxLen; omega) (by omega) b4.size ?_; intro v5 w5 o5 g5; have b45 := below_grown b4 g5 (fun k hk => (o4.lt k hk).1); have hb5 := below_trans hb3 b45)
          | (go_at_call 14; refine (c3 _ _ (Rd_own o5).1).mono ?_; rintro e q6 ⟨v6, rfl, r6, b6⟩))
        go_ret
        exact ⟨rfl, below_trans hb5 b6⟩

set_option maxRecDepth 100000 in
theorem lifted (os : Os) (started : os.Started) (H : Type) (enc : TypeId × Value → H) :
    ReturnsInHanded {} Try.checked os 8 .any (Rows.tokenJoinsSpec.pre6 enc Try.prog Try.f8 Rows.tokenJoinsRow.domain false) (Rows.tokenJoinsSpec.post enc Try.prog Try.f8 false true false false) := by
  refine returnsInHanded_of_change_sized (C := Try.checked) own started (by kernel_rfl) Try.func8
    (ChangeSpec.witness6 (enc := enc) (C := Try.checked) false ⟨#[], #[.slice none 0 0, .slice none 0 0, .bool false], []⟩ 8 (by kernel_rfl) (by kernel_rfl) (by kernel_rfl) (by kernel_rfl)) ?_
  intro W base args ds gs before hval0 hW hcnd hsz0 _
  have hval : ∀ (j : Nat) t v, Try.f8.params[j]? = some t → args[j]? = some v → Value.okWide Try.prog W .any base t v := hval0
  have hsz : (DataW.weightsEach Try.prog (Try.f8.params.toList ++ Rows.tokenJoinsSpec.plain.varTypes Try.prog) (ds ++ gs)).all (· ≤ reachBytes) = true := hsz0
  have hW' := hW
  obtain ⟨p, q, hA0, hV, rfl, hfz, hnd⟩ := hW
  have hA : DataW.TrodAll enc Try.prog W 0 (fun _ => true) true Try.f8.params.toList args.toList ds p := hA0
  rw [Try.params8] at hA hval hsz
  obtain ⟨v0, vs0, d0, ds0, p0, q0, hargs, rfl, rfl, h0, r0⟩ := trodAll_cons hA
  obtain ⟨v1, vs1, d1, ds1, p1, q1, rfl, rfl, rfl, h1, r1⟩ := trodAll_cons r0
  obtain ⟨v2, vs2, d2, ds2, p2, q2, rfl, rfl, rfl, h2, r2⟩ := trodAll_cons r1
  obtain ⟨rfl, rfl, rfl⟩ := trodAll_nil r2
  obtain rfl : args = #[v0, v1, v2] := by cases args; simp_all
  obtain ⟨rfl, rfl⟩ := trodVars_none hV
  obtain ⟨s0, l0, c0, rfl⟩ := okWide_slice Try.underlying24 (hval 0 24 v0 rfl rfl)
  have k0 := h0
  have lt0 : ∀ x ∈ p0, x.block < W.heap.size := by obtain ⟨m, hm⟩ := k0; exact DataW.trod_lt m _ _ _ hm
  obtain ⟨x0, r100, f0, hd0⟩ := rd_open (k := .u8) Try.underlying24 Try.underlying5 (by kernel_rfl) h0
  have z0 : x0.length * 1 ≤ 140737488351232 := by
    rcases hd0 with rfl | ⟨ys, zs, rfl, hle⟩
    · simp
    · have := sized_slice hsz (j := 0) (t := 24) (e := 5) rfl rfl Try.underlying24
      rw [bytes5] at this
      unfold reachBytes at this
      omega
  obtain ⟨s1, l1, c1, rfl⟩ := okWide_slice Try.underlying24 (hval 1 24 v1 rfl rfl)
  have k1 := h1
  have lt1 : ∀ x ∈ p1, x.block < W.heap.size := by obtain ⟨m, hm⟩ := k1; exact DataW.trod_lt m _ _ _ hm
  obtain ⟨x1, r101, f1, hd1⟩ := rd_open (k := .u8) Try.underlying24 Try.underlying5 (by kernel_rfl) h1
  have z1 : x1.length * 1 ≤ 140737488351232 := by
    rcases hd1 with rfl | ⟨ys, zs, rfl, hle⟩
    · simp
    · have := sized_slice hsz (j := 1) (t := 24) (e := 5) rfl rfl Try.underlying24
      rw [bytes5] at this
      unfold reachBytes at this
      omega
  obtain ⟨a2, rfl, rfl, rfl⟩ := open_bool Try.underlying4 (hval 2 4 v2 rfl rfl) h2
  clear hA0 hval0 hsz0
  refine (walk (.slice s0 l0 c0) x0 (.slice s1 l1 c1) x1 a2 W r100 f0 z0 r101 f1 z1).mono fun e W' ⟨he, bel⟩ => ?_
  subst he
  exact ⟨_, rfl, _, _, _, [], _, [], hW', trodAll_mk1 (shut_bool Try.underlying4 _), (trodAll_cons_mk (Below.trod laidOut (by kernel_rfl) (of_decide_eq_true (by kernel_rfl)) k0 bel lt0) (trodAll_cons_mk (Below.trod laidOut (by kernel_rfl) (of_decide_eq_true (by kernel_rfl)) k1 bel lt1) (trodAll_cons_mk (shut_bool Try.underlying4 a2) trodAll_mk0))), rfl, bel.frame _, fun h => by cases h⟩

theorem over : Rows.tokenJoinsRow.holds Try.pinned (OpenSpec.ofChange Rows.tokenJoinsSpec) :=
  OpenClaim.holds_of_wide 8 Try.f8 rfl rfl rfl rfl rfl rfl rfl ⟨rfl, rfl, rfl, rfl, rfl⟩ rfl rfl rfl rfl rfl (by kernel_rfl) Try.func8 (by kernel_rfl)
    (of_decide_eq_true (by kernel_rfl)) (by unfold Func.isWrapper; first | (rw [if_pos (by decide +kernel)]; kernel_rfl) | (rw [if_neg (by decide +kernel)]; exact ⟨rfl, rfl⟩))
    (fun os started H enc _ => lifted os started H enc)
end Go.Proofs.Ytbllblikigogoaa.tokenJoins
namespace Go.Proofs.Ytbllblikigogoaa
theorem tokenJoins_holds : Rows.TokenJoinsSaid := tokenJoins.over
#print axioms tokenJoins_holds
end Go.Proofs.Ytbllblikigogoaa
