/-
  What is put into a window stands there, changes no other byte, and a window that does not touch it keeps what it has.
-/
import Derived.Test.YtnaoefjcfmdenaaRows
import Derived.WalkKit
import Derived.ProofKit
import Derived.OpenShut
import Derived.ShutString
import Derived.ChangeOld
import Derived.Below
import Derived.Carry
import Derived.SizedLaws
import Derived.Test.YtnaoefjcfmdenaaB7
namespace Go.Proofs.Ytnaoefjcfmdenaa.labelApart
open Go.ChangeShapes Go.WideShapes Go.ChangeAt Go.RowKit
open Go.ChangeMaps (open_string shut_string)
set_option linter.unusedVariables false
set_option linter.unusedSimpArgs false

theorem own : ownKnob Try.prog.godebug = none := by kernel_rfl
theorem laidOut : laidOutB Try.prog = true := by kernel_rfl
theorem bytes5 : Try.prog.bytesOf 5 = 1 := by kernel_rfl

set_option maxHeartbeats 4000000 in
set_option maxRecDepth 100000 in
theorem walk (v0 : Value) (x0 : List Int) (qs1_0 qs1_1 : ByteArray) (qa1_0 qn1_0 qa1_1 qn1_1 : Int) (v2 : Value) (x2 : List Int) (w : World) (r0 : Rd .u8 w v0 x0) (f0 : ∀ n ∈ x0, (Lit.int .u8 n).wf = true) (z0 : x0.length * 1 ≤ 140737488351232) (wq1_0 : qs1_0.size ≤ 140737488351232 ∧ (-9223372036854775808 ≤ qa1_0 ∧ qa1_0 < 9223372036854775808) ∧ (-9223372036854775808 ≤ qn1_0 ∧ qn1_0 < 9223372036854775808)) (wq1_1 : qs1_1.size ≤ 140737488351232 ∧ (-9223372036854775808 ≤ qa1_1 ∧ qa1_1 < 9223372036854775808) ∧ (-9223372036854775808 ≤ qn1_1 ∧ qn1_1 < 9223372036854775808)) (r2 : Rd .u8 w v2 x2) (f2 : ∀ n ∈ x2, (Lit.int .u8 n).wf = true) (z2 : x2.length * 1 ≤ 140737488351232) :
    Calls Try.prog 8 #[v0, .agg #[.string qs1_0, .int .i64 qa1_0, .int .i64 qn1_0, .string qs1_1, .int .i64 qa1_1, .int .i64 qn1_1], v2] w fun e w' => e = .returned (.bool true) ∧ Below w.heap.size w w' := by
  have hb0 : bytesL x0 := fun n hn => by have := f0 n hn; simp [Lit.wf, IntKind.min, IntKind.max, IntKind.bits, IntKind.signed] at this; omega
  have hb2 : bytesL x2 := fun n hn => by have := f2 n hn; simp [Lit.wf, IntKind.min, IntKind.max, IntKind.bits, IntKind.signed] at this; omega
  obtain ⟨ws0, n0, m0⟩ := wq1_0
  obtain ⟨ws1, n1, m1⟩ := wq1_1
  have zz : x0.length ≤ 140737488351232 := by omega
  have hl0 := rd_len r0 uB (P := Try.prog)
  have hl2 := rd_len r2 uB (P := Try.prog)
  have c1 := fun W r => w_pwindow21 v0 x0 qs1_0 W r hb0 zz ws0
  have c2 := fun W r rb => w_plput21 v0 v2 x0 x2 qs1_0 qa1_0 W r rb hb0 zz ws0 n0.1 n0.2
  have c3 := fun W r => w_pwindow21 v0 x0 qs1_1 W r hb0 zz ws1
  have c4 := fun W r => w_plget21 v0 x0 qs1_1 qa1_1 qn1_1 W r hb0 zz ws1 n1.1 n1.2 m1.1 m1.2
  have bX := lp_bytes (a := LB qs1_0) (at_ := qa1_0) hb0 hb2
  have bY := lg_bytes (a := LB qs1_1) (at_ := qa1_1) (n := qn1_1) hb0
  have hput := fun h => lp_put (a := LB qs1_0) (at_ := qa1_0) (b := x2) hb0 h
  have hnone := fun h => lp_none (a := LB qs1_0) (at_ := qa1_0) (b := x2) hb0 h
  have herr := fun h => lp_err (d := x0) (a := LB qs1_0) (at_ := qa1_0) (b := x2) h
  have hwo := fun h => wn_ok (a := LB qs1_0) hb0 h
  have hwo1 := fun h => wn_ok (a := LB qs1_1) hb0 h
  have hap := fun h h1 h2 h3 => lg_apart (d := x0) (a := LB qs1_0) (c := LB qs1_1) (b := x2) (at_ := qa1_0) (au := qa1_1) (n := qn1_1) hb0 h h1 h2 h3
  obtain ⟨B, M, E, hW⟩ : ∃ B M E, wnF x0 (LB qs1_0) = (B, M, E) := ⟨_, _, _, rfl⟩
  obtain ⟨X, G, hX⟩ : ∃ X G, lpF x0 (LB qs1_0) qa1_0 x2 = (X, G) := ⟨_, _, rfl⟩
  obtain ⟨O, U, H, hO⟩ : ∃ B M E, wnF x0 (LB qs1_1) = (B, M, E) := ⟨_, _, _, rfl⟩
  obtain ⟨Y, I, hY⟩ : ∃ Y I, lgF x0 (LB qs1_1) qa1_1 qn1_1 = (Y, I) := ⟨_, _, rfl⟩
  simp only [hW, hX, hO, hY] at c1 c2 c3 c4 bX bY hput hnone herr hwo hwo1 hap
  have c5 := fun hbX hzX v W r => w_plget21 v X qs1_1 qa1_1 qn1_1 W r hbX hzX ws1 n1.1 n1.2 m1.1 m1.2
  have BZ := box_below w (.cells #[.string qs1_0, .int .i64 qa1_0, .int .i64 qn1_0, .string qs1_1, .int .i64 qa1_1, .int .i64 qn1_1] 49)
  have sZ := stands_new w #[.string qs1_0, .int .i64 qa1_0, .int .i64 qn1_0, .string qs1_1, .int .i64 qa1_1, .int .i64 qn1_1] 49
  obtain ⟨W0, hW0⟩ : ∃ W0, w.alloc (.cells #[.string qs1_0, .int .i64 qa1_0, .int .i64 qn1_0, .string qs1_1, .int .i64 qa1_1, .int .i64 qn1_1] 49) = W0 := ⟨_, rfl⟩
  rw [hW0] at BZ sZ
  have CZ := hid (fun (W : World) (g : Below W0.heap.size W0 W) => (⟨(sZ.below g).cell 0 _ rfl, (sZ.below g).cell 1 _ rfl, (sZ.below g).cell 3 _ rfl, (sZ.below g).cell 4 _ rfl, (sZ.below g).cell 5 _ rfl⟩ : W.cell? ⟨w.heap.size, 0, none⟩ = some (.string qs1_0) ∧ W.cell? ⟨w.heap.size, 1, none⟩ = some (.int .i64 qa1_0) ∧ W.cell? ⟨w.heap.size, 3, none⟩ = some (.string qs1_1) ∧ W.cell? ⟨w.heap.size, 4, none⟩ = some (.int .i64 qa1_1) ∧ W.cell? ⟨w.heap.size, 5, none⟩ = some (.int .i64 qn1_1)))
  have R0 := hid r0
  have R2 := hid r2
  clear hX hO hY sZ f0 f2
  by_cases hG : G = 0
  · obtain ⟨k1, k2, k3, k4⟩ := hput hG
    obtain ⟨j1, j2, j3, j4⟩ := hwo k1
    obtain ⟨l1, l2⟩ := dk_len j1
    subst hG
    subst k1
    have hnz : (x2.length : Int) ≤ 32768 := by omega
    have hfit : (B + qa1_0).toNat + x2.length ≤ x0.length := by omega
    have hXl : X.length = x0.length := by rw [k4]; exact put_len x0 x2 _ hfit
    have hXat : Hid (∀ i : Nat, X.getD i 0 = if (B + qa1_0).toNat ≤ i ∧ i < (B + qa1_0).toNat + x2.length then x2.getD (i - (B + qa1_0).toNat) 0 else x0.getD i 0) := fun i => by rw [k4]; exact put_at x0 x2 _ i hfit
    have hwn := fun h1 h2 h3 => hap rfl h1 h2 h3
    have c5 := c5 bX (by omega)
    have HXl := hid hXl
    have hXi : (X.length : Int) = (x0.length : Int) := by omega
    have Hap := hid hwn
    have Hwo := hid hwo1
    clear hput hap hwo hwo1 herr hnone k4 j1 hwn hXl
    go_enter Try.func8, Try.ntmps8
    go_upto_region 1 with fail
    (try rw [hW0])
    clear hW0
    go_upto_region 3 with (go_at_call 9; refine (w_alive21 _).mono ?_; rintro e q1 ⟨rfl, k1⟩; obtain ⟨g0, g1, -⟩ := CZ.out q1 k1; have b1 := below_trans BZ k1)
    go_upto_region 4 with (go_at_call 18; refine (c1 _ (R0.out.below b1)).mono ?_; rintro e q2 ⟨rfl, b2⟩)
    have k2 := below_trans k1 b2
    have b12 := below_trans b1 b2
    clear g0 g1
    obtain ⟨g0, g1, -⟩ := CZ.out q2 k2
    go_upto_region 5 with (go_at_call 22; refine (c2 _ (R0.out.below b12) (R2.out.below b12)).mono ?_; rintro e q3 ⟨v3, rfl, o3, b3⟩)
    have k3 := below_trans k2 b3
    have b13 := below_trans b12 b3
    have r3 := (Rd_own o3).1
    have hl3 := rd_len r3 uB (P := Try.prog)
    rw [hXi] at hl3
    clear g0 g1
    obtain ⟨g0, g1, g3, g4, g5⟩ := CZ.out q3 k3
    have hw1 : IntKind.i64.wrap (M - qa1_0) = M - qa1_0 := by rw [IntKind.wrap_i64]; omega
    go_upto_region 10 with fail
    have R3 := hid r3
    clear c1 c2 g0 g1 g3 g4 g5 r3 BZ k2 k1
    go_loopw [12] (fun I wx => ∃ k : Nat, k ≤ x0.length ∧ I = .int .i64 k ∧ Below q3.heap.size q3 wx) (fun I _ => (x0.length - intOf I).toNat)
    case atStart => exact ⟨0, by omega, rfl, Below.refl _ _⟩
    case round =>
      obtain ⟨k, hk, rfl, hg⟩ := hrel
      obtain ⟨g0, g1, g3, g4, g5⟩ := CZ.out wr (below_trans k3 hg)
      by_cases hlt : (k : Int) < x0.length
      · have hwa : IntKind.i64.wrap ((k : Int) - B) = k - B := by rw [IntKind.wrap_i64]; omega
        have hwb : IntKind.i64.wrap ((k : Int) - B - qa1_0) = k - B - qa1_0 := by rw [IntKind.wrap_i64]; omega
        obtain ⟨ad, P, p1, p2, -, -, p5⟩ := mem_at (R3.out.below hg) bX (k : Int) (by omega) (by omega)
        have hat := hXat.out k
        rw [show ((k : Int)).toNat = k by omega] at p5
        rw [p5] at hat
        by_cases h1 : 0 ≤ (k : Int) - B - qa1_0
        · by_cases h2 : (k : Int) - B - qa1_0 < x2.length
          · rw [if_pos ⟨by omega, by omega⟩] at hat
            obtain ⟨ae, Q, e1, e2, -, -, e5⟩ := mem_at (R2.out.below (below_trans b13 hg)) hb2 ((k : Int) - B - qa1_0) (by omega) (by omega)
            rw [show k - (B + qa1_0).toNat = ((k : Int) - B - qa1_0).toNat by omega, e5] at hat
            subst hat
            clear p5 e5 g3 g4 g5
            go_upto_region 14 with fail
            go_quiet (fail)
            go_wp2_with fail
            go_roundw
            case rel => exact ⟨k + 1, by omega, by go_num, below_drewN hg _⟩
            case measure => simp [intOf]; omega
          · rw [if_neg (by omega)] at hat
            obtain ⟨ae, Q, e1, e2, -, -, e5⟩ := mem_at (R0.out.below (below_trans b13 hg)) hb0 (k : Int) (by omega) (by omega)
            rw [show ((k : Int)).toNat = k by omega] at e5
            rw [e5] at hat
            subst hat
            clear p5 e5 g3 g4 g5
            go_upto_region 16 with fail
            go_quiet (fail)
            go_wp2_with fail
            go_roundw
            case rel => exact ⟨k + 1, by omega, by go_num, below_drewN hg _⟩
            case measure => simp [intOf]; omega
        · rw [if_neg (by omega)] at hat
          obtain ⟨ae, Q, e1, e2, -, -, e5⟩ := mem_at (R0.out.below (below_trans b13 hg)) hb0 (k : Int) (by omega) (by omega)
          rw [show ((k : Int)).toNat = k by omega] at e5
          rw [e5] at hat
          subst hat
          clear p5 e5 g3 g4 g5
          go_upto_region 16 with fail
          go_quiet (fail)
          go_wp2_with fail
          go_roundw
          case rel => exact ⟨k + 1, by omega, by go_num, below_drewN hg _⟩
          case measure => simp [intOf]; omega
      · have b1r := below_trans b13 hg
        have kr := below_trans k3 hg
        have BR := hid b1r
        have r0r := R0.out.below b1r
        have r3r := R3.out.below hg
        go_upto_region 19 with (go_at_call 18; refine (c3 _ r0r).mono ?_; rintro e q4 ⟨rfl, b4⟩)
        have b14 := below_trans b1r b4
        have BB := hid b14
        obtain ⟨-, -, f3, f4, f5⟩ := CZ.out q4 (below_trans kr b4)
        clear g0 g1 g3 g4 g5
        by_cases hH : H = 0
        · have hHq : (H != 0) = false := by rw [hH]; rfl
          obtain ⟨-, y2, y3, y4⟩ := Hwo.out hH
          by_cases hB : B < 512
          · go_wp2_with fail
            go_ret
            exact ⟨rfl, BB.out⟩
          · have hs1 : IntKind.i64.wrap (B + M) = B + M := by rw [IntKind.wrap_i64]; omega
            have hs2 : IntKind.i64.wrap (O + U) = O + U := by rw [IntKind.wrap_i64]; omega
            by_cases hO1 : O < B + M
            · by_cases hO2 : B < O + U
              · go_wp2_with fail
                go_ret
                exact ⟨rfl, BB.out⟩
              · have heq := Hap.out hH (by omega) (fun z => hO2 z.2)
                simp only [heq] at c5
                go_wp2_with (first
                  | (go_at_call_of 20 v0; refine (c4 _ (R0.out.below b14)).mono ?_; rintro e q5 ⟨v5, rfl, o5, b5⟩; obtain ⟨-, -, u3, u4, u5⟩ := CZ.out q5 (below_trans (below_trans kr b4) b5))
                  | (go_at_call_of 20 v3; refine (c5 _ _ (r3r.below (below_trans b4 b5))).mono ?_; rintro e q6 ⟨v6, rfl, o6, b6⟩; have s5 := (Rd_own o5).1.below b6; have s6 := (Rd_own o6).1)
                  | (go_at_call 12; refine (w_rsame v5 v6 Y Y q6 s5 s6 bY bY).mono ?_; rintro e q7 ⟨rfl, hw⟩; obtain rfl := hw.symm))
                go_ret
                exact ⟨ret_b (by simp), below_trans BB.out (below_trans b5 b6)⟩
            · have heq := Hap.out hH (by omega) (fun z => hO1 z.1)
              simp only [heq] at c5
              go_wp2_with (first
                | (go_at_call_of 20 v0; refine (c4 _ (R0.out.below b14)).mono ?_; rintro e q5 ⟨v5, rfl, o5, b5⟩; obtain ⟨-, -, u3, u4, u5⟩ := CZ.out q5 (below_trans (below_trans kr b4) b5))
                | (go_at_call_of 20 v3; refine (c5 _ _ (r3r.below (below_trans b4 b5))).mono ?_; rintro e q6 ⟨v6, rfl, o6, b6⟩; have s5 := (Rd_own o5).1.below b6; have s6 := (Rd_own o6).1)
                | (go_at_call 12; refine (w_rsame v5 v6 Y Y q6 s5 s6 bY bY).mono ?_; rintro e q7 ⟨rfl, hw⟩; obtain rfl := hw.symm))
              go_ret
              exact ⟨ret_b (by simp), below_trans BB.out (below_trans b5 b6)⟩
        · have hHq : (H != 0) = true := by simpa using hH
          go_wp2_with fail
          go_ret
          exact ⟨rfl, BB.out⟩
  · have hX0 := hnone hG
    subst hX0
    have hGq : (G != 0) = true := by simpa using hG
    clear hput hap hwo hwo1 herr c5
    go_enter Try.func8, Try.ntmps8
    go_upto_region 1 with fail
    (try rw [hW0])
    clear hW0
    go_upto_region 3 with (go_at_call 9; refine (w_alive21 _).mono ?_; rintro e q1 ⟨rfl, k1⟩; obtain ⟨g0, g1, -⟩ := CZ.out q1 k1; have b1 := below_trans BZ k1)
    go_upto_region 4 with (go_at_call 18; refine (c1 _ (R0.out.below b1)).mono ?_; rintro e q2 ⟨rfl, b2⟩)
    have k2 := below_trans k1 b2
    have b12 := below_trans b1 b2
    clear g0 g1
    obtain ⟨g0, g1, -⟩ := CZ.out q2 k2
    go_upto_region 5 with (go_at_call 22; refine (c2 _ (R0.out.below b12) (R2.out.below b12)).mono ?_; rintro e q3 ⟨v3, rfl, o3, b3⟩)
    have hl3 := rd_len (Rd_own o3).1 uB (P := Try.prog)
    clear g0 g1
    have BB := hid (below_trans b12 b3)
    by_cases hE : E = 0
    · have hEq : (E != 0) = false := by rw [hE]; rfl
      go_wp2_with fail
      go_ret
      exact ⟨rfl, BB.out⟩
    · have hEq : (E != 0) = true := by simpa using hE
      go_wp2_with fail
      go_ret
      exact ⟨rfl, BB.out⟩

set_option maxRecDepth 100000 in
theorem lifted (os : Os) (started : os.Started) (H : Type) (enc : TypeId × Value → H) :
    ReturnsInHanded {} Try.checked os 8 .any (Rows.labelApartSpec.pre6 enc Try.prog Try.f8 Rows.labelApartRow.domain false) (Rows.labelApartSpec.post enc Try.prog Try.f8 false true false false) := by
  refine returnsInHanded_of_change_sized (C := Try.checked) own started (by kernel_rfl) Try.func8
    (ChangeSpec.witness6 (enc := enc) (C := Try.checked) false ⟨#[], #[.slice none 0 0, .agg #[.string ⟨#[]⟩, .int .i64 0, .int .i64 0, .string ⟨#[]⟩, .int .i64 0, .int .i64 0], .slice none 0 0], []⟩ 8 (by kernel_rfl) (by kernel_rfl) (by kernel_rfl) (by kernel_rfl)) ?_
  intro W base args ds gs before hval0 hW hcnd hsz0 _
  have hval : ∀ (j : Nat) t v, Try.f8.params[j]? = some t → args[j]? = some v → Value.okWide Try.prog W .any base t v := hval0
  have hsz : (DataW.weightsEach Try.prog (Try.f8.params.toList ++ Rows.labelApartSpec.plain.varTypes Try.prog) (ds ++ gs)).all (· ≤ reachBytes) = true := hsz0
  have hW' := hW
  obtain ⟨p, q, hA0, hV, rfl, hfz, hnd⟩ := hW
  have hA : DataW.TrodAll enc Try.prog W 0 (fun _ => true) true Try.f8.params.toList args.toList ds p := hA0
  rw [Try.params8] at hA hval hsz
  obtain ⟨v0, vs0, d0, ds0, p0, q0, hargs, rfl, rfl, h0, r0⟩ := trodAll_cons hA
  obtain ⟨v1, vs1, d1, ds1, p1, q1, rfl, rfl, rfl, h1, r1⟩ := trodAll_cons r0
  obtain ⟨v2, vs2, d2, ds2, p2, q2, rfl, rfl, rfl, h2, r2⟩ := trodAll_cons r1
  obtain ⟨rfl, rfl, rfl⟩ := trodAll_nil r2
  obtain rfl : args = #[v0, v1, v2] := by cases args; simp_all
  obtain ⟨rfl, rfl⟩ := trodVars_none hV
  obtain ⟨s0, l0, c0, rfl⟩ := okWide_slice Try.underlying27 (hval 0 27 v0 rfl rfl)
  have k0 := h0
  have lt0 : ∀ x ∈ p0, x.block < W.heap.size := by obtain ⟨m, hm⟩ := k0; exact DataW.trod_lt m _ _ _ hm
  obtain ⟨x0, r100, f0, hd0⟩ := rd_open (k := .u8) Try.underlying27 Try.underlying5 (by kernel_rfl) h0
  have z0 : x0.length * 1 ≤ 140737488351232 := by
    rcases hd0 with rfl | ⟨ys, zs, rfl, hle⟩
    · simp
    · have := sized_slice hsz (j := 0) (t := 27) (e := 5) rfl rfl Try.underlying27
      rw [bytes5] at this
      unfold reachBytes at this
      omega
  have k1 := h1
  have lt1 : ∀ x ∈ p1, x.block < W.heap.size := by obtain ⟨m, hm⟩ := k1; exact DataW.trod_lt m _ _ _ hm
  obtain ⟨qs1_0, qa1_0, qn1_0, qs1_1, qa1_1, qn1_1, rfl, wq1_0, wq1_1⟩ := asks_open (hval 1 49 v1 rfl rfl) h1 (fun n hn => by simpa using List.all_eq_true.1 hsz n (DataW.weights_mem_each (j := 1) (t := 49) (d := d1) rfl rfl n hn))
  obtain ⟨s2, l2, c2, rfl⟩ := okWide_slice Try.underlying27 (hval 2 27 v2 rfl rfl)
  have k2 := h2
  have lt2 : ∀ x ∈ p2, x.block < W.heap.size := by obtain ⟨m, hm⟩ := k2; exact DataW.trod_lt m _ _ _ hm
  obtain ⟨x2, r102, f2, hd2⟩ := rd_open (k := .u8) Try.underlying27 Try.underlying5 (by kernel_rfl) h2
  have z2 : x2.length * 1 ≤ 140737488351232 := by
    rcases hd2 with rfl | ⟨ys, zs, rfl, hle⟩
    · simp
    · have := sized_slice hsz (j := 2) (t := 27) (e := 5) rfl rfl Try.underlying27
      rw [bytes5] at this
      unfold reachBytes at this
      omega
  clear hA0 hval0 hsz0
  refine (walk (.slice s0 l0 c0) x0 qs1_0 qs1_1 qa1_0 qn1_0 qa1_1 qn1_1 (.slice s2 l2 c2) x2 W r100 f0 z0 wq1_0 wq1_1 r102 f2 z2).mono fun e W' ⟨he, bel⟩ => ?_
  subst he
  exact ⟨_, rfl, _, _, _, [], _, [], hW', trodAll_mk1 (shut_bool Try.underlying4 _), (trodAll_cons_mk (Below.trod laidOut (by kernel_rfl) (of_decide_eq_true (by kernel_rfl)) k0 bel lt0) (trodAll_cons_mk (Below.trod laidOut (by kernel_rfl) (of_decide_eq_true (by kernel_rfl)) k1 bel lt1) (trodAll_cons_mk (Below.trod laidOut (by kernel_rfl) (of_decide_eq_true (by kernel_rfl)) k2 bel lt2) trodAll_mk0))), rfl, bel.frame _, fun h => by cases h⟩

theorem over : Rows.labelApartRow.holds Try.pinned (OpenSpec.ofChange Rows.labelApartSpec) :=
  OpenClaim.holds_of_wide 8 Try.f8 rfl rfl rfl rfl rfl rfl rfl ⟨rfl, rfl, rfl, rfl, rfl⟩ rfl rfl rfl rfl rfl (by kernel_rfl) Try.func8 (by kernel_rfl)
    (of_decide_eq_true (by kernel_rfl)) (by unfold Func.isWrapper; first | (rw [if_pos (by decide +kernel)]; kernel_rfl) | (rw [if_neg (by decide +kernel)]; exact ⟨rfl, rfl⟩))
    (fun os started H enc _ => lifted os started H enc)
end Go.Proofs.Ytnaoefjcfmdenaa.labelApart
namespace Go.Proofs.Ytnaoefjcfmdenaa
theorem labelApart_holds : Rows.LabelApartSaid := labelApart.over
#print axioms labelApart_holds
end Go.Proofs.Ytnaoefjcfmdenaa
