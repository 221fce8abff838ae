/-
  MemKeeps: for every memory, address, size and number, what the program stored is fetched, and no other place is changed: the law returns true. No conditions.
-/
import Derived.Test.YtdhhmldcablbgaaRows
import Derived.WalkKit
import Derived.ProofKit
import Derived.OpenShut
import Derived.ShutString
import Derived.ChangeOld
import Derived.Below
import Derived.Carry
import Derived.SizedLaws
import Derived.Test.YtdhhmldcablbgaaSl
import Derived.Test.YtdhhmldcablbgaaArr
import Derived.Test.YtdhhmldcablbgaaMal
import Derived.Test.YtdhhmldcablbgaaPmn
namespace Go.Proofs.Ytdhhmldcablbgaa.memKeeps
open Go.ChangeShapes Go.WideShapes Go.ChangeAt Go.RowKit
open Go.ChangeMaps (open_string shut_string)
set_option linter.unusedVariables false

theorem own : ownKnob Try.prog.godebug = none := by kernel_rfl
theorem laidOut : laidOutB Try.prog = true := by kernel_rfl
theorem cells23 : Try.prog.cellsOf 23 = 1 := by kernel_rfl
theorem cells24 : Try.prog.cellsOf 24 = 2 := by kernel_rfl
theorem bytes5 : Try.prog.bytesOf 5 = 1 := by kernel_rfl

set_option maxHeartbeats 4000000 in
set_option maxRecDepth 100000 in
theorem walk (v0 : Value) (x0 : List Int) (a1_0 a1_1 : Int) (a2 : Int) (w : World) (r0 : Rd .u8 w v0 x0) (f0 : ∀ n ∈ x0, (Lit.int .u8 n).wf = true) (z0 : x0.length * 1 ≤ 140737488351232) (w1_0 : (Lit.int .u32 a1_0).wf = true) (w1_1 : (Lit.int .u32 a1_1).wf = true) (w2 : (Lit.int .u32 a2).wf = true) :
    Calls Try.prog 8 #[v0, .agg #[.int .u32 a1_0, .int .u32 a1_1], .int .u32 a2] w fun e w' => e = .returned (.bool true) ∧ Below w.heap.size w w' := by
  have hB := wf_u8 f0
  obtain ⟨p0, p1⟩ := wf_c w1_0
  obtain ⟨q0, q1⟩ := wf_c w1_1
  obtain ⟨s0, s1⟩ := wf_c w2
  have hz : x0.length ≤ 140737488355328 := by omega
  have hSB := sto_bytes hB a1_0 a1_1 a2
  have hlen := rd_len r0 uB (P := Try.prog)
  have BZ := box_below w (.cells #[.int .u32 a1_0, .int .u32 a1_1] 24)
  by_cases hw : wrongF x0.length a1_0 a1_1 = 0
  · obtain ⟨X, e, hXl, hf, hout⟩ := sto_ok x0 a1_0 a1_1 a2 p0 s0 s1 hw
    obtain ⟨hs, hm, hl, hr⟩ := wrong_ok hw
    have m1 : ∀ w, Rd .u8 w v0 x0 → Calls Try.prog 13 #[v0, .int .u32 a1_0, .int .u32 a1_1, .int .u32 a2] w fun e w' => ∃ v1, e = .returned (.tuple #[v1, .int .i64 0]) ∧ Rd .u8 w' v1 X ∧ Below w.heap.size w w' := fun w h => by
      have := w_mstore v0 x0 a1_0 a1_1 a2 w h hB hz p0 p1 q0 q1 s0 s1
      rw [e] at this
      exact this
    rw [e] at hSB
    have hXB : bytesL X := hSB
    have m2 : ∀ w v, Rd .u8 w v X → Calls Try.prog 11 #[v, .int .u32 a1_0, .int .u32 a1_1] w fun e w' => e = .returned (.tuple #[.int .u32 (a2 % 256 ^ a1_1.toNat), .int .i64 0]) ∧ Below w.heap.size w w' := fun w v h => by
      have := w_mfetch v X a1_0 a1_1 w h hXB (by omega) p0 p1 q0 q1
      rw [hf] at this
      exact this
    have HO := hid hout
    have HXB := hid hXB
    have hXI : (X.length : Int) = x0.length := by omega
    clear e hf hSB hout hw hm hXl
    rcases hs with rfl | rfl | rfl
    · have m3 : ∀ w v, Rd .u8 w v X → Calls Try.prog 11 #[v, .int .u32 a1_0, .int .u32 1] w fun e w' => e = .returned (.tuple #[.int .u32 (a2 % 256), .int .i64 0]) ∧ Below w.heap.size w w' := fun w v h => by
        have := m2 w v h
        rw [show a2 % 256 ^ (1 : Int).toNat = a2 % 256 by rw [show (256 : Int) ^ (1 : Int).toNat = 256 from rfl]] at this
        exact this
      have hm : a2.tmod 256 = a2 % 256 := Int.tmod_eq_emod_of_nonneg s0
      clear m2
      have cZ0 := box_cell w #[.int .u32 a1_0, .int .u32 1] 24 0 (.int .u32 a1_0) rfl
      have cZ1 := box_cell w #[.int .u32 a1_0, .int .u32 1] 24 1 (.int .u32 1) rfl
      go_enter Try.func8, Try.ntmps8
      go_wp2_with (first
        | (go_at_call 9; refine (w_alive _).mono ?_; rintro e wa ⟨rfl, ba⟩; have BA := below_trans BZ ba; have cA0 := below_cell ba cZ0; have cA1 := below_cell ba cZ1)
        | (go_at_call 13; refine (m1 _ (r0.below BA)).mono ?_; rintro e wb ⟨u1, rfl, ru1, bb⟩; have BB := below_trans BA bb; have ulen := rd_len ru1 uB (P := Try.prog); rw [hXI] at ulen; have cB0 := below_cell bb cA0; have cB1 := below_cell bb cA1)
        | (go_at_call 11; refine (m3 _ _ ru1).mono ?_; rintro e wc ⟨rfl, bc⟩; have BC := below_trans BB bc; have ru2 := ru1.below bc; have cC0 := below_cell bc cB0; have cC1 := below_cell bc cB1))
      go_loopw [12] (fun I wx => ∃ k : Nat, (k : Int) ≤ x0.length ∧ I = .int .i64 k ∧ Below wc.heap.size wc wx) (fun I _ => (x0.length - intOf I).toNat)
      case atStart => exact ⟨0, by omega, rfl, Below.refl _ _⟩
      case round =>
        obtain ⟨k, hk, rfl, bk⟩ := hrel
        have cK0 := below_cell bk cC0
        have cK1 := below_cell bk cC1
        by_cases hlt : (k : Int) < x0.length
        · obtain ⟨ad0, x, t0, d0, l0, u0, g0⟩ := mem_at (ru2.below bk) HXB.out (k : Int) (by omega) (by omega)
          obtain ⟨ad1, y, t1, d1, l1, g2, g1⟩ := mem_at (r0.below (below_trans BC bk)) hB (k : Int) (by omega) (by omega)
          by_cases hxy : x = y
          · have hb : (x != y) = false := by simp [hxy]
            clear g0 g1 hxy
            go_wp2_with fail
            go_quiet (fail)
            go_wp2_with fail
            go_roundw
            case rel => exact ⟨k + 1, by omega, by go_num, below_drewN bk _⟩
            case measure => simp [intOf]; omega
          · have hb : (x != y) = true := by simp [hxy]
            have hk2 : a1_0 ≤ k ∧ (k : Int) < a1_0 + 1 := by
              rcases Int.lt_or_le (k : Int) a1_0 with h | h
              · exact absurd (by rw [← g0, ← g1]; exact HO.out k (Or.inl h)) hxy
              · rcases Int.lt_or_le (k : Int) (a1_0 + 1) with h2 | h2
                · exact ⟨h, h2⟩
                · exact absurd (by rw [← g0, ← g1]; exact HO.out k (Or.inr h2)) hxy
            obtain ⟨k1, k2⟩ := hk2
            have hd1 : decide ((k : Int) < a1_0) = false := by simp; omega
            have hd2 : decide ((1 : Int) ≤ (k : Int) - a1_0) = false := by simp; omega
            have hw3 : IntKind.i64.wrap ((k : Int) - a1_0) = (k : Int) - a1_0 := by rw [IntKind.wrap_i64]; omega
            clear g0 g1 hxy
            go_wp2_with fail
            go_quiet (fail)
            go_wp2_with fail
            go_roundw
            case rel => exact ⟨k + 1, by omega, by go_num, below_drewN bk _⟩
            case measure => simp [intOf]; omega
        · go_wp2_with fail
          go_ret
          exact ⟨rfl, below_trans BC bk⟩
    · have m3 : ∀ w v, Rd .u8 w v X → Calls Try.prog 11 #[v, .int .u32 a1_0, .int .u32 2] w fun e w' => e = .returned (.tuple #[.int .u32 (a2 % 65536), .int .i64 0]) ∧ Below w.heap.size w w' := fun w v h => by
        have := m2 w v h
        rw [show a2 % 256 ^ (2 : Int).toNat = a2 % 65536 by rw [show (256 : Int) ^ (2 : Int).toNat = 65536 from rfl]] at this
        exact this
      have hm : a2.tmod 65536 = a2 % 65536 := Int.tmod_eq_emod_of_nonneg s0
      clear m2
      have cZ0 := box_cell w #[.int .u32 a1_0, .int .u32 2] 24 0 (.int .u32 a1_0) rfl
      have cZ1 := box_cell w #[.int .u32 a1_0, .int .u32 2] 24 1 (.int .u32 2) rfl
      go_enter Try.func8, Try.ntmps8
      go_wp2_with (first
        | (go_at_call 9; refine (w_alive _).mono ?_; rintro e wa ⟨rfl, ba⟩; have BA := below_trans BZ ba; have cA0 := below_cell ba cZ0; have cA1 := below_cell ba cZ1)
        | (go_at_call 13; refine (m1 _ (r0.below BA)).mono ?_; rintro e wb ⟨u1, rfl, ru1, bb⟩; have BB := below_trans BA bb; have ulen := rd_len ru1 uB (P := Try.prog); rw [hXI] at ulen; have cB0 := below_cell bb cA0; have cB1 := below_cell bb cA1)
        | (go_at_call 11; refine (m3 _ _ ru1).mono ?_; rintro e wc ⟨rfl, bc⟩; have BC := below_trans BB bc; have ru2 := ru1.below bc; have cC0 := below_cell bc cB0; have cC1 := below_cell bc cB1))
      go_loopw [12] (fun I wx => ∃ k : Nat, (k : Int) ≤ x0.length ∧ I = .int .i64 k ∧ Below wc.heap.size wc wx) (fun I _ => (x0.length - intOf I).toNat)
      case atStart => exact ⟨0, by omega, rfl, Below.refl _ _⟩
      case round =>
        obtain ⟨k, hk, rfl, bk⟩ := hrel
        have cK0 := below_cell bk cC0
        have cK1 := below_cell bk cC1
        by_cases hlt : (k : Int) < x0.length
        · obtain ⟨ad0, x, t0, d0, l0, u0, g0⟩ := mem_at (ru2.below bk) HXB.out (k : Int) (by omega) (by omega)
          obtain ⟨ad1, y, t1, d1, l1, g2, g1⟩ := mem_at (r0.below (below_trans BC bk)) hB (k : Int) (by omega) (by omega)
          by_cases hxy : x = y
          · have hb : (x != y) = false := by simp [hxy]
            clear g0 g1 hxy
            go_wp2_with fail
            go_quiet (fail)
            go_wp2_with fail
            go_roundw
            case rel => exact ⟨k + 1, by omega, by go_num, below_drewN bk _⟩
            case measure => simp [intOf]; omega
          · have hb : (x != y) = true := by simp [hxy]
            have hk2 : a1_0 ≤ k ∧ (k : Int) < a1_0 + 2 := by
              rcases Int.lt_or_le (k : Int) a1_0 with h | h
              · exact absurd (by rw [← g0, ← g1]; exact HO.out k (Or.inl h)) hxy
              · rcases Int.lt_or_le (k : Int) (a1_0 + 2) with h2 | h2
                · exact ⟨h, h2⟩
                · exact absurd (by rw [← g0, ← g1]; exact HO.out k (Or.inr h2)) hxy
            obtain ⟨k1, k2⟩ := hk2
            have hd1 : decide ((k : Int) < a1_0) = false := by simp; omega
            have hd2 : decide ((2 : Int) ≤ (k : Int) - a1_0) = false := by simp; omega
            have hw3 : IntKind.i64.wrap ((k : Int) - a1_0) = (k : Int) - a1_0 := by rw [IntKind.wrap_i64]; omega
            clear g0 g1 hxy
            go_wp2_with fail
            go_quiet (fail)
            go_wp2_with fail
            go_roundw
            case rel => exact ⟨k + 1, by omega, by go_num, below_drewN bk _⟩
            case measure => simp [intOf]; omega
        · go_wp2_with fail
          go_ret
          exact ⟨rfl, below_trans BC bk⟩
    · have m3 : ∀ w v, Rd .u8 w v X → Calls Try.prog 11 #[v, .int .u32 a1_0, .int .u32 4] w fun e w' => e = .returned (.tuple #[.int .u32 (a2), .int .i64 0]) ∧ Below w.heap.size w w' := fun w v h => by
        have := m2 w v h
        rw [show a2 % 256 ^ (4 : Int).toNat = a2 by rw [show (256 : Int) ^ (4 : Int).toNat = 4294967296 from rfl]; omega] at this
        exact this
      clear m2
      have cZ0 := box_cell w #[.int .u32 a1_0, .int .u32 4] 24 0 (.int .u32 a1_0) rfl
      have cZ1 := box_cell w #[.int .u32 a1_0, .int .u32 4] 24 1 (.int .u32 4) rfl
      go_enter Try.func8, Try.ntmps8
      go_wp2_with (first
        | (go_at_call 9; refine (w_alive _).mono ?_; rintro e wa ⟨rfl, ba⟩; have BA := below_trans BZ ba; have cA0 := below_cell ba cZ0; have cA1 := below_cell ba cZ1)
        | (go_at_call 13; refine (m1 _ (r0.below BA)).mono ?_; rintro e wb ⟨u1, rfl, ru1, bb⟩; have BB := below_trans BA bb; have ulen := rd_len ru1 uB (P := Try.prog); rw [hXI] at ulen; have cB0 := below_cell bb cA0; have cB1 := below_cell bb cA1)
        | (go_at_call 11; refine (m3 _ _ ru1).mono ?_; rintro e wc ⟨rfl, bc⟩; have BC := below_trans BB bc; have ru2 := ru1.below bc; have cC0 := below_cell bc cB0; have cC1 := below_cell bc cB1))
      go_loopw [12] (fun I wx => ∃ k : Nat, (k : Int) ≤ x0.length ∧ I = .int .i64 k ∧ Below wc.heap.size wc wx) (fun I _ => (x0.length - intOf I).toNat)
      case atStart => exact ⟨0, by omega, rfl, Below.refl _ _⟩
      case round =>
        obtain ⟨k, hk, rfl, bk⟩ := hrel
        have cK0 := below_cell bk cC0
        have cK1 := below_cell bk cC1
        by_cases hlt : (k : Int) < x0.length
        · obtain ⟨ad0, x, t0, d0, l0, u0, g0⟩ := mem_at (ru2.below bk) HXB.out (k : Int) (by omega) (by omega)
          obtain ⟨ad1, y, t1, d1, l1, g2, g1⟩ := mem_at (r0.below (below_trans BC bk)) hB (k : Int) (by omega) (by omega)
          by_cases hxy : x = y
          · have hb : (x != y) = false := by simp [hxy]
            clear g0 g1 hxy
            go_wp2_with fail
            go_quiet (fail)
            go_wp2_with fail
            go_roundw
            case rel => exact ⟨k + 1, by omega, by go_num, below_drewN bk _⟩
            case measure => simp [intOf]; omega
          · have hb : (x != y) = true := by simp [hxy]
            have hk2 : a1_0 ≤ k ∧ (k : Int) < a1_0 + 4 := by
              rcases Int.lt_or_le (k : Int) a1_0 with h | h
              · exact absurd (by rw [← g0, ← g1]; exact HO.out k (Or.inl h)) hxy
              · rcases Int.lt_or_le (k : Int) (a1_0 + 4) with h2 | h2
                · exact ⟨h, h2⟩
                · exact absurd (by rw [← g0, ← g1]; exact HO.out k (Or.inr h2)) hxy
            obtain ⟨k1, k2⟩ := hk2
            have hd1 : decide ((k : Int) < a1_0) = false := by simp; omega
            have hd2 : decide ((4 : Int) ≤ (k : Int) - a1_0) = false := by simp; omega
            have hw3 : IntKind.i64.wrap ((k : Int) - a1_0) = (k : Int) - a1_0 := by rw [IntKind.wrap_i64]; omega
            clear g0 g1 hxy
            go_wp2_with fail
            go_quiet (fail)
            go_wp2_with fail
            go_roundw
            case rel => exact ⟨k + 1, by omega, by go_num, below_drewN bk _⟩
            case measure => simp [intOf]; omega
        · go_wp2_with fail
          go_ret
          exact ⟨rfl, below_trans BC bk⟩
  · obtain ⟨E, hE⟩ : ∃ E, wrongF x0.length a1_0 a1_1 = E := ⟨_, rfl⟩
    have m1 : ∀ w, Rd .u8 w v0 x0 → Calls Try.prog 13 #[v0, .int .u32 a1_0, .int .u32 a1_1, .int .u32 a2] w fun e w' => ∃ v1, e = .returned (.tuple #[v1, .int .i64 E]) ∧ Rd .u8 w' v1 [] ∧ Below w.heap.size w w' := fun w h => by
      have := w_mstore v0 x0 a1_0 a1_1 a2 w h hB hz p0 p1 q0 q1 s0 s1
      have e : stoF x0 a1_0 a1_1 a2 = ([], E) := by unfold stoF; rw [if_neg hw, hE]
      rw [e] at this
      exact this
    have hEb : (E != 0) = true := by rw [← hE]; simpa using hw
    clear hE hw hSB
    have cZ0 := box_cell w #[.int .u32 a1_0, .int .u32 a1_1] 24 0 (.int .u32 a1_0) rfl
    have cZ1 := box_cell w #[.int .u32 a1_0, .int .u32 a1_1] 24 1 (.int .u32 a1_1) rfl
    go_enter Try.func8, Try.ntmps8
    go_wp2_with (first
      | (go_at_call 9; refine (w_alive _).mono ?_; rintro e wa ⟨rfl, ba⟩; have BA := below_trans BZ ba; have cA0 := below_cell ba cZ0; have cA1 := below_cell ba cZ1)
      | (go_at_call 13; refine (m1 _ (r0.below BA)).mono ?_; rintro e wb ⟨u1, rfl, ru1, bb⟩; have ulen := rd_len ru1 uB (P := Try.prog)))
    go_ret
    exact ⟨rfl, below_trans BA bb⟩

set_option maxRecDepth 100000 in
theorem lifted (os : Os) (started : os.Started) (H : Type) (enc : TypeId × Value → H) :
    ReturnsInHanded {} Try.checked os 8 .any (Rows.memKeepsSpec.pre6 enc Try.prog Try.f8 Rows.memKeepsRow.domain false) (Rows.memKeepsSpec.post enc Try.prog Try.f8 false true false false) := by
  refine returnsInHanded_of_change_sized (C := Try.checked) own started (by kernel_rfl) Try.func8
    (ChangeSpec.witness6 (enc := enc) (C := Try.checked) false ⟨#[], #[.slice none 0 0, .agg #[.int .u32 0, .int .u32 0], .int .u32 0], []⟩ 8 (by kernel_rfl) (by kernel_rfl) (by kernel_rfl) (by kernel_rfl)) ?_
  intro W base args ds gs before hval0 hW hcnd hsz0 _
  have hval : ∀ (j : Nat) t v, Try.f8.params[j]? = some t → args[j]? = some v → Value.okWide Try.prog W .any base t v := hval0
  have hsz : (DataW.weightsEach Try.prog (Try.f8.params.toList ++ Rows.memKeepsSpec.plain.varTypes Try.prog) (ds ++ gs)).all (· ≤ reachBytes) = true := hsz0
  have hW' := hW
  obtain ⟨p, q, hA0, hV, rfl, hfz, hnd⟩ := hW
  have hA : DataW.TrodAll enc Try.prog W 0 (fun _ => true) true Try.f8.params.toList args.toList ds p := hA0
  rw [Try.params8] at hA hval hsz
  obtain ⟨v0, vs0, d0, ds0, p0, q0, hargs, rfl, rfl, h0, r0⟩ := trodAll_cons hA
  obtain ⟨v1, vs1, d1, ds1, p1, q1, rfl, rfl, rfl, h1, r1⟩ := trodAll_cons r0
  obtain ⟨v2, vs2, d2, ds2, p2, q2, rfl, rfl, rfl, h2, r2⟩ := trodAll_cons r1
  obtain ⟨rfl, rfl, rfl⟩ := trodAll_nil r2
  obtain rfl : args = #[v0, v1, v2] := by cases args; simp_all
  obtain ⟨rfl, rfl⟩ := trodVars_none hV
  obtain ⟨s0, l0, c0, rfl⟩ := okWide_slice Try.underlying22 (hval 0 22 v0 rfl rfl)
  have k0 := h0
  have lt0 : ∀ x ∈ p0, x.block < W.heap.size := by obtain ⟨m, hm⟩ := k0; exact DataW.trod_lt m _ _ _ hm
  obtain ⟨x0, r100, f0, hd0⟩ := rd_open (k := .u8) Try.underlying22 Try.underlying5 (by kernel_rfl) h0
  have z0 : x0.length * 1 ≤ 140737488351232 := by
    rcases hd0 with rfl | ⟨ys, zs, rfl, hle⟩
    · simp
    · have := sized_slice hsz (j := 0) (t := 22) (e := 5) rfl rfl Try.underlying22
      rw [bytes5] at this
      unfold reachBytes at this
      omega
  obtain ⟨a1_0, a1_1, rfl, rfl, rfl, w1_0, w1_1⟩ := open_arr2 Try.underlying24 Try.underlying23 cells23 cells24 (hval 1 24 v1 rfl rfl) h1
  obtain ⟨a2, rfl, rfl, rfl, w2⟩ := open_int Try.underlying23 (hval 2 23 v2 rfl rfl) h2
  clear hA0 hval0 hsz0
  refine (walk (.slice s0 l0 c0) x0 a1_0 a1_1 a2 W r100 f0 z0 w1_0 w1_1 w2).mono fun e W' ⟨he, bel⟩ => ?_
  subst he
  exact ⟨_, rfl, _, _, _, [], _, [], hW', trodAll_mk1 (shut_bool Try.underlying4 _), (trodAll_cons_mk (Below.trod laidOut (by kernel_rfl) (of_decide_eq_true (by kernel_rfl)) k0 bel lt0) (trodAll_cons_mk (shut_arr2 Try.underlying24 Try.underlying23 cells23 cells24 w1_0 w1_1) (trodAll_cons_mk (shut_int Try.underlying23 w2) trodAll_mk0))), rfl, bel.frame _, fun h => by cases h⟩

theorem over : Rows.memKeepsRow.holds Try.pinned (OpenSpec.ofChange Rows.memKeepsSpec) :=
  OpenClaim.holds_of_wide 8 Try.f8 rfl rfl rfl rfl rfl rfl rfl ⟨rfl, rfl, rfl, rfl, rfl⟩ rfl rfl rfl rfl rfl (by kernel_rfl) Try.func8 (by kernel_rfl)
    (of_decide_eq_true (by kernel_rfl)) (by unfold Func.isWrapper; first | (rw [if_pos (by decide +kernel)]; kernel_rfl) | (rw [if_neg (by decide +kernel)]; exact ⟨rfl, rfl⟩))
    (fun os started H enc _ => lifted os started H enc)
end Go.Proofs.Ytdhhmldcablbgaa.memKeeps
namespace Go.Proofs.Ytdhhmldcablbgaa
theorem memKeeps_holds : Rows.MemKeepsSaid := memKeeps.over
#print axioms memKeeps_holds
end Go.Proofs.Ytdhhmldcablbgaa
