/-
  Texts of one proof, laid one behind the other: Bth Tro Bdp.
-/
import Derived.Test.YtcffaojpmdhdoaaB3
import Derived.Test.YtcffaojpmdhdoaaRows
import Derived.SizedLaws
import Derived.ChangeSame
import Derived.OneCell
namespace Go.Proofs.Ytcffaojpmdhdoaa
open Go.ChangeShapes Go.WideShapes Go.ChangeAt Go.RowKit
set_option linter.unusedVariables false
set_option linter.unusedSimpArgs false

/-
  The law BlockThrough.
-/
theorem ovl_rd {x0 : List Int} (l1 : x0.length % 512 = 0) (l2 : x0.length ≤ 32768) (A : Nat) (x2 : List Int) (k : Nat) (hin : 512 * k + 512 ≤ x0.length) : dkRd (ovl x0 A x2 k) k = (((ovl x0 A x2 k).drop (512 * k)).take 512, 0) := by
  unfold dkRd dkB dkN
  rw [ovl_len, decide_eq_true l1, decide_eq_true l2, decide_eq_true (by omega)]
  simp only [Bool.and_self, if_true]
  congr 3
theorem ovl_wr {x0 : List Int} (l1 : x0.length % 512 = 0) (l2 : x0.length ≤ 32768) (A : Nat) (x2 : List Int) (k : Nat) (hin : 512 * k + 512 ≤ x0.length) (b : List Int) (hb : b.length = 512) : dkWr (ovl x0 A x2 k) k b = ((ovl x0 A x2 k).take (512 * k) ++ b ++ (ovl x0 A x2 k).drop (512 * k + 512), 0) := by
  unfold dkWr dkB dkN
  rw [ovl_len, decide_eq_true l1, decide_eq_true l2, decide_eq_true hb, decide_eq_true (by omega)]
  simp only [Bool.and_self, if_true]
  congr 3
set_option maxHeartbeats 4000000 in
set_option maxRecDepth 100000 in
theorem w_lawThrough (v0 v2 : Value) (x0 x2 : List Int) (a1 : Int) (w : World) (r0 : Rd .u8 w v0 x0) (r2 : Rd .u8 w v2 x2) (hb0 : bytesL x0) (hbb2 : bytesL x2) (n0 : -9223372036854775808 ≤ a1 ∧ a1 < 9223372036854775808) (zz : x0.length ≤ 140737488351232) :
    Calls Try.prog 6 #[v0, .int .i64 a1, v2] w fun e w' => e = .returned (.bool true) ∧ Below w.heap.size w w' := by
  have c1 := fun w h hb => w_pput20 v0 v2 x0 x2 a1 w h hb zz n0.1 n0.2
  by_cases hok : dkB x0 = true ∧ dkI x0.length a1 x2.length = true
  · obtain ⟨hB, hI⟩ := hok
    obtain ⟨l1, l2⟩ := dk_len hB
    have hI2 := hI
    unfold dkI at hI2
    rw [decide_eq_true_eq] at hI2
    obtain ⟨i1, i2, i3, i4⟩ := hI2
    obtain ⟨A, rfl⟩ : ∃ A : Nat, a1 = A := ⟨a1.toNat, by omega⟩
    have ep : dkPt x0 (A : Int) x2 = (ovl x0 A x2 64, 0) := by
      unfold dkPt
      rw [if_pos hB, if_pos hI, ovl_all _ _ _ _ (by omega) (by omega)]
      rfl
    rw [ep] at c1
    have eP : dkP (A : Int) x2.length = (dkL (A : Int) x2.length 64, 0) := by
      unfold dkP
      rw [if_neg (by omega)]
    have c2 := fun w => w_pplan20 (A : Int) x2.length w n0.1 n0.2 (by omega) (by omega)
    rw [eP] at c2
    have hbd := dkL_bd (A : Int) x2.length 64
    simp only at c1 c2
    have hlb := rd_len r2 uB (P := Try.prog)
    have hO64 : bytesL (ovl x0 A x2 64) := by
      have h1 := dkPt_bytes hb0 hbb2 (A : Int)
      rw [ep] at h1
      exact h1
    clear ep eP hI hB
    have hLg : ∀ (k : Nat), Hid ((dkL (A : Int) x2.length (k + 1)).length = (dkL (A : Int) x2.length k).length + (dkK (A : Int) x2.length k).length) := fun k => by show _ = _; rw [dkL, List.length_append]
    go_enter Try.func6, Try.ntmps6
    go_wp2_with (first
      | (go_at_call 8; refine (w_alive20 _).mono ?_; rintro e q1 ⟨rfl, b1⟩)
      | (go_at_call 21; refine (c1 _ (r0.below b1) (r2.below b1)).mono ?_; rintro e q2 ⟨v3, rfl, o3, b2⟩; have b12 := below_trans b1 b2; have r3 := (Rd_own o3).1)
      | (go_at_call 17; refine (c2 _).mono ?_; rintro e q3 ⟨v4, rfl, r4, b3⟩; have b13 := below_trans b12 b3; have r3' := r3.below b3; have hl4 := slr_len r4 uAc (P := Try.prog)))
    go_loopw [11, 12, 13, 14] (fun V H L I wx => ∃ (k i : Nat) (last : Int) (wo : World), I = .int .i64 i ∧ L = .int .i64 last ∧ k ≤ 64 ∧ Rd .u8 wo V (ovl x0 A x2 k) ∧ Below q3.heap.size q3 wo ∧ Below wo.heap.size wo wx ∧ ((i = (dkL (A : Int) x2.length k).length ∧ last < k) ∨ (k < 64 ∧ i = (dkL (A : Int) x2.length k).length + 1 ∧ dkK (A : Int) x2.length k = [(false, (k : Int)), (true, (k : Int))] ∧ last = k ∧ Own8 wo.heap.size wx H (((ovl x0 A x2 k).drop (512 * k)).take 512)))) (fun V H L I _ => ((dkL (A : Int) x2.length 64).length - intOf I).toNat)
    case atStart => exact ⟨0, 0, -1, q3, rfl, rfl, by omega, (by rw [ovl_0]; exact r0.below b13), Below.refl _ _, Below.refl _ _, Or.inl ⟨rfl, by decide⟩⟩
    case round =>
      obtain ⟨k, i, last, wo, rfl, rfl, hk64, rV, bwo, bwr, hst⟩ := hrel
      by_cases hlt : (i : Int) < (dkL (A : Int) x2.length 64).length
      · rcases hst with ⟨hi, hla⟩ | ⟨hk, hi, hKe, rfl, oH⟩
        · obtain ⟨k', h1, h2, h3, h4, h5⟩ := dk_next x0 A x2 i (64 - k) k (by omega) (hi.symm) (by omega)
          have hin := dk_in l1 (show A + x2.length ≤ x0.length by omega) h4
          have cRd : dkRd (ovl x0 A x2 k') k' = (((ovl x0 A x2 k').drop (512 * k')).take 512, 0) := ovl_rd l1 l2 A x2 k' hin
          have cWr : ∀ b : List Int, b.length = 512 → dkWr (ovl x0 A x2 k') k' b = ((ovl x0 A x2 k').take (512 * k') ++ b ++ (ovl x0 A x2 k').drop (512 * k' + 512), 0) := fun b hb => ovl_wr l1 l2 A x2 k' hin b hb
          have hne : ((last : Int) != (k' : Int)) = true := by simp; omega
          have hKl := (hLg k').out
          rw [← h5] at rV
          rcases dkK_cases (A : Int) x2.length k' with ⟨e, hc⟩ | ⟨e, hc1, hc2, hc3⟩ | ⟨e, hc1, hc2, hc3⟩
          · exact absurd e h4
          · obtain ⟨zb, zo, W1, S1, z1, z2, z3, z4⟩ := ac_at (r4.below (below_trans bwo bwr) acR_below) i (by omega)
            have z5 := dk_at (A : Int) x2.length k' h2 0 (by rw [e]; simp)
            rw [e, Nat.add_zero, h3, List.getElem?_eq_getElem (by omega), z4] at z5
            simp only [List.getElem?_cons_zero, Option.some.injEq, Prod.mk.injEq] at z5
            obtain ⟨rfl, rfl⟩ := z5
            have cR := fun v w h => w_pread20 v (ovl x0 A x2 k') k' w h (by rw [ovl_len]; omega) (by omega) (by omega)
            rw [cRd] at cR
            simp only at cR
            clear z4 cRd cWr hLg hne h5 hi
            go_wp2_with (go_at_call 10; refine (cR _ _ (rV.below bwr)).mono ?_; rintro e w9 ⟨v9, rfl, o9, b9⟩)
            go_roundw
            case rel => exact ⟨k', i + 1, (k' : Int), wr, by go_num, rfl, by omega, rV.below bwr, below_trans bwo bwr, b9, Or.inr ⟨h2, by omega, e, rfl, o9⟩⟩
            case measure => simp [intOf]; omega
          · obtain ⟨zb, zo, W1, S1, z1, z2, z3, z4⟩ := ac_at (r4.below (below_trans bwo bwr) acR_below) i (by omega)
            have z5 := dk_at (A : Int) x2.length k' h2 0 (by rw [e]; simp)
            rw [e, Nat.add_zero, h3, List.getElem?_eq_getElem (by omega), z4] at z5
            simp only [List.getElem?_cons_zero, Option.some.injEq, Prod.mk.injEq] at z5
            obtain ⟨rfl, rfl⟩ := z5
            rw [e] at hKl
            simp only [List.length_cons, List.length_nil] at hKl
            have HKl := hid hKl
            have hnl : Hid (last < (k' : Int)) := hid (by omega)
            have hi2 : Hid (i = (dkL (A : Int) x2.length k').length) := h3.symm
            have rV2 := rV.below bwr
            have bq := below_trans bwo bwr
            clear rV
            have rV := rV2
            clear rV2 bwo bwr z4 cRd cWr hLg h5 hi h3 h1 hKl e h4 hla
            obtain ⟨wb, hwb⟩ : ∃ wb, wb = wr := ⟨_, rfl⟩
            subst hwb
            clear hk64 k
            obtain ⟨k, hkk⟩ : ∃ k, k = k' := ⟨_, rfl⟩
            subst hkk
            have hmk : ∀ w, (Instr.makeSlice 22 (.int .i64 512) (.int .i64 512)).run Try.prog w = .ok (.slice (some ⟨w.heap.size, 0, none⟩) 512 512) (w.alloc (.cells (madeCells #[.int .u8 0] 512) 5)) := fun w => mk_zero 512 512 rfl (by decide) w
            have o0 := own_zero 512 (by decide) wb
            have bz := box_below wb (.cells (madeCells #[.int .u8 0] 512) 5)
            have hzl : (List.replicate 512 (0 : Int)).length = 512 := List.length_replicate ..
            obtain ⟨Z, hZ⟩ : ∃ Z, List.replicate 512 (0 : Int) = Z := ⟨_, rfl⟩
            rw [hZ] at o0 hzl
            have HZ := hid hzl
            clear hZ hzl
            go_upto_region 23 with fail
            generalize (wb.alloc (Obj.cells (madeCells #[Value.int IntKind.u8 0] 512) 5)) = ws at o0 bz ⊢
            clear hmk
            have hstp := ovl_step x0 A x2 k Z hin (Or.inr ⟨by omega, by omega⟩)
            have hKlen : (ovs Z A x2 k 512).length = 512 := ovs_len _ _ _ _ _
            have cW := fun v vb w h hb => w_pwrite20 v vb (ovl x0 A x2 k) (ovs Z A x2 k 512) k w h hb (by rw [ovl_len]; omega) (by omega) (by omega)
            rw [ovl_wr l1 l2 A x2 k hin _ hKlen, hstp] at cW
            have hO0 := ovs_0 Z A x2 k HZ.out
            have hOs := fun p hp => ovs_step Z A x2 k p hp
            have hOl := fun p => ovs_len Z A x2 k p
            clear hstp hKlen
            simp only at cW
            obtain ⟨F, hF⟩ : ∃ F : Nat → List Int, (fun p => ovs Z A x2 k p) = F := ⟨_, rfl⟩
            have hF2 : ∀ p, ovs Z A x2 k p = F p := fun p => by rw [← hF]
            simp only [hF2] at cW hO0 hOs hOl
            have HO0 := hid hO0
            have HOs : ∀ p, p < 512 → Hid (F (p + 1) = if A ≤ 512 * k + p ∧ 512 * k + p < A + x2.length then (F p).set p (x2.getD (512 * k + p - A) 0) else F p) := fun p hp => hOs p hp
            have HOl : ∀ p, Hid ((F p).length = 512) := fun p => hOl p
            clear hF hF2 hO0 hOs hOl hc1 hc2 hc3
            go_wp2_with fail
            go_loopw [16] (fun P wx => ∃ p : Nat, p ≤ 512 ∧ P = .int .i64 p ∧ Own8 wb.heap.size wx (.slice (some ⟨wb.heap.size, 0, none⟩) 512 512) (F p) ∧ Below wb.heap.size wb wx) (fun P _ => (512 - intOf P).toNat)
            case atStart => exact ⟨0, by omega, rfl, by rw [HO0.out]; exact o0, bz⟩
            case round =>
              obtain ⟨p, hp, rfl, hO, hB⟩ := hrel
              by_cases hp2 : (p : Int) < 512
              · have hst := HOs p (by omega)
                by_cases hc1 : (A : Int) ≤ 512 * (k : Int) + p
                · by_cases hc2 : 512 * (k : Int) + p < (A : Int) + x2.length
                  · have hst2 : Hid (F (p + 1) = (F p).set p (x2.getD (512 * k + p - A) 0)) := hst.out.trans (if_pos ⟨by omega, by omega⟩)
                    obtain ⟨ad, X, g1, g2, g3, g4, g5⟩ := mem_at (r2.below (below_trans b13 (below_trans bq hB))) hbb2 (512 * (k : Int) + p - A) (by omega) (by omega)
                    rw [show (512 * (k : Int) + p - A).toNat = 512 * k + p - A by omega] at g5
                    have hst3 : Hid (F (p + 1) = (F p).set p X) := by show _ = _; rw [hst2.out, g5]
                    obtain ⟨ad2, s1, s2, s3, s4, s5⟩ := own_set hO uB zB p (by omega) (by have := (HOl p).out; omega)
                    have s6 := s5 X
                    have bs := hB.setCell s4 (.int .u8 X)
                    clear g5 hst hst2 s5
                    go_wp2_with fail
                    go_roundw
                    case rel => exact ⟨p + 1, by omega, by go_num, by rw [hst3.out]; exact s6, bs⟩
                    case measure => simp [intOf]; omega
                  · have hst2 : Hid (F (p + 1) = F p) := hst.out.trans (if_neg (fun z => by omega))
                    clear hst
                    go_wp2_with fail
                    go_roundw
                    case rel => exact ⟨p + 1, by omega, by go_num, by rw [hst2.out]; exact hO, hB⟩
                    case measure => simp [intOf]; omega
                · have hst2 : Hid (F (p + 1) = F p) := hst.out.trans (if_neg (fun z => by omega))
                  clear hst
                  go_wp2_with fail
                  go_roundw
                  case rel => exact ⟨p + 1, by omega, by go_num, by rw [hst2.out]; exact hO, hB⟩
                  case measure => simp [intOf]; omega
              · obtain rfl : p = 512 := by omega
                have hrV := rV.below hB
                have hrH := (Rd_own hO).1
                go_wp2_with (go_at_call 12; refine (cW _ _ _ hrV hrH).mono ?_; rintro e w9 ⟨v9, rfl, o9, b9⟩)
                go_roundw
                case rel => exact ⟨k + 1, i + 1, last, w9, by go_num, rfl, by omega, (Rd_own o9).1, below_trans bq (below_trans hB b9), Below.refl _ _, Or.inl ⟨by have := HKl.out; have := hi2.out; omega, by have := hnl.out; omega⟩⟩
                case measure => simp [intOf]; omega
        · obtain ⟨zb, zo, W1, S1, z1, z2, z3, z4⟩ := ac_at (r4.below (below_trans bwo bwr) acR_below) i (by omega)
          have hKl := (hLg k).out
          have z5 := dk_at (A : Int) x2.length k hk 1 (by rw [hKe]; simp)
          rw [hKe, ← hi, List.getElem?_eq_getElem (by omega), z4] at z5
          simp only [List.getElem?_cons_succ, List.getElem?_cons_zero, Option.some.injEq, Prod.mk.injEq] at z5
          obtain ⟨rfl, rfl⟩ := z5
          have hin := dk_in l1 (show A + x2.length ≤ x0.length by omega) (show ¬ dkK (A : Int) x2.length k = [] by rw [hKe]; simp)
          rw [hKe] at hKl
          simp only [List.length_cons, List.length_nil] at hKl
          have HKl := hid hKl
          have hi2 := hid hi
          have hnl : Hid ((k : Int) < k + 1) := hid (by omega)
          have hq : ((k : Int) != (k : Int)) = false := by simp
          obtain ⟨wb, hwb⟩ : ∃ wb, wb = wo := ⟨_, rfl⟩
          subst hwb
          obtain ⟨ws, hws⟩ : ∃ ws, ws = wr := ⟨_, rfl⟩
          subst hws
          have bq := bwo
          have bz := bwr
          clear z4 hLg hi hKl hk64 bwo bwr
          have hsl : (((ovl x0 A x2 k).drop (512 * k)).take 512).length = 512 := by rw [List.length_take, List.length_drop, ovl_len]; omega
          have hsg : ∀ i, i < 512 → (((ovl x0 A x2 k).drop (512 * k)).take 512).getD i 0 = (ovl x0 A x2 k).getD (512 * k + i) 0 := fun i hi => by rw [getD_takeD, if_pos hi, getD_dropD]
          obtain ⟨Z, hZ⟩ : ∃ Z, ((ovl x0 A x2 k).drop (512 * k)).take 512 = Z := ⟨_, rfl⟩
          rw [hZ] at oH hsl
          simp only [hZ] at hsg
          have HZ := hid hsl
          have HG := hid hsg
          clear hZ hsl hsg hKe
          go_upto_region 23 with fail
          have hstp := ovl_step x0 A x2 k Z hin (Or.inl HG.out)
          have hKlen : (ovs Z A x2 k 512).length = 512 := ovs_len _ _ _ _ _
          have cW := fun v vb w h hb => w_pwrite20 v vb (ovl x0 A x2 k) (ovs Z A x2 k 512) k w h hb (by rw [ovl_len]; omega) (by omega) (by omega)
          rw [ovl_wr l1 l2 A x2 k hin _ hKlen, hstp] at cW
          have hO0 := ovs_0 Z A x2 k HZ.out
          have hOs := fun p hp => ovs_step Z A x2 k p hp
          have hOl := fun p => ovs_len Z A x2 k p
          clear hstp hKlen
          simp only at cW
          obtain ⟨F, hF⟩ : ∃ F : Nat → List Int, (fun p => ovs Z A x2 k p) = F := ⟨_, rfl⟩
          have hF2 : ∀ p, ovs Z A x2 k p = F p := fun p => by rw [← hF]
          simp only [hF2] at cW hO0 hOs hOl
          have HO0 := hid hO0
          have HOs : ∀ p, p < 512 → Hid (F (p + 1) = if A ≤ 512 * k + p ∧ 512 * k + p < A + x2.length then (F p).set p (x2.getD (512 * k + p - A) 0) else F p) := fun p hp => hOs p hp
          have HOl : ∀ p, Hid ((F p).length = 512) := fun p => hOl p
          clear hF hF2 hO0 hOs hOl
          go_wp2_with fail
          go_loopw [16] (fun P wx => ∃ p : Nat, p ≤ 512 ∧ P = .int .i64 p ∧ Own8 wb.heap.size wx u12 (F p) ∧ Below wb.heap.size wb wx) (fun P _ => (512 - intOf P).toNat)
          case atStart => exact ⟨0, by omega, rfl, by rw [HO0.out]; exact oH, bz⟩
          case round =>
            obtain ⟨p, hp, rfl, hO, hB⟩ := hrel
            by_cases hp2 : (p : Int) < 512
            · have hst := HOs p (by omega)
              by_cases hc1 : (A : Int) ≤ 512 * (k : Int) + p
              · by_cases hc2 : 512 * (k : Int) + p < (A : Int) + x2.length
                · have hst2 : Hid (F (p + 1) = (F p).set p (x2.getD (512 * k + p - A) 0)) := hst.out.trans (if_pos ⟨by omega, by omega⟩)
                  obtain ⟨ad, X, g1, g2, g3, g4, g5⟩ := mem_at (r2.below (below_trans b13 (below_trans bq hB))) hbb2 (512 * (k : Int) + p - A) (by omega) (by omega)
                  rw [show (512 * (k : Int) + p - A).toNat = 512 * k + p - A by omega] at g5
                  have hst3 : Hid (F (p + 1) = (F p).set p X) := by show _ = _; rw [hst2.out, g5]
                  obtain ⟨ad2, s1, s2, s3, s4, s5⟩ := own_set hO uB zB p (by omega) (by have := (HOl p).out; omega)
                  have s6 := s5 X
                  have bs := hB.setCell s4 (.int .u8 X)
                  clear g5 hst hst2 s5
                  go_wp2_with fail
                  go_roundw
                  case rel => exact ⟨p + 1, by omega, by go_num, by rw [hst3.out]; exact s6, bs⟩
                  case measure => simp [intOf]; omega
                · have hst2 : Hid (F (p + 1) = F p) := hst.out.trans (if_neg (fun z => by omega))
                  clear hst
                  go_wp2_with fail
                  go_roundw
                  case rel => exact ⟨p + 1, by omega, by go_num, by rw [hst2.out]; exact hO, hB⟩
                  case measure => simp [intOf]; omega
              · have hst2 : Hid (F (p + 1) = F p) := hst.out.trans (if_neg (fun z => by omega))
                clear hst
                go_wp2_with fail
                go_roundw
                case rel => exact ⟨p + 1, by omega, by go_num, by rw [hst2.out]; exact hO, hB⟩
                case measure => simp [intOf]; omega
            · obtain rfl : p = 512 := by omega
              have hrV := rV.below hB
              have hrH := (Rd_own hO).1
              go_wp2_with (go_at_call 12; refine (cW _ _ _ hrV hrH).mono ?_; rintro e w9 ⟨v9, rfl, o9, b9⟩)
              go_roundw
              case rel => exact ⟨k + 1, i + 1, (k : Int), w9, by go_num, rfl, by omega, (Rd_own o9).1, below_trans bq (below_trans hB b9), Below.refl _ _, Or.inl ⟨by have := HKl.out; have := hi2.out; omega, by have := hnl.out; omega⟩⟩
              case measure => simp [intOf]; omega
      · have hE : (dkL (A : Int) x2.length k).length = (dkL (A : Int) x2.length 64).length ∧ last < k := by
          have hm := dkL_mono (A : Int) x2.length 64 k hk64
          rcases hst with ⟨h1, h2⟩ | ⟨h1, h2, h3, h4, h5⟩
          · exact ⟨by omega, h2⟩
          · have h6 := (hLg k).out
            have h7 := dkL_mono (A : Int) x2.length 64 (k + 1) (by omega)
            rw [h3] at h6
            simp only [List.length_cons, List.length_nil] at h6
            omega
        have hov := dk_end x0 A x2 (64 - k) k (by omega) hE.1
        rw [← hov] at rV
        clear hE hov hst hLg
        go_wp2_with (go_at_call 14; refine (w_rsame _ v3 _ _ _ (rV.below bwr) (r3'.below (below_trans bwo bwr)) hO64 hO64).mono ?_; rintro e q5 ⟨rfl, hw⟩; obtain rfl := hw.symm)
        go_ret
        exact ⟨ret_b (by simp), below_trans b13 (below_trans bwo bwr)⟩
  · have ep : (dkPt x0 a1 x2).1 = [] ∧ (dkPt x0 a1 x2).2 ≠ 0 := by
      unfold dkPt
      split
      · rename_i h
        rw [if_neg (fun z => hok ⟨h, z⟩)]
        exact ⟨rfl, by decide⟩
      · exact ⟨rfl, by decide⟩
    obtain ⟨⟨R, E⟩, hR⟩ : ∃ x, dkPt x0 a1 x2 = x := ⟨_, rfl⟩
    rw [hR] at ep
    simp only [hR] at c1
    obtain ⟨rfl, hE⟩ := ep
    clear hR n0 hok
    go_enter Try.func6, Try.ntmps6
    go_wp2_with (first
      | (go_at_call 8; refine (w_alive20 _).mono ?_; rintro e q1 ⟨rfl, b1⟩)
      | (go_at_call 21; refine (c1 _ (r0.below b1) (r2.below b1)).mono ?_; rintro e q2 ⟨v3, rfl, o3, b2⟩; have b12 := below_trans b1 b2; have hl3 : ∀ ty w', (Builtin.len_ #[22] ty #[v3]).run Try.prog w' = .ok (.int .i64 0) w' := rd_len (Rd_own o3).1 uB (P := Try.prog)))
    go_ret
    exact ⟨ret_b (by simp), b12⟩

/-
  What came in, read with its weight: slices of rows, slices of integers, structs of one-cell fields.
-/
theorem wf8 {n : Int} (h : (Lit.int .u32 n).wf = true) : 0 ≤ n ∧ n < 4294967296 := by
  simp [Lit.wf, IntKind.min, IntKind.max, IntKind.bits, IntKind.signed] at h
  omega
theorem all_weights {H : Type} {P : Program} {e : TypeId} {d : DataW H} {n : Nat} : ∀ {ds : List (DataW H)}, d ∈ ds → n ∈ d.weights P e → n ∈ DataW.weightsAll P e ds
  | x :: r, h, hn => by
    simp only [DataW.weightsAll, List.mem_append]
    rcases List.mem_cons.1 h with rfl | h
    · exact Or.inl hn
    · exact Or.inr (all_weights h hn)
/-- a slice's rows, each read as R says, each of which Q is true -/
theorem slr_trod {α H : Type} {enc : TypeId × Value → H} {W : World} {t e : TypeId} {cs : List Value} {y : DataW H × List MemPlace} {sz fuel : Nat} (R : World → List Value → α → Prop) (Q : α → Prop)
    (ht : Try.prog.underlying t = some (.slice e)) (hc : Try.prog.cellsOf e = sz) (hsz : 0 < sz) (h : DataW.trod enc Try.prog W 0 (fun _ => true) true fuel t cs = some y) (hw : ∀ n ∈ y.1.weights Try.prog t, n ≤ reachBytes)
    (hR : ∀ n cs z, DataW.trod enc Try.prog W 0 (fun _ => true) true n e cs = some z → (∀ m ∈ z.1.weights Try.prog e, m ≤ reachBytes) → ∃ x, R W cs x ∧ Q x) :
    ∃ a l c xs, cs = [.slice a l c] ∧ SlR sz R W (.slice a l c) xs ∧ (∀ x ∈ xs, Q x) ∧ xs.length * Try.prog.bytesOf e ≤ reachBytes := by
  have g' : ∃ x l c, cs = [.slice x l c] := by
    rcases DataW.trod_slice ht h with ⟨h0, _⟩ | ⟨x, l, c, _, _, _, _, h0, _⟩
    · exact ⟨none, 0, 0, h0⟩
    · exact ⟨some x, l, c, h0⟩
  obtain ⟨a, l, c, rfl⟩ := g'
  obtain ⟨d, ps⟩ := y
  obtain ⟨rows, h1, h2, h3⟩ := slc_open ht hc hsz h
  rcases h3 with ⟨rfl, rfl⟩ | ⟨ds, zs, rfl, hl, h3⟩
  · exact ⟨a, l, c, [], rfl, ⟨[], h1, rfl, fun i hi => by simp at hi⟩, fun x hx => by simp at hx, by simp⟩
  · have hwt : (ds.length + zs.length) * Try.prog.bytesOf e ≤ reachBytes := hw _ (by simp [DataW.weights, ht])
    obtain ⟨xs, hx1, hx2⟩ := choose_list (rows.zip ds) (fun (r : List Value × DataW H) (x : α) => R W r.1 x ∧ Q x) (fun r hr => by
      obtain ⟨i, hi, rfl⟩ := List.getElem_of_mem hr
      have hi2 : i < rows.length := by simp at hi; omega
      obtain ⟨n, y, g, g2⟩ := h3 i hi2
      rw [List.getD_eq_getElem?_getD, List.getElem?_eq_getElem hi2] at g
      obtain ⟨x, k1, k2⟩ := hR _ _ _ g (fun m hm => hw m (by
        simp only [DataW.weights, ht, List.mem_cons, List.mem_append]
        exact Or.inr (Or.inl (all_weights (List.mem_of_getElem? g2) hm))))
      refine ⟨x, ?_, k2⟩
      rw [List.getElem_zip]; exact k1)
    have hzl : (rows.zip ds).length = rows.length := by simp [hl]
    refine ⟨a, l, c, xs, rfl, ⟨rows, h1, by omega, fun i hi => ?_⟩, fun x hx => ?_, ?_⟩
    · have := (hx2 i (by omega) hi).1
      rw [List.getElem_zip] at this
      rw [List.getD_eq_getElem?_getD, List.getElem?_eq_getElem (by omega)]
      exact this
    · obtain ⟨i, hi, rfl⟩ := List.getElem_of_mem hx
      exact (hx2 i (by omega) hi).2
    · refine Nat.le_trans (Nat.mul_le_mul_right _ ?_) hwt
      omega
/-- a slice of integers -/
theorem rd_trod {H : Type} {enc : TypeId × Value → H} {W : World} {t e : TypeId} {k : IntKind} {cs : List Value} {y : DataW H × List MemPlace} {fuel : Nat}
    (ht : Try.prog.underlying t = some (.slice e)) (he : Try.prog.underlying e = some (.int k)) (hc : Try.prog.cellsOf e = 1) (h : DataW.trod enc Try.prog W 0 (fun _ => true) true fuel t cs = some y) (hw : ∀ n ∈ y.1.weights Try.prog t, n ≤ reachBytes) :
    ∃ a l c xs, cs = [.slice a l c] ∧ Rd k W (.slice a l c) xs ∧ (∀ n ∈ xs, (Lit.int k n).wf = true) ∧ xs.length * Try.prog.bytesOf e ≤ reachBytes := by
  have g' : ∃ x l c, cs = [.slice x l c] := by
    rcases DataW.trod_slice ht h with ⟨h0, _⟩ | ⟨x, l, c, _, _, _, _, h0, _⟩
    · exact ⟨none, 0, 0, h0⟩
    · exact ⟨some x, l, c, h0⟩
  obtain ⟨a, l, c, rfl⟩ := g'
  obtain ⟨d, ps⟩ := y
  obtain ⟨u, hu, hf, hd⟩ := rd_open (k := k) (d := d) (ps := ps) ht he hc ⟨_, h⟩
  refine ⟨a, l, c, u, rfl, hu, hf, ?_⟩
  rcases hd with rfl | ⟨ys, zs, rfl, hle⟩
  · simp
  · have hwt : (ys.length + zs.length) * Try.prog.bytesOf e ≤ reachBytes := hw _ (by simp [DataW.weights, ht])
    refine Nat.le_trans (Nat.mul_le_mul_right _ ?_) hwt
    omega
/-- a struct's fields, one after another: each field's cells are one, its weights are the struct's -/
theorem str_field {H : Type} {enc : TypeId × Value → H} {W : World} {t : TypeId} {fs : Array Field} {cs : List Value} {xs : List (DataW H × List MemPlace)} {n : Nat} (hu : Try.prog.underlying t = some (.struct fs))
    (hf : ∀ (i : Nat) f, fs[i]? = some f → DataW.trod enc Try.prog W 0 (fun _ => true) true n f.type ((cs.drop f.offset).take (Try.prog.cellsOf f.type)) = xs[i]?) {l : List (TypeId × Nat)} (hl : fs.toList.map (fun f => (f.type, f.offset)) = l) (hw : ∀ m ∈ (DataW.agg (xs.map (·.1))).weights Try.prog t, m ≤ reachBytes)
    (i : Nat) (a : TypeId) (o : Nat) (h : l[i]? = some (a, o)) (hc : Try.prog.cellsOf a = 1) (hi : i < xs.length) :
    DataW.trod enc Try.prog W 0 (fun _ => true) true n a ((cs.drop o).take 1) = some xs[i] ∧ ∀ m ∈ xs[i].1.weights Try.prog a, m ≤ reachBytes := by
  subst hl
  rw [List.getElem?_map] at h
  obtain ⟨f, g1, g2⟩ := Option.map_eq_some_iff.1 h
  obtain ⟨rfl, rfl⟩ := Prod.mk.inj g2
  have h1 := hf i f (by rw [← Array.getElem?_toList]; exact g1)
  rw [hc, List.getElem?_eq_getElem hi] at h1
  refine ⟨h1, fun m hm => hw m ?_⟩
  simp only [DataW.weights, hu]
  refine DataW.weights_mem_each (j := i) (t := f.type) (d := xs[i].1) ?_ ?_ m hm
  · rw [List.getElem?_map, g1]; rfl
  · rw [List.getElem?_map, List.getElem?_eq_getElem hi]; rfl
/-- a field of several cells -/
theorem str_fieldN {H : Type} {enc : TypeId × Value → H} {W : World} {t : TypeId} {fs : Array Field} {cs : List Value} {xs : List (DataW H × List MemPlace)} {n : Nat} (hu : Try.prog.underlying t = some (.struct fs))
    (hf : ∀ (i : Nat) f, fs[i]? = some f → DataW.trod enc Try.prog W 0 (fun _ => true) true n f.type ((cs.drop f.offset).take (Try.prog.cellsOf f.type)) = xs[i]?) {l : List (TypeId × Nat)} (hl : fs.toList.map (fun f => (f.type, f.offset)) = l) (hw : ∀ m ∈ (DataW.agg (xs.map (·.1))).weights Try.prog t, m ≤ reachBytes)
    (i : Nat) (a : TypeId) (o c : Nat) (h : l[i]? = some (a, o)) (hc : Try.prog.cellsOf a = c) (hi : i < xs.length) :
    DataW.trod enc Try.prog W 0 (fun _ => true) true n a ((cs.drop o).take c) = some xs[i] ∧ ∀ m ∈ xs[i].1.weights Try.prog a, m ≤ reachBytes := by
  subst hl
  rw [List.getElem?_map] at h
  obtain ⟨f, g1, g2⟩ := Option.map_eq_some_iff.1 h
  obtain ⟨rfl, rfl⟩ := Prod.mk.inj g2
  have h1 := hf i f (by rw [← Array.getElem?_toList]; exact g1)
  rw [hc, List.getElem?_eq_getElem hi] at h1
  refine ⟨h1, fun m hm => hw m ?_⟩
  simp only [DataW.weights, hu]
  refine DataW.weights_mem_each (j := i) (t := f.type) (d := xs[i].1) ?_ ?_ m hm
  · rw [List.getElem?_map, g1]; rfl
  · rw [List.getElem?_map, List.getElem?_eq_getElem hi]; rfl

/-
  Deeds (a place, and bytes) that came in; rows of the call's own that are written while others stand.
-/
def deR (w : World) (cs : List Value) (p : Int × List Int) : Prop := ∃ v, cs = [.int .i64 p.1, v] ∧ Rd .u8 w v p.2
theorem deR_below {w w' : World} (g : Below w.heap.size w w') (cs : List Value) (x : Int × List Int) (h : deR w cs x) : deR w' cs x := by
  obtain ⟨v, h1, h2⟩ := h
  exact ⟨v, h1, h2.below g⟩
def gDe (p : Int × List Int) : Prop := (-9223372036854775808 ≤ p.1 ∧ p.1 < 9223372036854775808) ∧ bytesL p.2 ∧ p.2.length ≤ 140737488351232
theorem de_str : Try.prog.underlying 43 = some (.struct (Try.prog.fieldsOf 43)) := by kernel_rfl
theorem deFs : (Try.prog.fieldsOf 43).toList.map (fun f => (f.type, f.offset)) = [(3, 0), (22, 1)] := by kernel_rfl
theorem uDe : Try.prog.underlying 41 = some (.slice (Try.prog.elem 41)) := by kernel_rfl
theorem eDe : Try.prog.elem 41 = 43 := by kernel_rfl
theorem zDe (w : World) : (sizeOf (Try.prog.elem 41)).run Try.prog w = .ok 2 w := by rw [eDe]; exact Try.sizeOf43 w
set_option maxRecDepth 100000 in
theorem de_trod {H : Type} {enc : TypeId × Value → H} {W : World} (fuel : Nat) (cs : List Value) (y : DataW H × List MemPlace) (h : DataW.trod enc Try.prog W 0 (fun _ => true) true fuel 43 cs = some y) (hw : ∀ n ∈ y.1.weights Try.prog 43, n ≤ reachBytes) :
    ∃ x : Int × List Int, deR W cs x ∧ gDe x := by
  obtain ⟨xs, n, _, rfl, hl, hlen, hf⟩ := DataW.trod_struct de_str h
  rw [show Try.prog.cellsOf 43 = 2 by kernel_rfl] at hl
  rw [show (Try.prog.fieldsOf 43).size = 2 by kernel_rfl] at hlen
  match cs, hl with
  | [c0, c1], _ =>
    have g0 := str_field de_str hf deFs hw 0 3 0 rfl (by kernel_rfl) (by omega)
    have g1 := str_field de_str hf deFs hw 1 22 1 rfl (by kernel_rfl) (by omega)
    obtain ⟨k, k1, k2, k3⟩ := DataW.trod_int Try.underlying3 g0.1
    obtain ⟨a, l, c, u, e1, hu, hf1, hz⟩ := rd_trod Try.underlying22 Try.underlying5 (by kernel_rfl) g1.1 g1.2
    simp at k1 e1
    subst k1 e1
    rw [show Try.prog.bytesOf 5 = 1 by kernel_rfl] at hz
    unfold reachBytes at hz
    refine ⟨(k, u), ⟨_, rfl, hu⟩, ?_, ?_, by simp only; omega⟩
    · simp [Lit.wf, IntKind.min, IntKind.max, IntKind.bits, IntKind.signed] at k3
      simp only
      omega
    · intro n hn
      have := hf1 n hn
      simp [Lit.wf, IntKind.min, IntKind.max, IntKind.bits, IntKind.signed] at this
      omega
theorem des_open {H : Type} {enc : TypeId × Value → H} {W : World} {a : Option Addr} {len cap : Nat} {d : DataW H} {ps : List MemPlace} (h : DataW.Trod enc Try.prog W 0 (fun _ => true) true 41 (.slice a len cap) d ps) (hw : ∀ n ∈ d.weights Try.prog 41, n ≤ reachBytes) :
    ∃ xs : List (Int × List Int), SlR 2 deR W (.slice a len cap) xs ∧ ∀ x ∈ xs, gDe x := by
  obtain ⟨fuel, hf⟩ := h
  obtain ⟨a', l', c', xs, e, h1, h2, _⟩ := slr_trod deR gDe (e := 43) Try.underlying41 (show Try.prog.cellsOf 43 = 2 by kernel_rfl) (by omega) (show DataW.trod enc Try.prog W 0 (fun _ => true) true fuel 41 [.slice a len cap] = some (d, ps) from hf) hw (fun n cs z h1 h2 => de_trod n cs z h1 h2)
  simp only [List.cons.injEq, Value.slice.injEq, and_true] at e
  obtain ⟨rfl, rfl, rfl⟩ := e
  exact ⟨xs, h1, h2⟩
theorem de_at {w : World} {v : Value} {xs : List (Int × List Int)} (h : SlR 2 deR w v xs) (hg : ∀ x ∈ xs, gDe x) (i : Nat) (h1 : i < xs.length) :
    ∃ (b o : Nat) (A : Int) (c : Value) (D : List Int), (∀ w', (Instr.indexAt 41 v (.int .i64 (i : Int))).run Try.prog w' = .ok (.pointer (some ⟨b, o, none⟩)) w') ∧ w.cell? ⟨b, o, none⟩ = some (.int .i64 A) ∧ w.cell? ⟨b, o + 1, none⟩ = some c ∧ Rd .u8 w c D ∧ gDe (A, D) := by
  obtain ⟨b, o, c0, c1, r, e0, e1, hR⟩ := slr_idx2 h uDe zDe i h1
  obtain ⟨v', h2, h3⟩ := hR
  simp only [List.cons.injEq, and_true] at h2
  obtain ⟨rfl, rfl⟩ := h2
  exact ⟨b, o, _, _, _, r, e0, e1, h3, hg _ (List.getElem_mem h1)⟩

/-- a cell of the call's own row, told with its block -/
theorem own8_set {w : World} {base : Nat} {v : Value} {ys : List Int} (h : Own8 base w v ys) (i : Int) (h0 : 0 ≤ i) (h1 : i < ys.length) :
    ∃ a : Addr, (∀ w', (Instr.indexAt 22 v (.int .i64 i)).run Try.prog w' = .ok (.pointer (some a)) w') ∧ w.cell? a = some (.int .u8 (ys.getD i.toNat 0)) ∧ w.frozen? a = false ∧ base ≤ a.block ∧ v.ownBlock = some a.block ∧
      ∀ y, Own8 base (w.setCell a (.int .u8 y)) v (ys.set i.toNat y) := by
  obtain ⟨a, g1, g2, g3, g4, g5⟩ := own_set h uB zB i h0 h1
  refine ⟨a, g1, g2, g3, g4, ?_, g5⟩
  rcases h.2 with ⟨rfl, hz⟩ | ⟨g, cap, cur, rfl, hb, hg, hnc, hcm, hcs, htake⟩
  · omega
  · have h2 := g1 w
    rw [run_indexAt_slice (h := uB), if_pos ⟨h0, h1⟩, zB] at h2
    simp only [Result.andThen, Nat.mul_one] at h2
    injection h2 with h2 _
    injection h2 with h2
    injection h2 with h2
    rw [← h2]
    unfold Addr.add
    split <;> rfl
theorem own8_lt {w : World} {base : Nat} {v : Value} {ys : List Int} (h : Own8 base w v ys) {g : Nat} (hg : v.ownBlock = some g) (hn : ys ≠ []) : base ≤ g ∧ g < w.heap.size := by
  rcases h.2 with ⟨rfl, hz⟩ | ⟨b, cap, cur, rfl, hb, hh, hnc, hcm, hcs, htake⟩
  · exact absurd (List.eq_nil_of_length_eq_zero hz) hn
  · simp [Value.ownBlock] at hg
    subst hg
    exact ⟨hb, lt_of_block hh⟩
/-- a stretch of which the first bytes have been put -/
def putK (D b : List Int) (a k : Nat) : List Int := D.take a ++ b.take k ++ D.drop (a + (b.take k).length)
theorem putK_0 (D b : List Int) (a : Nat) (h : a ≤ D.length) : putK D b a 0 = D := by simp [putK]
theorem putK_all (D b : List Int) (a : Nat) : putK D b a b.length = D.take a ++ b ++ D.drop (a + b.length) := by simp [putK]
theorem putK_len (D b : List Int) (a k : Nat) (h : a + b.length ≤ D.length) : (putK D b a k).length = D.length := by
  unfold putK
  have := List.length_take_le' k b
  simp only [List.length_append, List.length_drop, List.length_take]
  omega
theorem putK_step (D b : List Int) (a k : Nat) (h : a + b.length ≤ D.length) (hk : k < b.length) : putK D b a (k + 1) = (putK D b a k).set (a + k) (b.getD k 0) := by
  have e1 : (b.take (k + 1)).length = k + 1 := by rw [List.length_take]; omega
  have e0 : (b.take k).length = k := by rw [List.length_take]; omega
  have h1 := fun i => put_at D (b.take (k + 1)) a i (by rw [e1]; omega)
  have h0 := fun i => put_at D (b.take k) a i (by rw [e0]; omega)
  apply ext_getDD
  · rw [List.length_set, putK_len _ _ _ _ h, putK_len _ _ _ _ h]
  · intro i hi
    rw [putK_len _ _ _ _ h] at hi
    rw [getD_setD _ _ _ _ (by rw [putK_len _ _ _ _ h]; exact hi)]
    unfold putK
    rw [h1, h0, e1, e0, getD_takeD, getD_takeD]
    by_cases e : a + k = i
    · rw [if_pos e, if_pos ⟨by omega, by omega⟩, if_pos (by omega)]
      congr 1
      omega
    · rw [if_neg e]
      by_cases c : a ≤ i ∧ i < a + k
      · rw [if_pos c, if_pos ⟨c.1, by omega⟩, if_pos (by omega), if_pos (by omega)]
      · rw [if_neg c, if_neg (by omega)]
theorem putK_bytes {D b : List Int} (hD : bytesL D) (hb : bytesL b) (a k : Nat) : bytesL (putK D b a k) := bytes_app (bytes_app (bytes_take hD _) (bytes_take hb _)) (bytes_drop hD _)

end Go.Proofs.Ytcffaojpmdhdoaa
