/-
  Texts of one proof, laid one behind the other: Bkd Bkp Lbp Bkl Lww.
-/
import Derived.Test.YtnaoefjcfmdenabB5
import Derived.Deep.OwnRows
import Derived.Test.YtnaoefjcfmdenabRows
import Derived.OneCell
import Derived.Deep.RegionHeld
namespace Go.Proofs.Ytnaoefjcfmdenab
open Go.ChangeShapes Go.WideShapes Go.ChangeAt Go.RowKit
set_option linter.unusedVariables false
set_option linter.unusedSimpArgs false

/-
  The landed package block: a sector, loaded and laid into.
-/
theorem arrS : Try.prog.underlying 68 = some (.array (Try.prog.arrayLen 68) (Try.prog.elem 68)) := by kernel_rfl
theorem elS : Try.prog.elem 68 = 5 := by kernel_rfl
theorem lenS : Try.prog.arrayLen 68 = 512 := by kernel_rfl
theorem infoB1 : (Try.prog.info? (Try.prog.elem 23)).map (·.size) = some 1 := by kernel_rfl
/-- from a place of the sector on -/
theorem sec_cut (B : Nat) (lo : Int) (h0 : 0 ≤ lo) (h1 : lo ≤ 512) :
    ∃ dp : Option Addr, (0 < 512 - lo.toNat → dp = some ⟨B, lo.toNat, none⟩) ∧ ∀ w', (Instr.sliceAt 68 (.pointer (some ⟨B, 0, none⟩)) (some (.int .i64 lo)) none none).run Try.prog w' = .ok (.slice dp (512 - lo.toNat) (512 - lo.toNat)) w' := by
  refine ⟨some (if 512 = lo.toNat then ⟨B, 0, none⟩ else (⟨B, 0, none⟩ : Addr).add (lo.toNat * 1)), fun h => ?_, fun w' => ?_⟩
  · rw [if_neg (by omega), Nat.mul_one]
    unfold Addr.add
    split
    · rename_i hz; rw [hz]
    · simp
  · rw [run_sliceAt_array_l w' 68 ⟨B, 0, none⟩ arrS .i64 lo h0 (by rw [lenS]; omega), elS, Try.sizeOf5, lenS]
    rfl
theorem sec_all (B : Nat) (w' : World) : (Instr.sliceAt 68 (.pointer (some ⟨B, 0, none⟩)) none none none).run Try.prog w' = .ok (.slice (some ⟨B, 0, none⟩) 512 512) w' := by
  rw [run_sliceAt_array_all w' 68 ⟨B, 0, none⟩ arrS, elS, Try.sizeOf5, lenS]
  rfl
/-- what a call that writes the sector leaves: the sector's new bytes, all else stands -/
def SecW (w w' : World) (B : Nat) (S : List Int) : Prop := Stands w' B (ArA .u8 S) 68 ∧ (∀ (C : Nat) (w0 : World), Below C w0 w → C ≤ B → Below C w0 w') ∧ w'.heap.size = w.heap.size ∧ ∀ b, ¬ b = B → w'.heap[b]? = w.heap[b]?

set_option maxHeartbeats 1000000 in
set_option maxRecDepth 100000 in
theorem w_pload20 (B : Nat) (S x : List Int) (v : Value) (w : World) (hs : Stands w B (ArA .u8 S) 68) (hl : S.length = 512) (h : Rd .u8 w v x) (hx : 512 ≤ x.length) :
    Calls Try.prog 26 #[.pointer (some ⟨B, 0, none⟩), v] w fun e w' => e = .returned (.tuple #[]) ∧ SecW w w' B (x.take 512) := by
  have sl := sec_all B
  obtain ⟨w1, r1, s1, q1, z1, p1⟩ := copy_ar (P := Try.prog) (sl := 23) uB infoB1 (dp := some ⟨B, 0, none⟩) (off := 0) (n := 512) (fun _ => rfl) hs h (by omega)
  rw [load_all S x hl hx] at s1
  have hm : x.length.min 512 = 512 := by show min x.length 512 = 512; omega
  rw [hm] at r1
  have r2 : ∀ ty, (Builtin.copy_ #[23, 23] ty #[.slice (some ⟨B, 0, none⟩) 512 512, v]).run Try.prog w = .ok (.int .i64 512) w1 := r1
  have S1 := hid s1
  clear r1 hm s1
  go_enter Try.func26, Try.ntmps26
  go_wp2_with fail
  go_end0
  exact ⟨rfl, S1.out, q1, z1, p1⟩

set_option maxHeartbeats 1000000 in
set_option maxRecDepth 100000 in
theorem w_play20 (B : Nat) (S b : List Int) (v : Value) (a k : Nat) (w : World) (hs : Stands w B (ArA .u8 S) 68) (hl : S.length = 512) (h : Rd .u8 w v b) (hz : b.length ≤ 32768) (h1 : a < 512 * k + 512) (h2 : 512 * k < a + b.length) (ha : a ≤ 32768) :
    Calls Try.prog 27 #[.pointer (some ⟨B, 0, none⟩), v, .int .i64 ((a : Int) - 512 * (k : Int))] w fun e w' => e = .returned (.tuple #[]) ∧ SecW w w' B (ovs S a b k 512) := by
  by_cases hc : (a : Int) - 512 * (k : Int) < 0
  · obtain ⟨F, hF⟩ : ∃ F, (a : Int) - 512 * (k : Int) = F := ⟨_, rfl⟩
    obtain ⟨vc, rc, -, -, sc'⟩ := rd_cutI h uB zB (-F) b.length (by omega) (by omega) (by omega)
    have sc := sc' rfl
    rw [List.take_of_length_le (by rw [List.length_drop]; omega), show (-F).toNat = 512 * k - a by omega] at rc
    have sl := sec_all B
    rw [hF] at hc ⊢
    have hw : IntKind.i64.wrap (-F) = -F := by rw [IntKind.wrap_i64]; omega
    have bd : Below w.heap.size w w.drew := below_drewN (Below.refl _ _) 1
    obtain ⟨w1, r1, s1, q1, z1, p1⟩ := copy_ar (P := Try.prog) (sl := 23) uB infoB1 (dp := some ⟨B, 0, none⟩) (off := 0) (n := 512) (fun _ => rfl) (hs.below bd) (rc.below bd) (by omega)
    rw [lay_off S b a k hl (by omega)] at s1
    have S1 := hid s1
    have QQ : Hid (∀ (C : Nat) (w0 : World), Below C w0 w → C ≤ B → Below C w0 w1) := hid fun C w0 h hC => q1 C w0 (h.trans ⟨rfl, rfl, rfl, Nat.le_refl _, fun _ _ => rfl⟩) hC
    have ZZ := hid z1
    have PP := hid p1
    clear s1 q1 z1 p1 hF sc' h1 h2
    go_enter Try.func27, Try.ntmps27
    go_wp2_with fail
    go_region
    all_goals (
      go_wp2_with fail
      refine bodyPost_ret (results_none rfl _ _ _) rfl ?_
      exact ⟨rfl, S1.out, QQ.out, ZZ.out, PP.out⟩)
  · obtain ⟨F, hF⟩ : ∃ F, (a : Int) - 512 * (k : Int) = F := ⟨_, rfl⟩
    obtain ⟨dp, hdp, sl⟩ := sec_cut B F (by omega) (by omega)
    rw [hF] at hc ⊢
    obtain ⟨w1, r1, s1, q1, z1, p1⟩ := copy_ar (P := Try.prog) (sl := 23) uB infoB1 (dp := dp) (off := F.toNat) (n := 512 - F.toNat) hdp hs h (by omega)
    rw [show F.toNat = a - 512 * k by omega, lay_on S b a k hl (by omega) h1] at s1
    have S1 := hid s1
    have QQ := hid q1
    have ZZ := hid z1
    have PP := hid p1
    clear s1 q1 z1 p1 hF h1 h2
    go_enter Try.func27, Try.ntmps27
    go_wp2_with fail
    go_end0
    exact ⟨rfl, S1.out, QQ.out, ZZ.out, PP.out⟩

/-
  The landed package block: Put and Write; all six calls in the forms that the laws take.
-/
theorem zeroS : (∀ w, (zeroValue 68).run Try.prog w = .ok (.agg (ArA .u8 (List.replicate 512 0))) w) ∧ (Try.prog.info? 68).map (·.size) = some 512 := zero_of_info (by kernel_rfl)
theorem sec_rd {w : World} {B : Nat} {S : List Int} {T : TypeId} (h : Stands w B (ArA .u8 S) T) (hl : S.length = 512) : Rd .u8 w (.slice (some ⟨B, 0, none⟩) 512 512) S := by
  refine Or.inr ⟨B, 0, 512, by rw [hl], by omega, by omega, by decide, fun i hi => ?_⟩
  rw [Nat.zero_add]
  exact h.cell i _ (ara_at i hi)
/-- copy into the call's own bytes, from a place on -/
theorem own8_copy {w : World} {base : Nat} {v : Value} {D : List Int} (h : Own8 base w v D) (lo : Int) (h0 : 0 ≤ lo) {vs : Value} {xs : List Int} (hr : Rd .u8 w vs xs) (hx : 0 < xs.length) (hfit : lo.toNat + xs.length ≤ D.length) :
    ∃ vc w', (∀ w'', (Instr.slice 23 v (some (.int .i64 lo)) none none).run Try.prog w'' = .ok vc w'') ∧ (∀ ty, (Builtin.copy_ #[23, 23] ty #[vc, vs]).run Try.prog w = .ok (.int .i64 (xs.length : Int)) w') ∧
      Own8 base w' v (D.take lo.toNat ++ xs ++ D.drop (lo.toNat + xs.length)) ∧ (∀ (C : Nat) (w0 : World), Below C w0 w → C ≤ base → Below C w0 w') ∧ w'.heap.size = w.heap.size ∧ ∀ b, ¬ v.ownBlock = some b → w'.heap[b]? = w.heap[b]? := by
  obtain ⟨hl, ho⟩ := h
  rcases ho with ⟨rfl, hz⟩ | ⟨g, cap, cur, rfl, hb, hg, hnc, hcm, hcs, htake⟩
  · omega
  · obtain ⟨ao, scap, rfl, hc, hnn, hcell0⟩ := rd_form hr
    obtain ⟨hm, b, o2, rfl, hcell⟩ := hcell0 hx
    have hcs1 : cur.size = cap := by omega
    have hlen : (xs.map (Value.int .u8)).length = xs.length := by simp
    have hadd : (if cap = lo.toNat then (⟨g, 0, none⟩ : Addr) else (⟨g, 0, none⟩ : Addr).add (lo.toNat * 1)) = ⟨g, lo.toNat, none⟩ := by
      rw [if_neg (by omega), Nat.mul_one]
      unfold Addr.add
      split
      · rename_i hz; rw [hz]
      · simp
    have hrun := fun ty => run_copy_row (P := Try.prog) w 23 23 ty _ g lo.toNat (D.length - lo.toNat) (cap - lo.toNat) ⟨b, o2, none⟩ xs.length scap cur 5 (xs.map (Value.int .u8)) uB infoB1 hg (by rw [hlen]; exact (Nat.min_eq_left (by omega)).symm) (fun j y hj => by
      rw [List.getElem?_map] at hj
      cases hq : xs[j]? with
      | none => rw [hq] at hj; cases hj
      | some z =>
        rw [hq] at hj
        simp at hj
        subst hj
        have hj2 : j < xs.length := by
          rcases Nat.lt_or_ge j xs.length with h | h
          · exact h
          · rw [List.getElem?_eq_none h] at hq; cases hq
        have := hcell j hj2
        rw [List.getD_eq_getElem?_getD, hq] at this
        simp at this
        by_cases hz : j = 0
        · subst hz; simpa [Addr.add] using this
        · simpa [Addr.add, hz] using this) (by rw [hlen]; omega) (fun y hy => by
      simp only [List.mem_map] at hy
      obtain ⟨z, _, rfl⟩ := hy
      rfl)
    rw [hlen] at hrun
    refine ⟨_, _, fun w'' => ?_, hrun, ?_, fun C w0 hB hC => below_setRow hB (Nat.le_trans hC hb) _, by simp [World.setRow], fun q hq => ?_⟩
    · rw [run_slice_l w'' 23 (some ⟨g, 0, none⟩) D.length cap uB .i64 lo h0 (by omega), zB]
      simp only [Result.andThen, sliced]
      rw [← hadd]
      split <;> rfl
    · have hdl : (D.take lo.toNat ++ xs ++ D.drop (lo.toNat + xs.length)).length = D.length := by simp only [List.length_append, List.length_take, List.length_drop]; omega
      refine ⟨by rw [List.length_map, Nat.mul_one], .inr ⟨g, cap, _, by rw [hdl], hb, setRow_heap w g _ _ _ _ hg, by rw [hdl]; exact hnc, hcm, ?_, ?_⟩⟩
      · simp only [List.size_toArray, List.length_append, List.length_take, List.length_drop, List.length_map, Array.length_toList]
        omega
      · rw [hdl]
        rw [Nat.mul_one] at htake ⊢
        have e1 : cur.toList.take lo.toNat = (D.take lo.toNat).map (Value.int .u8) := by
          rw [List.map_take, ← htake, List.take_take, Nat.min_eq_left (by omega)]
        have e2 : (cur.toList.drop (lo.toNat + xs.length)).take (D.length - (lo.toNat + xs.length)) = (D.drop (lo.toNat + xs.length)).map (Value.int .u8) := by
          rw [List.map_drop, ← htake, List.drop_take]
        have e3 : (D.take lo.toNat).length = lo.toNat := by rw [List.length_take]; omega
        simp only [List.map_append]
        rw [← e1, ← e2, List.take_append, List.take_append]
        have e4 : (cur.toList.take lo.toNat).length = lo.toNat := by rw [e1, List.length_map, e3]
        rw [List.length_append, e4, hlen, List.take_of_length_le (l := cur.toList.take lo.toNat) (by omega), List.take_of_length_le (l := xs.map (Value.int .u8)) (by rw [hlen]; omega)]
    · simp only [World.setRow]
      rw [Array.getElem?_modify, if_neg (fun h => hq (by simp [Value.ownBlock, h]))]
theorem own8_heap20 {w w' : World} {base : Nat} {v : Value} {xs : List Int} (h : Own8 base w v xs) (hk : ∀ k, v.ownBlock = some k → w'.heap[k]? = w.heap[k]?) : Own8 base w' v xs := by
  obtain ⟨hl, h⟩ := h
  refine ⟨hl, ?_⟩
  rcases h with h | ⟨b, cap, cur, rfl, hb, hg, hc⟩
  · exact Or.inl h
  · refine Or.inr ⟨b, cap, cur, rfl, hb, ?_, hc⟩
    rw [hk b rfl]
    exact hg
theorem rd_max20 {k : IntKind} {w : World} {v : Value} {xs : List Int} (h : Rd k w v xs) : xs.length ≤ maxLen := by
  obtain ⟨ao, cap, rfl, hc, hn, hx⟩ := rd_form h
  rcases Nat.eq_zero_or_pos xs.length with h0 | h0
  · rw [h0]; exact Nat.zero_le _
  · exact Nat.le_trans hc (hx h0).1
theorem secTy : ¬ 5 = 68 := by decide

set_option maxHeartbeats 4000000 in
set_option maxRecDepth 100000 in
theorem w_pput20 (v vb : Value) (d b : List Int) (a : Int) (w : World) (h : Rd .u8 w v d) (hb : Rd .u8 w vb b) (hz : d.length ≤ 140737488351232) (a0 : -9223372036854775808 ≤ a) (a1 : a < 9223372036854775808) :
    Calls Try.prog 16 #[v, .int .i64 a, vb] w fun e w' => ∃ v', e = .returned (.tuple #[v', .int .i64 (dkPt d a b).2]) ∧ Own8 w.heap.size w' v' (dkPt d a b).1 ∧ Below w.heap.size w w' := by
  have cF := w_pform20 v d w h hz
  have hlen := rd_len h uB (P := Try.prog)
  have hlb := rd_len hb uB (P := Try.prog)
  have hmx := rd_max20 hb
  cases hB : dkB d
  · rw [hB] at cF
    unfold dkPt
    rw [hB]
    simp only [Bool.false_eq_true, if_false]
    clear hlen hlb
    go_enter Try.func16, Try.ntmps16
    go_wp2_with (first | (go_at_call 12; refine cF.mono ?_; rintro e q ⟨rfl, hw⟩; obtain rfl := hw.symm))
    go_ret2
    exact ⟨_, rfl, own8_nil _ _, Below.refl _ _⟩
  · rw [hB] at cF
    obtain ⟨l1, l2⟩ := dk_len hB
    have cI := w_plies20 a b.length d.length w a0 a1 (by omega) (by unfold maxLen at hmx; omega) (by omega) (by omega)
    cases hI : dkI d.length a b.length
    · rw [hI] at cI
      unfold dkPt
      rw [hB, hI]
      simp only [if_true, Bool.false_eq_true, if_false]
      clear hB l1 hI
      go_enter Try.func16, Try.ntmps16
      go_wp2_with (first | (go_at_call 12; refine cF.mono ?_; rintro e q ⟨rfl, hw⟩; obtain rfl := hw.symm) | (go_at_call 23; refine cI.mono ?_; rintro e q ⟨rfl, hw⟩; obtain rfl := hw.symm))
      go_ret2
      exact ⟨_, rfl, own8_nil _ _, Below.refl _ _⟩
    · rw [hI] at cI
      have hI2 := hI
      unfold dkI at hI2
      rw [decide_eq_true_eq] at hI2
      obtain ⟨i1, i2, i3, i4⟩ := hI2
      obtain ⟨A, rfl⟩ : ∃ A : Nat, a = A := ⟨a.toNat, by omega⟩
      rw [pt_ovl d b A hB hI]
      have cP := fun w => w_pplan20o (A : Int) b.length w (by omega) (by omega) (by omega) (by omega)
      rw [pl_ovl d b A hB hI] at cP
      simp only at cP ⊢
      have hLg : ∀ k : Nat, Hid ((dkL (A : Int) b.length (k + 1)).length = (dkL (A : Int) b.length k).length + (dkK (A : Int) b.length k).length) := fun k => by show _ = _; rw [dkL, List.length_append]
      have hMn : ∀ k : Nat, k ≤ 64 → (dkL (A : Int) b.length k).length ≤ (dkL (A : Int) b.length 64).length := fun k hk => dkL_mono _ _ 64 k hk
      have hbd := dkL_bd (A : Int) b.length 64
      have hbl : b.length ≤ 32768 := by omega
      have hAl : A + b.length ≤ d.length := by omega
      have hA2 : A ≤ 32768 := by omega
      have z := zeroS.1
      have Hl1 := hid l1
      obtain ⟨Z, hZ⟩ : ∃ Z, ArA .u8 (List.replicate 512 0) = Z := ⟨_, rfl⟩
      rw [hZ] at z
      have HZ := hid hZ
      clear hZ hB hI i1 i2 i3 i4 l1
      go_enter Try.func16, Try.ntmps16
      go_upto_region 7 with (first
        | (go_at_call 12; refine cF.mono ?_; rintro e q ⟨rfl, hw⟩; obtain rfl := hw.symm)
        | (go_at_call 23; refine cI.mono ?_; rintro e q ⟨rfl, hw⟩; obtain rfl := hw.symm)
        | (go_at_call 24; refine (cP _).mono ?_; rintro e q3 ⟨va, rfl, oa, b3⟩; have ra := oa.read; have hla := slr_len ra uAc (P := Try.prog))
        | (go_at_call 25; refine (w_pclo20 v d q3 (h.below b3) (by omega)).mono ?_; rintro e w4 ⟨vd, rfl, o4, b4⟩))
      clear cP cF cI hlen
      go_upto_region 8 with fail
      have hap0 := stands_new w4 Z 68
      have bz := box_below w4 (.cells Z 68)
      have hap : ¬ some w4.heap.size = vd.ownBlock := fun e => by
        have := stands_apart hap0 (own8_below o4 bz) secTy
        exact this e
      have hB4 := b4.size
      obtain ⟨B, hBe⟩ : ∃ B, w4.heap.size = B := ⟨_, rfl⟩
      rw [hBe] at hap0 bz hap hB4 ⊢
      have oz := own8_below o4 (hBe ▸ bz)
      have bz2 := below_trans b4 (hBe ▸ bz)
      generalize w4.alloc (.cells Z 68) = W4 at hap0 bz oz bz2 ⊢
      have hS0 : Stands W4 B (ArA .u8 (List.replicate 512 0)) 68 := by rw [HZ.out]; exact hap0
      have hB : q3.heap.size ≤ B := hB4
      have rb := hb.below b3
      clear hap0 bz hB4 z o4 b4 HZ hBe
      go_wp2_with fail
      go_loopw [35] (fun I wx => ∃ (k i : Nat) (S : List Int), I = .int .i64 i ∧ k ≤ 64 ∧ Own8 q3.heap.size wx vd (ovl d A b k) ∧ Stands wx B (ArA .u8 S) 68 ∧ S.length = 512 ∧ Below q3.heap.size q3 wx ∧
        ((i = (dkL (A : Int) b.length k).length) ∨ (k < 64 ∧ i = (dkL (A : Int) b.length k).length + 1 ∧ dkK (A : Int) b.length k = [(false, (k : Int)), (true, (k : Int))] ∧ S = ((ovl d A b k).drop (512 * k)).take 512))) (fun I _ => ((dkL (A : Int) b.length 64).length - intOf I).toNat)
      case atStart => exact ⟨0, 0, _, rfl, by omega, by rw [ovl_0]; exact oz, hS0, List.length_replicate, bz2, Or.inl rfl⟩
      case round =>
        clear oz bz2 hS0
        obtain ⟨k, i, S, rfl, hk64, oD, hS, hS2, hg, hst⟩ := hrel
        by_cases hlt : (i : Int) < (dkL (A : Int) b.length 64).length
        · obtain ⟨zb, zo, W1, S1, z1, z2, z3, z4⟩ := ac_at (ra.below hg acR_below) i (by omega)
          rcases hst with hi | ⟨hk, hi, hKe, hSe⟩
          · obtain ⟨k', h1, h2, h3, h4, h5⟩ := dk_next d A b i (64 - k) k (by omega) (hi.symm) (by omega)
            have hin := dk_in Hl1.out hAl h4
            have hKl := hLg k'
            rw [← h5] at oD
            rcases dkK_cases (A : Int) b.length k' with ⟨e, hc⟩ | ⟨e, hc1, hc2, hc3⟩ | ⟨e, hc1, hc2, hc3⟩
            · exact absurd e h4
            · have z5 := dk_at (A : Int) b.length k' h2 0 (by rw [e]; simp)
              rw [e, Nat.add_zero, h3, List.getElem?_eq_getElem (by omega), z4] at z5
              simp only [List.getElem?_cons_zero, Option.some.injEq, Prod.mk.injEq] at z5
              obtain ⟨rfl, rfl⟩ := z5
              have hDl : (ovl d A b k').length = d.length := ovl_len _ _ _ _
              have HE : Hid (dkK (A : Int) b.length k' = [(false, (k' : Int)), (true, (k' : Int))]) := e
              obtain ⟨D, hD⟩ : ∃ D, ovl d A b k' = D := ⟨_, rfl⟩
              rw [hD] at oD hDl
              have HD := hid hD
              have HDl := hid hDl
              have Hi : Hid (i + 1 = (dkL (A : Int) b.length k').length + 1) := hid (by omega)
              clear z4 hLg h5 hi h3 h1 e h4 hKl hD hDl
              obtain ⟨vc, rc, -, -, sc'⟩ := rd_cutI (Rd_own oD).1 uB zB ((k' : Int) * 512) D.length (by omega) (by rw [HDl.out]; omega) (by omega)
              have sc := sc' rfl
              rw [List.take_of_length_le (by rw [List.length_drop]; omega), show ((k' : Int) * 512).toNat = 512 * k' by omega] at rc
              have cL := fun w hs h => w_pload20 B S (D.drop (512 * k')) vc w hs hS2 h (by rw [List.length_drop, HDl.out]; omega)
              clear sc'
              go_wp2_with (go_at_call 26; refine (cL _ (hS.below (box_below wr _)) (rc.below (box_below wr _))).mono ?_; rintro e w5 ⟨rfl, s5, q5, z5, p5⟩)
              have bx := box_below wr (.cells #[.bool false, .int .i64 (k' : Int)] 70)
              have o5 : Own8 q3.heap.size w5 vd D := own8_heap20 (own8_below oD bx) (fun j hj => p5 j (fun e => hap (by rw [← e]; exact hj.symm)))
              have g5 := q5 q3.heap.size q3 (below_trans hg bx) hB
              go_roundw
              case rel => exact ⟨k', i + 1, (D.drop (512 * k')).take 512, by go_num, by omega, by rw [HD.out]; exact o5, s5, by rw [List.length_take, List.length_drop, HDl.out]; omega, g5, Or.inr ⟨h2, Hi.out, HE.out, by rw [HD.out]⟩⟩
              case measure => simp [intOf]; omega
            · have z5 := dk_at (A : Int) b.length k' h2 0 (by rw [e]; simp)
              rw [e, Nat.add_zero, h3, List.getElem?_eq_getElem (by omega), z4] at z5
              simp only [List.getElem?_cons_zero, Option.some.injEq, Prod.mk.injEq] at z5
              obtain ⟨rfl, rfl⟩ := z5
              have hKl : Hid (i + 1 = (dkL (A : Int) b.length (k' + 1)).length) := hid (by have := hKl.out; rw [e] at this; simp at this; omega)
              have hh : (∀ j < 512, S.getD j 0 = (ovl d A b k').getD (512 * k' + j) 0) ∨ (A ≤ 512 * k' ∧ 512 * k' + 512 ≤ A + b.length) := Or.inr ⟨by omega, by omega⟩
              clear hLg h5 hi h3 h1 e h4
              clear z4
              have hstp := ovl_step d A b k' S hin hh
              have hSl : (ovs S A b k' 512).length = 512 := ovs_len _ _ _ _ _
              have hDl : (ovl d A b k').length = d.length := ovl_len _ _ _ _
              have hDl2 : (ovl d A b (k' + 1)).length = d.length := ovl_len _ _ _ _
              have cY := fun v w hs h => w_play20 B S b v A k' w hs hS2 h hbl (by omega) (by omega) (by omega)
              have ec : (A : Int) - 512 * (k' : Int) = (A : Int) - (k' : Int) * 512 := by omega
              rw [ec] at cY
              obtain ⟨S2, hS2e⟩ : ∃ S2, ovs S A b k' 512 = S2 := ⟨_, rfl⟩
              rw [hS2e] at cY hstp hSl
              obtain ⟨D, hD⟩ : ∃ D, ovl d A b k' = D := ⟨_, rfl⟩
              obtain ⟨D2, hD2⟩ : ∃ D2, ovl d A b (k' + 1) = D2 := ⟨_, rfl⟩
              rw [hD] at hstp hDl oD
              rw [hD2] at hstp hDl2
              have HD2 := hid hD2
              have HDl2 := hid hDl2
              have HSl := hid hSl
              have Hst := hid hstp
              have HDl := hid hDl
              clear hS2e hD hD2 ec hDl2 hDl hstp hSl hh
              go_upto_region 15 with (go_at_call 27; refine (cY _ _ (hS.below (box_below wr _)) (rb.below (below_trans hg (box_below wr _)))).mono ?_; rintro e w5 ⟨rfl, s5, q5, z5, p5⟩)
              clear cY
              have bx := box_below wr (.cells #[.bool true, .int .i64 (k' : Int)] 70)
              have o5 : Own8 q3.heap.size w5 vd D := own8_heap20 (own8_below oD bx) (fun j hj => p5 j (fun e => hap (by rw [← e]; exact hj.symm)))
              have g5 := q5 q3.heap.size q3 (below_trans hg bx) hB
              have g6 : Below q3.heap.size q3 w5.drew := g5.trans ⟨rfl, rfl, rfl, Nat.le_refl _, fun _ _ => rfl⟩
              have b6 : Below w5.heap.size w5 w5.drew := below_drewN (Below.refl _ _) 1
              obtain ⟨vc, w6, sc, r6, o6, q6, z6, p6⟩ := own8_copy (own8_below o5 b6) ((k' : Int) * 512) (by omega) (sec_rd (s5.below b6) HSl.out) (by rw [HSl.out]; omega) (by rw [HSl.out, HDl.out]; omega)
              rw [HSl.out, show ((k' : Int) * 512).toNat = 512 * k' by omega, Hst.out] at o6
              rw [HSl.out] at r6
              have r7 : ∀ ty, (Builtin.copy_ #[23, 23] ty #[vc, .slice (some ⟨B, 0, none⟩) 512 512]).run Try.prog w5.drew = .ok (.int .i64 512) w6 := r6
              have hap2 : ¬ vd.ownBlock = some B := fun e => hap e.symm
              have s6 : Stands w6 B (ArA .u8 S2) 68 := by
                have := s5.below b6
                unfold Stands at this ⊢
                rw [p6 B hap2]
                exact this
              have b7 := hid (q6 _ _ g6 (Nat.le_refl _))
              have O6 := hid o6
              have S6 := hid s6
              have sa := sec_all B
              clear r6 o6 q6 z6 p6 s6 s5 q5 z5 p5 o5 g5 g6 b6 bx
              go_region
              all_goals (
                go_wp2_with fail
                go_roundw
                case rel => exact ⟨k' + 1, i + 1, S2, by go_num, by omega, by rw [HD2.out]; exact O6.out, S6.out, HSl.out, b7.out, Or.inl (by have := hKl.out; omega)⟩
                case measure => simp [intOf]; omega)
          · have hKl0 := hLg k
            have h4 : ¬ dkK (A : Int) b.length k = [] := by rw [hKe]; simp
            have hin := dk_in Hl1.out hAl h4
            have z5 := dk_at (A : Int) b.length k hk 1 (by rw [hKe]; simp)
            rw [hKe, ← hi, List.getElem?_eq_getElem (by omega), z4] at z5
            simp only [List.getElem?_cons_succ, List.getElem?_cons_zero, Option.some.injEq, Prod.mk.injEq] at z5
            obtain ⟨rfl, rfl⟩ := z5
            have hKl : Hid (i + 1 = (dkL (A : Int) b.length (k + 1)).length) := hid (by have := hKl0.out; rw [hKe] at this; simp at this; omega)
            have hc1 : 512 * (k : Int) < (A : Int) + b.length ∧ (A : Int) < 512 * (k : Int) + 512 := by
              rcases dkK_cases (A : Int) b.length k with ⟨e, hc⟩ | ⟨e, hc1, hc2, hc3⟩ | ⟨e, hc1, hc2, hc3⟩
              · exact absurd e h4
              · exact ⟨hc1, hc2⟩
              · rw [hKe] at e; cases e
            have hh : (∀ j < 512, S.getD j 0 = (ovl d A b k).getD (512 * k + j) 0) ∨ (A ≤ 512 * k ∧ 512 * k + 512 ≤ A + b.length) := Or.inl (by rw [hSe]; exact load_at _ k)
            clear hLg hKl0 h4 hi hKe hSe
            clear z4
            have hstp := ovl_step d A b k S hin hh
            have hSl : (ovs S A b k 512).length = 512 := ovs_len _ _ _ _ _
            have hDl : (ovl d A b k).length = d.length := ovl_len _ _ _ _
            have hDl2 : (ovl d A b (k + 1)).length = d.length := ovl_len _ _ _ _
            have cY := fun v w hs h => w_play20 B S b v A k w hs hS2 h hbl (by omega) (by omega) (by omega)
            have ec : (A : Int) - 512 * (k : Int) = (A : Int) - (k : Int) * 512 := by omega
            rw [ec] at cY
            obtain ⟨S2, hS2e⟩ : ∃ S2, ovs S A b k 512 = S2 := ⟨_, rfl⟩
            rw [hS2e] at cY hstp hSl
            obtain ⟨D, hD⟩ : ∃ D, ovl d A b k = D := ⟨_, rfl⟩
            obtain ⟨D2, hD2⟩ : ∃ D2, ovl d A b (k + 1) = D2 := ⟨_, rfl⟩
            rw [hD] at hstp hDl oD
            rw [hD2] at hstp hDl2
            have HD2 := hid hD2
            have HDl2 := hid hDl2
            have HSl := hid hSl
            have Hst := hid hstp
            have HDl := hid hDl
            clear hS2e hD hD2 ec hDl2 hDl hstp hSl hh
            go_upto_region 15 with (go_at_call 27; refine (cY _ _ (hS.below (box_below wr _)) (rb.below (below_trans hg (box_below wr _)))).mono ?_; rintro e w5 ⟨rfl, s5, q5, z5, p5⟩)
            clear cY
            have bx := box_below wr (.cells #[.bool true, .int .i64 (k : Int)] 70)
            have o5 : Own8 q3.heap.size w5 vd D := own8_heap20 (own8_below oD bx) (fun j hj => p5 j (fun e => hap (by rw [← e]; exact hj.symm)))
            have g5 := q5 q3.heap.size q3 (below_trans hg bx) hB
            have g6 : Below q3.heap.size q3 w5.drew := g5.trans ⟨rfl, rfl, rfl, Nat.le_refl _, fun _ _ => rfl⟩
            have b6 : Below w5.heap.size w5 w5.drew := below_drewN (Below.refl _ _) 1
            obtain ⟨vc, w6, sc, r6, o6, q6, z6, p6⟩ := own8_copy (own8_below o5 b6) ((k : Int) * 512) (by omega) (sec_rd (s5.below b6) HSl.out) (by rw [HSl.out]; omega) (by rw [HSl.out, HDl.out]; omega)
            rw [HSl.out, show ((k : Int) * 512).toNat = 512 * k by omega, Hst.out] at o6
            rw [HSl.out] at r6
            have r7 : ∀ ty, (Builtin.copy_ #[23, 23] ty #[vc, .slice (some ⟨B, 0, none⟩) 512 512]).run Try.prog w5.drew = .ok (.int .i64 512) w6 := r6
            have hap2 : ¬ vd.ownBlock = some B := fun e => hap e.symm
            have s6 : Stands w6 B (ArA .u8 S2) 68 := by
              have := s5.below b6
              unfold Stands at this ⊢
              rw [p6 B hap2]
              exact this
            have b7 := hid (q6 _ _ g6 (Nat.le_refl _))
            have O6 := hid o6
            have S6 := hid s6
            have sa := sec_all B
            clear r6 o6 q6 z6 p6 s6 s5 q5 z5 p5 o5 g5 g6 b6 bx
            go_region
            all_goals (
              go_wp2_with fail
              go_roundw
              case rel => exact ⟨k + 1, i + 1, S2, by go_num, by omega, by rw [HD2.out]; exact O6.out, S6.out, HSl.out, b7.out, Or.inl (by have := hKl.out; omega)⟩
              case measure => simp [intOf]; omega)
        · have hfin : ovl d A b 64 = ovl d A b k := by
            rcases hst with hi | ⟨hk, hi, hKe, hSe⟩
            · exact dk_end d A b (64 - k) k (by omega) (by have := hMn k hk64; omega)
            · have h1 := (hLg k).out
              have h2 := hMn (k + 1) (by omega)
              rw [hKe] at h1
              simp at h1
              omega
          rw [← hfin] at oD
          clear hst hfin hLg hMn
          go_wp2_with fail
          go_ret2
          exact ⟨_, rfl, own8_base oD b3.size, below_trans b3 hg⟩

theorem w_pformed20 (v : Value) (d : List Int) (w : World) (h : Rd .u8 w v d) (hz : d.length ≤ 140737488351232) :
    Calls Try.prog 12 #[v] w fun e w' => e = .returned (.bool (dkB d)) ∧ Below w.heap.size w w' := by
  refine (w_pform20 v d w h hz).mono ?_
  rintro e w' ⟨rfl, rfl⟩
  exact ⟨rfl, Below.refl _ _⟩
theorem w_pplan20 (a n : Int) (w : World) (a0 : -9223372036854775808 ≤ a) (a1 : a < 9223372036854775808) (n0 : -9223372036854775808 ≤ n) (n1 : n < 9223372036854775808) :
    Calls Try.prog 24 #[.int .i64 a, .int .i64 n] w fun e w' => ∃ v', e = .returned (.tuple #[v', .int .i64 (dkP a n).2]) ∧ SlR 2 acR w' v' (dkP a n).1 ∧ Below w.heap.size w w' := by
  refine (w_pplan20o a n w a0 a1 n0 n1).mono ?_
  rintro e w' ⟨v', rfl, o, b⟩
  exact ⟨v', rfl, o.read, b⟩

/-
  The landed package label: window, Window, place, Get, Put; with Make, Parse, Select all six calls in the forms that the laws take.
-/
theorem rd0_21 {d : List Int} (h : dkB d = true) : (dkRd d 0).1 = d.take 512 := by
  unfold dkRd
  rw [if_pos h]
  split
  · simp
  · rename_i hn
    unfold dkN at hn
    have hm := (dk_len h).1
    have h0 : d.length = 0 := by
      have : ¬ (0 ≤ (0 : Int) ∧ (0 : Int) < (d.length : Int) / 512) := by simpa using hn
      omega
    rw [List.eq_nil_of_length_eq_zero h0]
    rfl
/-- a partition's window -/
def wiF (d : List Int) (k : Int) : Int × Int × Int :=
  if (psF (d.take 512)).2 = 0 then
    if (psF (d.take 512)).1.getD (2 * k + 1).toNat 0 = 0 ∨ (d.length : Int) / 512 < (psF (d.take 512)).1.getD (2 * k).toNat 0 + (psF (d.take 512)).1.getD (2 * k + 1).toNat 0 then (0, 0, 24)
    else ((psF (d.take 512)).1.getD (2 * k).toNat 0 * 512, (psF (d.take 512)).1.getD (2 * k + 1).toNat 0 * 512, 0)
  else (0, 0, 24)

set_option maxHeartbeats 4000000 in
set_option maxRecDepth 100000 in
theorem w_pwin21 (v : Value) (d : List Int) (k : Nat) (w : World) (h : Rd .u8 w v d) (hb : bytesL d) (hB : dkB d = true) (hk : k < 8) :
    Calls Try.prog 14 #[v, .int .i64 (k : Int)] w fun e w' => e = .returned (.tuple #[.int .i64 (wiF d k).1, .int .i64 (wiF d k).2.1, .int .i64 (wiF d k).2.2]) ∧ Below w.heap.size w w' := by
  have hlen := rd_len h uB (P := Try.prog)
  obtain ⟨m1, m2⟩ := dk_len hB
  have cr := w_pread20 v d 0 w h (by omega) (by decide) (by decide)
  rw [rd0_21 hB] at cr
  obtain ⟨RE, hRE⟩ : ∃ RE, (dkRd d 0).2 = RE := ⟨_, rfl⟩
  rw [hRE] at cr
  have hbt := bytes_take hb 512
  have cp := fun vt W r => w_pparse21 vt (d.take 512) W r hbt (by rw [List.length_take]; omega)
  obtain ⟨hp0, hpl⟩ := ps_rg (d.take 512)
  have hpu := ps_u32 hbt
  have hwi : Hid (wiF d k = if (psF (d.take 512)).2 = 0 then
    if (psF (d.take 512)).1.getD (2 * (k : Int) + 1).toNat 0 = 0 ∨ (d.length : Int) / 512 < (psF (d.take 512)).1.getD (2 * (k : Int)).toNat 0 + (psF (d.take 512)).1.getD (2 * (k : Int) + 1).toNat 0 then (0, 0, 24)
    else ((psF (d.take 512)).1.getD (2 * (k : Int)).toNat 0 * 512, (psF (d.take 512)).1.getD (2 * (k : Int) + 1).toNat 0 * 512, 0)
  else (0, 0, 24)) := rfl
  obtain ⟨WI, hWI⟩ : ∃ WI, wiF d k = WI := ⟨_, rfl⟩
  rw [hWI] at hwi ⊢
  obtain ⟨ps, pe, hP⟩ : ∃ ps pe, psF (d.take 512) = (ps, pe) := ⟨_, _, rfl⟩
  rw [hP] at hwi hp0 hpl hpu
  simp only [hP] at cp
  simp only at hwi hp0 hpl hpu cp
  have z := zeroL.1
  obtain ⟨Z, hZ⟩ : ∃ Z, ArA .u32 (List.replicate 16 0) = Z := ⟨_, rfl⟩
  rw [hZ] at z
  have zs : Z.size = 16 := by rw [← hZ, ara_size, List.length_replicate]
  have hsz : (ArA .u32 ps).size = 16 := by rw [ara_size, hpl]
  have hrun := fun W : World => run_storeCells_new (P := Try.prog) W 30 Z (ArA .u32 ps) (by rw [hsz]; exact szL) (by rw [hsz, zs]) (ara_one _ _)
  clear hZ hP hWI hRE
  by_cases h5 : pe = 0
  · subst h5
    rw [if_pos rfl] at hwi
    have u0 := u32_get hpu (2 * k)
    have u1 := u32_get hpu (2 * k + 1)
    have F0 := hid (fun (W : World) => (show (W.alloc (.cells (ArA .u32 ps) 30)).cell? ⟨W.heap.size, 2 * k, none⟩ = some (.int .u32 (ps.getD (2 * k) 0)) from box_cell W _ _ _ _ (ara_at _ (by omega))))
    have F1 := hid (fun (W : World) => (show (W.alloc (.cells (ArA .u32 ps) 30)).cell? ⟨W.heap.size, 2 * k + 1, none⟩ = some (.int .u32 (ps.getD (2 * k + 1) 0)) from box_cell W _ _ _ _ (ara_at _ (by omega))))
    have HX := hid (fun (W : World) (w' : World) => pt_ix W.heap.size k .i64 (k : Int) rfl (by omega) w')
    rw [show (2 * (k : Int)).toNat = 2 * k by omega, show (2 * (k : Int) + 1).toNat = 2 * k + 1 by omega] at hwi
    obtain ⟨S, hS⟩ : ∃ S, ps.getD (2 * k) 0 = S := ⟨_, rfl⟩
    obtain ⟨C, hC⟩ : ∃ C, ps.getD (2 * k + 1) 0 = C := ⟨_, rfl⟩
    rw [hS, hC] at hwi
    rw [hS] at F0 u0
    rw [hC] at F1 u1
    have t1 : (d.length : Int).tdiv 512 = (d.length : Int) / 512 := Int.tdiv_eq_ediv_of_nonneg (by omega)
    obtain ⟨D, hD⟩ : ∃ D, (d.length : Int) / 512 = D := ⟨_, rfl⟩
    have hD0 : 0 ≤ D ∧ D ≤ 64 := by omega
    rw [hD] at t1 hwi
    have hwS : IntKind.u64.wrap S = S := by rw [IntKind.wrap_u64]; omega
    have hwC : IntKind.u64.wrap C = C := by rw [IntKind.wrap_u64]; omega
    have hwT : IntKind.u64.wrap (S + C) = S + C := by rw [IntKind.wrap_u64]; omega
    have hwD : IntKind.u64.wrap D = D := by rw [IntKind.wrap_u64]; omega
    have hwD2 : IntKind.i64.wrap D = D := by rw [IntKind.wrap_i64]; omega
    have hwS2 : IntKind.i64.wrap S = S := by rw [IntKind.wrap_i64]; omega
    have hwC2 : IntKind.i64.wrap C = C := by rw [IntKind.wrap_i64]; omega
    have hw1 : IntKind.i64.wrap (S * 512) = S * 512 := by rw [IntKind.wrap_i64]; omega
    have hw2 : IntKind.i64.wrap (C * 512) = C * 512 := by rw [IntKind.wrap_i64]; omega
    clear hS hC hpl hpu hD m1 m2 hB hp0
    have key : Calls Try.prog 14 #[v, .int .i64 (k : Int)] w fun e w' => e = .returned (.tuple #[.int .i64 WI.1, .int .i64 WI.2.1, .int .i64 WI.2.2]) ∧ Below w.heap.size w w' := by
      go_enter Try.func14, Try.ntmps14
      go_upto_region 5 with (first
        | (go_at_call 8; refine cr.mono ?_; rintro e w1 ⟨v1, rfl, o1, b1⟩)
        | (go_at_call 9; refine (cp _ _ (Rd_own o1).1).mono ?_; rintro e w2 ⟨rfl, b2⟩; have hs3 := hrun w2))
      have f0 := F0.out w2
      have f1 := F1.out w2
      have ix := HX.out w2
      have b3 := below_trans b1 (below_trans b2 (box_below w2 (.cells (ArA .u32 ps) 30)))
      clear hs3 hrun F0 F1 HX
      generalize w2.alloc (.cells (ArA .u32 ps) 30) = W3 at f0 f1 b3 ⊢
      go_upto_region 6 with fail
      have k0 := box_cell W3 #[.int .u32 S, .int .u32 C] 29 0 _ rfl
      have k1 := box_cell W3 #[.int .u32 S, .int .u32 C] 29 1 _ rfl
      have b4 := below_trans b3 (box_below W3 (.cells #[.int .u32 S, .int .u32 C] 29))
      clear f0 f1 ix b3
      by_cases h6 : C = 0
      · rw [if_pos (Or.inl h6)] at hwi
        subst h6
        go_wp2_with fail
        go_ret3
        rw [hwi.out]
        exact ⟨rfl, b4⟩
      · have hq6 : (C == 0) = false := by rw [beq_eq_false_iff_ne]; exact h6
        by_cases h7 : D < S + C
        · rw [if_pos (Or.inr h7)] at hwi
          clear h6
          go_wp2_with fail
          go_ret3
          rw [hwi.out]
          exact ⟨rfl, b4⟩
        · rw [if_neg (by omega)] at hwi
          clear h6
          go_wp2_with fail
          go_quiet (fail)
          go_wp2_with fail
          go_ret3
          rw [hwi.out]
          exact ⟨rfl, below_drewN b4 _⟩
    exact key
  · have hpe : pe = 24 := by omega
    subst hpe
    rw [if_neg (by omega)] at hwi
    clear hpl hpu hp0 m1 m2 hB
    go_enter Try.func14, Try.ntmps14
    go_wp2_with (first
      | (go_at_call 8; refine cr.mono ?_; rintro e w1 ⟨v1, rfl, o1, b1⟩)
      | (go_at_call 9; refine (cp _ _ (Rd_own o1).1).mono ?_; rintro e w2 ⟨rfl, b2⟩; have hs3 := hrun w2))
    go_ret3
    rw [hwi.out]
    exact ⟨rfl, below_trans b1 (below_trans b2 (box_below w2 (.cells (ArA .u32 ps) 30)))⟩

theorem wi_wn {d a : List Int} (h1 : dkB d = true) (h2 : (slF a).2.2 = 0) (h3 : ¬ (slF a).1 = -1) : wnF d a = wiF d (slF a).1 := by
  rw [wn_eq, if_pos h1, if_pos h2, if_neg h3]
  rfl

set_option maxHeartbeats 4000000 in
set_option maxRecDepth 100000 in
theorem w_pwindow21 (v : Value) (d : List Int) (s : ByteArray) (w : World) (h : Rd .u8 w v d) (hb : bytesL d) (hz : d.length ≤ 140737488351232) (hs : s.size ≤ 140737488351232) :
    Calls Try.prog 5 #[v, .string s] w fun e w' => e = .returned (.tuple #[.int .i64 (wnF d (LB s)).1, .int .i64 (wnF d (LB s)).2.1, .int .i64 (wnF d (LB s)).2.2]) ∧ Below w.heap.size w w' := by
  have hlen := rd_len h uB (P := Try.prog)
  have cf := w_pform20 v d w h hz
  have cs := fun W => w_pselect21 s W hs
  have hsr := sl_rg (LB s)
  by_cases h1 : dkB d = true
  · rw [h1] at cf
    by_cases h2 : (slF (LB s)).2.2 = 0
    · by_cases h3 : (slF (LB s)).1 = -1
      · have hwn : Hid (wnF d (LB s) = (0, (d.length : Int), 0)) := by show _ = _; rw [wn_eq, if_pos h1, if_pos h2, if_pos h3]
        obtain ⟨T, E, K, hT⟩ : ∃ T E K, slF (LB s) = (K, T, E) := ⟨_, _, _, rfl⟩
        obtain ⟨W, hW⟩ : ∃ W, wnF d (LB s) = W := ⟨_, rfl⟩
        rw [hW] at hwn ⊢
        rw [hT] at h2 h3
        simp only [hT] at cs
        simp only at cs h2 h3
        clear hT hsr hW h1
        subst h2
        subst h3
        go_enter Try.func5, Try.ntmps5
        go_wp2_with (first
          | (go_at_call 12; refine cf.mono ?_; rintro e w1 ⟨rfl, hw⟩; obtain rfl := hw.symm)
          | (go_at_call 13; refine (cs _).mono ?_; rintro e w2 ⟨t2, rfl, -, b2⟩))
        go_ret3
        rw [hwn.out]
        exact ⟨rfl, b2⟩
      · have hwn := hid (wi_wn h1 h2 h3)
        obtain ⟨k, hk⟩ : ∃ k : Nat, (slF (LB s)).1 = (k : Int) := ⟨(slF (LB s)).1.toNat, by omega⟩
        have hk8 : k < 8 := by omega
        have cw := fun W r => w_pwin21 v d k W r hb h1 hk8
        obtain ⟨T, E, K, hT⟩ : ∃ T E K, slF (LB s) = (K, T, E) := ⟨_, _, _, rfl⟩
        obtain ⟨W, hW⟩ : ∃ W, wnF d (LB s) = W := ⟨_, rfl⟩
        rw [hW] at hwn ⊢
        rw [hT] at h2 h3 hk
        rw [hT] at hwn
        simp only [hT] at cs
        simp only at cs h2 h3 hk
        subst h2
        subst hk
        have HW := hid (show wiF d (k : Int) = W from hwn.out.symm)
        simp only [HW.out] at cw
        have hq : ((k : Int) == -1) = false := by rw [beq_eq_false_iff_ne]; omega
        clear hT hsr hW h1 hwn HW h3
        go_enter Try.func5, Try.ntmps5
        go_wp2_with (first
          | (go_at_call 12; refine cf.mono ?_; rintro e w1 ⟨rfl, hw⟩; obtain rfl := hw.symm)
          | (go_at_call 13; refine (cs _).mono ?_; rintro e w2 ⟨t2, rfl, -, b2⟩)
          | (go_at_call 14; refine (cw _ (h.below b2)).mono ?_; rintro e w3 ⟨rfl, b3⟩))
        go_ret3
        exact ⟨rfl, below_trans b2 b3⟩
    · have hwn : Hid (wnF d (LB s) = (0, 0, 15)) := by
        show _ = _
        rw [wn_eq, if_pos h1, if_neg h2]
        rcases hsr.2.2 with hx | hx
        · exact absurd hx h2
        · rw [hx]
      have hE : (slF (LB s)).2.2 = 15 := by rcases hsr.2.2 with hx | hx; exact absurd hx h2; exact hx
      obtain ⟨T, E, K, hT⟩ : ∃ T E K, slF (LB s) = (K, T, E) := ⟨_, _, _, rfl⟩
      obtain ⟨W, hW⟩ : ∃ W, wnF d (LB s) = W := ⟨_, rfl⟩
      rw [hW] at hwn ⊢
      rw [hT] at hE
      simp only [hT] at cs
      simp only at cs hE
      subst hE
      clear hT hsr hW h1 h2
      go_enter Try.func5, Try.ntmps5
      go_wp2_with (first
        | (go_at_call 12; refine cf.mono ?_; rintro e w1 ⟨rfl, hw⟩; obtain rfl := hw.symm)
        | (go_at_call 13; refine (cs _).mono ?_; rintro e w2 ⟨t2, rfl, -, b2⟩))
      go_ret3
      rw [hwn.out]
      exact ⟨rfl, b2⟩
  · have hwn : Hid (wnF d (LB s) = (0, 0, 1)) := by show _ = _; rw [wn_eq, if_neg h1]
    have h1' : dkB d = false := by simpa using h1
    obtain ⟨W, hW⟩ : ∃ W, wnF d (LB s) = W := ⟨_, rfl⟩
    rw [hW] at hwn ⊢
    rw [h1'] at cf
    clear h1 cs hsr hW h1'
    go_enter Try.func5, Try.ntmps5
    go_wp2_with (go_at_call 12; refine cf.mono ?_; rintro e w1 ⟨rfl, hw⟩; obtain rfl := hw.symm)
    go_ret3
    rw [hwn.out]
    exact ⟨rfl, Below.refl _ _⟩

theorem ins_eq (d a : List Int) (t n : Int) (hb : bytesL d) : insF d a t n = if (wnF d a).2.2 = 0 then if t < 0 ∨ n < 0 ∨ (wnF d a).2.1 - t < n then (0, 23) else ((wnF d a).1 + t, 0) else (0, (wnF d a).2.2) := by
  unfold insF
  by_cases h : (wnF d a).2.2 = 0
  · rw [if_pos h, if_pos h]
    by_cases h2 : t < 0 ∨ n < 0 ∨ (wnF d a).2.1 < t ∨ (wnF d a).2.1 - t < n
    · rw [if_pos h2, if_pos (by omega)]
    · rw [if_neg h2, if_neg (by omega)]
  · rw [if_neg h, if_neg h]

set_option maxHeartbeats 4000000 in
set_option maxRecDepth 100000 in
theorem w_pplace21 (v : Value) (d : List Int) (s : ByteArray) (a n : Int) (w : World) (h : Rd .u8 w v d) (hb : bytesL d) (hz : d.length ≤ 140737488351232) (hs : s.size ≤ 140737488351232) (a0 : -9223372036854775808 ≤ a) (a1 : a < 9223372036854775808) (n0 : -9223372036854775808 ≤ n) (n1 : n < 9223372036854775808) :
    Calls Try.prog 15 #[v, .string s, .int .i64 a, .int .i64 n] w fun e w' => e = .returned (.tuple #[.int .i64 (insF d (LB s) a n).1, .int .i64 (insF d (LB s) a n).2]) ∧ Below w.heap.size w w' := by
  have cw := w_pwindow21 v d s w h hb hz hs
  have hok := fun hh => wn_ok (a := LB s) hb hh
  have hin := hid (ins_eq d (LB s) a n hb)
  obtain ⟨I, hI⟩ : ∃ I, insF d (LB s) a n = I := ⟨_, rfl⟩
  obtain ⟨E, hE⟩ : ∃ E, (wnF d (LB s)).2.2 = E := ⟨_, rfl⟩
  obtain ⟨M, hM⟩ : ∃ M, (wnF d (LB s)).2.1 = M := ⟨_, rfl⟩
  obtain ⟨B, hB⟩ : ∃ B, (wnF d (LB s)).1 = B := ⟨_, rfl⟩
  rw [hE, hM, hB] at hin cw hok
  rw [hI] at hin ⊢
  clear hI hE hM hB
  by_cases h1 : E = 0
  · obtain ⟨-, k1, k2, k3⟩ := hok h1
    subst h1
    rw [if_pos rfl] at hin
    have hd : (d.length : Int) ≤ 140737488351232 := by omega
    by_cases h2 : a < 0
    · rw [if_pos (Or.inl h2)] at hin
      go_enter Try.func15, Try.ntmps15
      go_wp2_with (go_at_call 5; refine cw.mono ?_; rintro e w1 ⟨rfl, b1⟩)
      go_ret2
      rw [hin.out]
      exact ⟨rfl, b1⟩
    · by_cases h3 : n < 0
      · rw [if_pos (Or.inr (Or.inl h3))] at hin
        go_enter Try.func15, Try.ntmps15
        go_wp2_with (go_at_call 5; refine cw.mono ?_; rintro e w1 ⟨rfl, b1⟩)
        go_ret2
        rw [hin.out]
        exact ⟨rfl, b1⟩
      · have hwm : IntKind.i64.wrap (M - a) = M - a := by rw [IntKind.wrap_i64]; omega
        by_cases h5 : M - a < n
        · rw [if_pos (Or.inr (Or.inr h5))] at hin
          go_enter Try.func15, Try.ntmps15
          go_wp2_with (go_at_call 5; refine cw.mono ?_; rintro e w1 ⟨rfl, b1⟩)
          go_ret2
          rw [hin.out]
          exact ⟨rfl, b1⟩
        · rw [if_neg (by omega)] at hin
          have hwb : IntKind.i64.wrap (B + a) = B + a := by rw [IntKind.wrap_i64]; omega
          go_enter Try.func15, Try.ntmps15
          go_wp2_with (go_at_call 5; refine cw.mono ?_; rintro e w1 ⟨rfl, b1⟩)
          go_ret2
          rw [hin.out]
          exact ⟨rfl, b1⟩
  · rw [if_neg h1] at hin
    have hq : (E != 0) = true := by simpa using h1
    clear hok
    go_enter Try.func15, Try.ntmps15
    go_wp2_with (go_at_call 5; refine cw.mono ?_; rintro e w1 ⟨rfl, b1⟩)
    go_ret2
    rw [hin.out]
    exact ⟨rfl, b1⟩

set_option maxHeartbeats 4000000 in
set_option maxRecDepth 100000 in
theorem w_plget21 (v : Value) (d : List Int) (s : ByteArray) (a n : Int) (w : World) (h : Rd .u8 w v d) (hb : bytesL d) (hz : d.length ≤ 140737488351232) (hs : s.size ≤ 140737488351232) (a0 : -9223372036854775808 ≤ a) (a1 : a < 9223372036854775808) (n0 : -9223372036854775808 ≤ n) (n1 : n < 9223372036854775808) :
    Calls Try.prog 7 #[v, .string s, .int .i64 a, .int .i64 n] w fun e w' => ∃ v', e = .returned (.tuple #[v', .int .i64 (lgF d (LB s) a n).2]) ∧ Own8 w.heap.size w' v' (lgF d (LB s) a n).1 ∧ Below w.heap.size w w' := by
  have ci := w_pplace21 v d s a n w h hb hz hs a0 a1 n0 n1
  have hok := fun hh => ins_ok (a := LB s) (at_ := a) (n := n) hb hh
  have hwo := fun hh => wn_ok (a := LB s) hb hh
  have hlg : Hid (lgF d (LB s) a n = if (insF d (LB s) a n).2 = 0 then dkGt d (insF d (LB s) a n).1 n else ([], (insF d (LB s) a n).2)) := rfl
  obtain ⟨G, hG⟩ : ∃ G, lgF d (LB s) a n = G := ⟨_, rfl⟩
  obtain ⟨K, E, hE⟩ : ∃ K E, insF d (LB s) a n = (K, E) := ⟨_, _, rfl⟩
  rw [hE] at hlg ci hok
  rw [hG] at hlg ⊢
  simp only at hlg ci hok
  clear hG hE
  by_cases h1 : E = 0
  · obtain ⟨k0, k1, k2, k3, k4⟩ := hok h1
    obtain ⟨-, k5, k6, k7⟩ := hwo k0
    subst h1
    rw [if_pos rfl] at hlg
    have cg := fun W r => w_pget20 v d K n W r hz (by omega) (by omega) n0 n1
    obtain ⟨D, hD⟩ : ∃ D, dkGt d K n = D := ⟨_, rfl⟩
    rw [hD] at hlg
    simp only [hD] at cg
    clear hD hok hwo k0 k1 k2 k3 k4 k5 k6 k7
    go_enter Try.func7, Try.ntmps7
    go_wp2_with (first
      | (go_at_call 15; refine ci.mono ?_; rintro e w1 ⟨rfl, b1⟩)
      | (go_at_call 17; refine (cg _ (h.below b1)).mono ?_; rintro e w2 ⟨v2, rfl, o2, b2⟩))
    go_ret2
    rw [hlg.out]
    exact ⟨_, rfl, own8_base o2 b1.size, below_trans b1 b2⟩
  · rw [if_neg h1] at hlg
    have hq : (E != 0) = true := by simpa using h1
    clear hok hwo
    go_enter Try.func7, Try.ntmps7
    go_wp2_with (go_at_call 15; refine ci.mono ?_; rintro e w1 ⟨rfl, b1⟩)
    go_ret2
    rw [hlg.out]
    exact ⟨_, rfl, own8_nil _ _, b1⟩

set_option maxHeartbeats 4000000 in
set_option maxRecDepth 100000 in
theorem w_plput21 (v vb : Value) (d b : List Int) (s : ByteArray) (a : Int) (w : World) (h : Rd .u8 w v d) (rb : Rd .u8 w vb b) (hb : bytesL d) (hz : d.length ≤ 140737488351232) (hs : s.size ≤ 140737488351232) (a0 : -9223372036854775808 ≤ a) (a1 : a < 9223372036854775808) :
    Calls Try.prog 6 #[v, .string s, .int .i64 a, vb] w fun e w' => ∃ v', e = .returned (.tuple #[v', .int .i64 (lpF d (LB s) a b).2]) ∧ Own8 w.heap.size w' v' (lpF d (LB s) a b).1 ∧ Below w.heap.size w w' := by
  have hbl := rd_len rb uB (P := Try.prog)
  have hbm := rd_max rb
  unfold maxLen at hbm
  have ci := w_pplace21 v d s a b.length w h hb hz hs a0 a1 (by omega) (by omega)
  have hok := fun hh => ins_ok (a := LB s) (at_ := a) (n := b.length) hb hh
  have hwo := fun hh => wn_ok (a := LB s) hb hh
  have hlg : Hid (lpF d (LB s) a b = if (insF d (LB s) a b.length).2 = 0 then dkPt d (insF d (LB s) a b.length).1 b else ([], (insF d (LB s) a b.length).2)) := rfl
  obtain ⟨G, hG⟩ : ∃ G, lpF d (LB s) a b = G := ⟨_, rfl⟩
  obtain ⟨K, E, hE⟩ : ∃ K E, insF d (LB s) a b.length = (K, E) := ⟨_, _, rfl⟩
  rw [hE] at hlg ci hok
  rw [hG] at hlg ⊢
  simp only at hlg ci hok
  clear hG hE
  by_cases h1 : E = 0
  · obtain ⟨k0, k1, k2, k3, k4⟩ := hok h1
    obtain ⟨-, k5, k6, k7⟩ := hwo k0
    subst h1
    rw [if_pos rfl] at hlg
    have cg := fun W r r2 => w_pput20 v vb d b K W r r2 hz (by omega) (by omega)
    obtain ⟨D, hD⟩ : ∃ D, dkPt d K b = D := ⟨_, rfl⟩
    rw [hD] at hlg
    simp only [hD] at cg
    clear hD hok hwo k0 k1 k2 k3 k4 k5 k6 k7
    go_enter Try.func6, Try.ntmps6
    go_wp2_with (first
      | (go_at_call 15; refine ci.mono ?_; rintro e w1 ⟨rfl, b1⟩)
      | (go_at_call 16; refine (cg _ (h.below b1) (rb.below b1)).mono ?_; rintro e w2 ⟨v2, rfl, o2, b2⟩))
    go_ret2
    rw [hlg.out]
    exact ⟨_, rfl, own8_base o2 b1.size, below_trans b1 b2⟩
  · rw [if_neg h1] at hlg
    have hq : (E != 0) = true := by simpa using h1
    clear hok hwo
    go_enter Try.func6, Try.ntmps6
    go_wp2_with (go_at_call 15; refine ci.mono ?_; rintro e w1 ⟨rfl, b1⟩)
    go_ret2
    rw [hlg.out]
    exact ⟨_, rfl, own8_nil _ _, b1⟩

/-
  The fixed fact of layer 20's statements: alive returns true; rows of noughts.
-/
theorem made_zero (n : Nat) : (madeCells #[.int .u8 0] n).toList = (List.replicate n (0 : Int)).map (Value.int .u8) := by
  unfold madeCells
  rw [List.map_replicate]
  apply List.ext_getElem
  · simp
  · intro i h1 h2
    simp [Nat.mod_one]
theorem own_zero (n : Nat) (hn : n ≤ maxLen) (w : World) : Own8 w.heap.size (w.alloc (.cells (madeCells #[.int .u8 0] n) 5)) (.slice (some ⟨w.heap.size, 0, none⟩) n n) (List.replicate n 0) := by
  have hs : (madeCells #[.int .u8 0] n).size = n := size_madeCells _ _
  refine ⟨by rw [List.length_map, List.length_replicate]; exact (Nat.mul_one n).symm, .inr ⟨w.heap.size, n, _, by rw [List.length_replicate], Nat.le_refl _, heap_alloc_new w _, by rw [List.length_replicate]; exact Nat.le_refl _, hn, by rw [hs, Nat.mul_one], ?_⟩⟩
  rw [made_zero, List.length_replicate]
  exact List.take_of_length_le (by rw [List.length_map, List.length_replicate, Nat.mul_one]; exact Nat.le_refl _)
theorem mk_zero (N : Int) (n : Nat) (h0 : N = n) (hm : n ≤ 281474976710656) (w : World) : (Instr.makeSlice 23 (.int .i64 N) (.int .i64 N)).run Try.prog w = .ok (.slice (some ⟨w.heap.size, 0, none⟩) n n) (w.alloc (.cells (madeCells #[.int .u8 0] n) 5)) := by
  subst h0
  exact run_make_row' 23 5 (.int .u8 0) 1 Try.underlying23 infoU8 rfl .i64 .i64 n (by omega) (by omega) w
theorem zero_bytes (n : Nat) : bytesL (List.replicate n 0) := by
  intro x hx
  rw [List.eq_of_mem_replicate hx]
  decide
theorem all_by (l : List Int) (h : l.all (fun x => decide (0 ≤ x ∧ x < 256)) = true) : bytesL l := by
  intro x hx
  have := List.all_eq_true.1 h x hx
  simpa using this
def alD : List Int := List.replicate 511 0 ++ [7, 8] ++ List.replicate 511 0
theorem al_put : dkPt (List.replicate 1024 0) 511 [7, 8] = (alD, 0) := by kernel_rfl
theorem al_read : dkRd alD 1 = (8 :: List.replicate 511 0, 0) := by kernel_rfl
theorem al_plan : dkP 510 4 = ([(false, 0), (true, 0), (false, 1), (true, 1)], 0) := by kernel_rfl
theorem alD_len : alD.length = 1024 := by kernel_rfl
theorem al_len : (8 :: List.replicate 511 (0 : Int)).length = 512 := by kernel_rfl

/-
  What is put into two windows, as it came in; rows of the call's own while other blocks are written.
-/
abbrev Wrt := Bool × Int × List Int
def wrR (w : World) (cs : List Value) (p : Wrt) : Prop := ∃ v, cs = [.bool p.1, .int .i64 p.2.1, v] ∧ Rd .u8 w v p.2.2
theorem wrR_below {w w' : World} (g : Below w.heap.size w w') (cs : List Value) (x : Wrt) (h : wrR w cs x) : wrR w' cs x := by
  obtain ⟨v, h1, h2⟩ := h
  exact ⟨v, h1, h2.below g⟩
def gWr (p : Wrt) : Prop := (-9223372036854775808 ≤ p.2.1 ∧ p.2.1 < 9223372036854775808) ∧ bytesL p.2.2 ∧ p.2.2.length ≤ 140737488351232
theorem wr_str : Try.prog.underlying 34 = some (.struct (Try.prog.fieldsOf 34)) := by kernel_rfl
theorem wrFs : (Try.prog.fieldsOf 34).toList.map (fun f => (f.type, f.offset)) = [(4, 0), (3, 1), (23, 2)] := by kernel_rfl
theorem uWr : Try.prog.underlying 22 = some (.slice (Try.prog.elem 22)) := by kernel_rfl
theorem eWr : Try.prog.elem 22 = 34 := by kernel_rfl
theorem zWr (w : World) : (sizeOf (Try.prog.elem 22)).run Try.prog w = .ok 3 w := by rw [eWr]; exact Try.sizeOf34 w
set_option maxRecDepth 100000 in
theorem wr_trod {H : Type} {enc : TypeId × Value → H} {W : World} (fuel : Nat) (cs : List Value) (y : DataW H × List MemPlace) (h : DataW.trod enc Try.prog W 0 (fun _ => true) true fuel 34 cs = some y) (hw : ∀ n ∈ y.1.weights Try.prog 34, n ≤ reachBytes) :
    ∃ x : Wrt, wrR W cs x ∧ gWr x := by
  obtain ⟨xs, n, _, rfl, hl, hlen, hf⟩ := DataW.trod_struct wr_str h
  rw [show Try.prog.cellsOf 34 = 3 by kernel_rfl] at hl
  rw [show (Try.prog.fieldsOf 34).size = 3 by kernel_rfl] at hlen
  match cs, hl with
  | [c0, c1, c2], _ =>
    have g0 := str_field wr_str hf wrFs hw 0 4 0 rfl (by kernel_rfl) (by omega)
    have g1 := str_field wr_str hf wrFs hw 1 3 1 rfl (by kernel_rfl) (by omega)
    have g2 := str_field wr_str hf wrFs hw 2 23 2 rfl (by kernel_rfl) (by omega)
    obtain ⟨q, q1, q2⟩ := DataW.trod_bool Try.underlying4 g0.1
    obtain ⟨k, k1, k2, k3⟩ := DataW.trod_int Try.underlying3 g1.1
    obtain ⟨a, l, c, u, e1, hu, hf1, hz⟩ := rd_trod Try.underlying23 Try.underlying5 (by kernel_rfl) g2.1 g2.2
    simp at q1 k1 e1
    subst q1 k1 e1
    rw [show Try.prog.bytesOf 5 = 1 by kernel_rfl] at hz
    unfold reachBytes at hz
    refine ⟨(q, k, u), ⟨_, rfl, hu⟩, ?_, ?_, by simp only; omega⟩
    · simp [Lit.wf, IntKind.min, IntKind.max, IntKind.bits, IntKind.signed] at k3
      simp only
      omega
    · intro n hn
      have := hf1 n hn
      simp [Lit.wf, IntKind.min, IntKind.max, IntKind.bits, IntKind.signed] at this
      omega
theorem wrs_open {H : Type} {enc : TypeId × Value → H} {W : World} {a : Option Addr} {len cap : Nat} {d : DataW H} {ps : List MemPlace} (h : DataW.Trod enc Try.prog W 0 (fun _ => true) true 22 (.slice a len cap) d ps) (hw : ∀ n ∈ d.weights Try.prog 22, n ≤ reachBytes) :
    ∃ xs : List Wrt, SlR 3 wrR W (.slice a len cap) xs ∧ ∀ x ∈ xs, gWr x := by
  obtain ⟨fuel, hf⟩ := h
  obtain ⟨a', l', c', xs, e, h1, h2, _⟩ := slr_trod wrR gWr (e := 34) Try.underlying22 (show Try.prog.cellsOf 34 = 3 by kernel_rfl) (by omega) (show DataW.trod enc Try.prog W 0 (fun _ => true) true fuel 22 [.slice a len cap] = some (d, ps) from hf) hw (fun n cs z h1 h2 => wr_trod n cs z h1 h2)
  simp only [List.cons.injEq, Value.slice.injEq, and_true] at e
  obtain ⟨rfl, rfl, rfl⟩ := e
  exact ⟨xs, h1, h2⟩
theorem wr_at {w : World} {v : Value} {xs : List Wrt} (h : SlR 3 wrR w v xs) (hg : ∀ x ∈ xs, gWr x) (i : Nat) (h1 : i < xs.length) :
    ∃ (b o : Nat) (Z : Bool) (A : Int) (c : Value) (D : List Int), (∀ w', (Instr.indexAt 22 v (.int .i64 (i : Int))).run Try.prog w' = .ok (.pointer (some ⟨b, o, none⟩)) w') ∧ w.cell? ⟨b, o, none⟩ = some (.bool Z) ∧ w.cell? ⟨b, o + 1, none⟩ = some (.int .i64 A) ∧ w.cell? ⟨b, o + 2, none⟩ = some c ∧ Rd .u8 w c D ∧ gWr (Z, A, D) := by
  obtain ⟨b, o, row, r, hl, hc, hR⟩ := slr_idxN h uWr zWr i h1
  obtain ⟨v', h2, h3⟩ := hR
  have e0 := hc 0 (by omega)
  have e1 := hc 1 (by omega)
  have e2 := hc 2 (by omega)
  rw [h2] at e0 e1 e2
  exact ⟨b, o, _, _, v', _, r, e0, e1, e2, h3, hg _ (List.getElem_mem h1)⟩

/-- a row of the call's own stands while other blocks are written -/
theorem own8_heap {w w' : World} {base : Nat} {v : Value} {xs : List Int} (h : Own8 base w v xs) (hk : ∀ k, v.ownBlock = some k → w'.heap[k]? = w.heap[k]?) : Own8 base w' v xs := by
  obtain ⟨hl, h⟩ := h
  refine ⟨hl, ?_⟩
  rcases h with h | ⟨b, cap, cur, rfl, hb, hg, hc⟩
  · exact Or.inl h
  · refine Or.inr ⟨b, cap, cur, rfl, hb, ?_, hc⟩
    rw [hk b rfl]
    exact hg

end Go.Proofs.Ytnaoefjcfmdenab
