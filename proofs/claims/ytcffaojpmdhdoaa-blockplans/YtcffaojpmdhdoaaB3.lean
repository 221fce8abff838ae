/-
  Texts of one proof, laid one behind the other: Cpa8 Bkd Bkp Bkl Arr.
-/
import Derived.Test.YtcffaojpmdhdoaaB2
import Derived.Laws.CopyOwn
import Derived.Deep.OwnRows
import Derived.WalkKit
import Derived.ProofKit
import Derived.OpenShut
namespace Go.Proofs.Ytcffaojpmdhdoaa
open Go.ChangeShapes Go.WideShapes Go.ChangeAt Go.RowKit
set_option linter.unusedVariables false
set_option linter.unusedSimpArgs false

/-
  copy into a block of integers of the call's own, any integers, any length of what is copied; which blocks stand. No Go text in sight.
-/
theorem copy_ar {P : Program} {k : IntKind} {w : World} {sl el : TypeId} (hu : P.underlying sl = some (.slice el)) (hsz : (P.info? el).map (·.size) = some 1) {dp : Option Addr} {g off n : Nat} (hdp : 0 < n → dp = some ⟨g, off, none⟩) {cur : List Int} {T : TypeId} (hg : Stands w g (ArA k cur) T) {vs : Value} {xs : List Int} (hr : Rd k w vs xs) (hfit : off + n ≤ cur.length) :
    ∃ w', (∀ ty, (Builtin.copy_ #[sl, sl] ty #[.slice dp n n, vs]).run P w = .ok (.int .i64 ((xs.length.min n : Nat) : Int)) w') ∧
      Stands w' g (ArA k (cur.take off ++ xs.take n ++ cur.drop (off + (xs.take n).length))) T ∧ (∀ (B : Nat) (w0 : World), Below B w0 w → B ≤ g → Below B w0 w') ∧ w'.heap.size = w.heap.size ∧ ∀ b, ¬ b = g → w'.heap[b]? = w.heap[b]? := by
  obtain ⟨ao, cap, rfl, hc, hnn, hx⟩ := rd_form hr
  rcases Nat.eq_zero_or_pos (xs.length.min n) with h0 | h0
  · have hx0 : xs.take n = [] := by
      rw [List.take_eq_nil_iff]
      rcases Nat.eq_zero_or_pos n with hn | hn
      · exact Or.inl hn
      · refine Or.inr (List.eq_nil_of_length_eq_zero ?_)
        have : min xs.length n = 0 := h0
        omega
    refine ⟨w, fun ty => ?_, by rw [hx0]; simpa using hg, fun _ _ h _ => h, rfl, fun _ _ => rfl⟩
    have := run_copy_none (P := P) w sl sl ty _ dp ao n n xs.length cap hu hsz h0
    rw [h0]
    simpa [goInt] using this
  · have hmin : 0 < min xs.length n := h0
    obtain ⟨hm, b, o2, rfl, hcell⟩ := hx (by omega)
    obtain rfl := hdp (by omega)
    unfold Stands at hg
    have hlen : ((xs.take n).map (Value.int k)).length = xs.length.min n := by rw [List.length_map, List.length_take]; exact Nat.min_comm _ _
    have hrun := fun ty => run_copy_row (P := P) w sl sl ty _ g off n n ⟨b, o2, none⟩ xs.length cap (ArA k cur) T ((xs.take n).map (Value.int k)) hu hsz hg hlen ?_ (by rw [ara_size, hlen]; have := Nat.min_le_right xs.length n; show off + min xs.length n ≤ _; omega) ?_
    · rw [hlen] at hrun
      refine ⟨_, hrun, ?_, fun B w0 hb hB => below_setRow hb hB _, by simp [World.setRow], fun q hq => ?_⟩
      · unfold Stands
        rw [setRow_heap w g _ _ T _ hg]
        congr 2
        rw [List.length_take, Nat.min_comm n]
        simp [ArA]
      · simp only [World.setRow]
        rw [Array.getElem?_modify, if_neg (fun h => hq h.symm)]
    · intro j v hj
      rw [List.getElem?_map, List.getElem?_take] at hj
      split at hj
      · rename_i hjn
        cases hq : xs[j]? with
        | none => rw [hq] at hj; cases hj
        | some y =>
          rw [hq] at hj
          simp at hj
          subst hj
          have hj2 : j < xs.length := by
            rcases Nat.lt_or_ge j xs.length with h | h
            · exact h
            · rw [List.getElem?_eq_none h] at hq; cases hq
          have := hcell j hj2
          rw [List.getD_eq_getElem?_getD, hq] at this
          simp at this
          by_cases hz : j = 0
          · subst hz; simpa [Addr.add] using this
          · simpa [Addr.add, hz] using this
      · cases hj
    · intro v hv
      simp only [List.mem_map] at hv
      obtain ⟨y, _, rfl⟩ := hv
      rfl

/-
  The landed package block: a sector, loaded and laid into.
-/
theorem arrS : Try.prog.underlying 49 = some (.array (Try.prog.arrayLen 49) (Try.prog.elem 49)) := by kernel_rfl
theorem elS : Try.prog.elem 49 = 5 := by kernel_rfl
theorem lenS : Try.prog.arrayLen 49 = 512 := by kernel_rfl
theorem infoB1 : (Try.prog.info? (Try.prog.elem 22)).map (·.size) = some 1 := by kernel_rfl
/-- from a place of the sector on -/
theorem sec_cut (B : Nat) (lo : Int) (h0 : 0 ≤ lo) (h1 : lo ≤ 512) :
    ∃ dp : Option Addr, (0 < 512 - lo.toNat → dp = some ⟨B, lo.toNat, none⟩) ∧ ∀ w', (Instr.sliceAt 49 (.pointer (some ⟨B, 0, none⟩)) (some (.int .i64 lo)) none none).run Try.prog w' = .ok (.slice dp (512 - lo.toNat) (512 - lo.toNat)) w' := by
  refine ⟨some (if 512 = lo.toNat then ⟨B, 0, none⟩ else (⟨B, 0, none⟩ : Addr).add (lo.toNat * 1)), fun h => ?_, fun w' => ?_⟩
  · rw [if_neg (by omega), Nat.mul_one]
    unfold Addr.add
    split
    · rename_i hz; rw [hz]
    · simp
  · rw [run_sliceAt_array_l w' 49 ⟨B, 0, none⟩ arrS .i64 lo h0 (by rw [lenS]; omega), elS, Try.sizeOf5, lenS]
    rfl
theorem sec_all (B : Nat) (w' : World) : (Instr.sliceAt 49 (.pointer (some ⟨B, 0, none⟩)) none none none).run Try.prog w' = .ok (.slice (some ⟨B, 0, none⟩) 512 512) w' := by
  rw [run_sliceAt_array_all w' 49 ⟨B, 0, none⟩ arrS, elS, Try.sizeOf5, lenS]
  rfl
/-- what a call that writes the sector leaves: the sector's new bytes, all else stands -/
def SecW (w w' : World) (B : Nat) (S : List Int) : Prop := Stands w' B (ArA .u8 S) 49 ∧ (∀ (C : Nat) (w0 : World), Below C w0 w → C ≤ B → Below C w0 w') ∧ w'.heap.size = w.heap.size ∧ ∀ b, ¬ b = B → w'.heap[b]? = w.heap[b]?

set_option maxHeartbeats 1000000 in
set_option maxRecDepth 100000 in
theorem w_pload20 (B : Nat) (S x : List Int) (v : Value) (w : World) (hs : Stands w B (ArA .u8 S) 49) (hl : S.length = 512) (h : Rd .u8 w v x) (hx : 512 ≤ x.length) :
    Calls Try.prog 27 #[.pointer (some ⟨B, 0, none⟩), v] w fun e w' => e = .returned (.tuple #[]) ∧ SecW w w' B (x.take 512) := by
  have sl := sec_all B
  obtain ⟨w1, r1, s1, q1, z1, p1⟩ := copy_ar (P := Try.prog) (sl := 22) uB infoB1 (dp := some ⟨B, 0, none⟩) (off := 0) (n := 512) (fun _ => rfl) hs h (by omega)
  rw [load_all S x hl hx] at s1
  have hm : x.length.min 512 = 512 := by show min x.length 512 = 512; omega
  rw [hm] at r1
  have r2 : ∀ ty, (Builtin.copy_ #[22, 22] ty #[.slice (some ⟨B, 0, none⟩) 512 512, v]).run Try.prog w = .ok (.int .i64 512) w1 := r1
  have S1 := hid s1
  clear r1 hm s1
  go_enter Try.func27, Try.ntmps27
  go_wp2_with fail
  go_end0
  exact ⟨rfl, S1.out, q1, z1, p1⟩

set_option maxHeartbeats 1000000 in
set_option maxRecDepth 100000 in
theorem w_play20 (B : Nat) (S b : List Int) (v : Value) (a k : Nat) (w : World) (hs : Stands w B (ArA .u8 S) 49) (hl : S.length = 512) (h : Rd .u8 w v b) (hz : b.length ≤ 32768) (h1 : a < 512 * k + 512) (h2 : 512 * k < a + b.length) (ha : a ≤ 32768) :
    Calls Try.prog 28 #[.pointer (some ⟨B, 0, none⟩), v, .int .i64 ((a : Int) - 512 * (k : Int))] w fun e w' => e = .returned (.tuple #[]) ∧ SecW w w' B (ovs S a b k 512) := by
  by_cases hc : (a : Int) - 512 * (k : Int) < 0
  · obtain ⟨F, hF⟩ : ∃ F, (a : Int) - 512 * (k : Int) = F := ⟨_, rfl⟩
    obtain ⟨vc, rc, -, -, sc'⟩ := rd_cutI h uB zB (-F) b.length (by omega) (by omega) (by omega)
    have sc := sc' rfl
    rw [List.take_of_length_le (by rw [List.length_drop]; omega), show (-F).toNat = 512 * k - a by omega] at rc
    have sl := sec_all B
    rw [hF] at hc ⊢
    have hw : IntKind.i64.wrap (-F) = -F := by rw [IntKind.wrap_i64]; omega
    have bd : Below w.heap.size w w.drew := below_drewN (Below.refl _ _) 1
    obtain ⟨w1, r1, s1, q1, z1, p1⟩ := copy_ar (P := Try.prog) (sl := 22) uB infoB1 (dp := some ⟨B, 0, none⟩) (off := 0) (n := 512) (fun _ => rfl) (hs.below bd) (rc.below bd) (by omega)
    rw [lay_off S b a k hl (by omega)] at s1
    have S1 := hid s1
    have QQ : Hid (∀ (C : Nat) (w0 : World), Below C w0 w → C ≤ B → Below C w0 w1) := hid fun C w0 h hC => q1 C w0 (h.trans ⟨rfl, rfl, rfl, Nat.le_refl _, fun _ _ => rfl⟩) hC
    have ZZ := hid z1
    have PP := hid p1
    clear s1 q1 z1 p1 hF sc' h1 h2
    go_enter Try.func28, Try.ntmps28
    go_wp2_with fail
    go_region
    all_goals (
      go_wp2_with fail
      refine bodyPost_ret (results_none rfl _ _ _) rfl ?_
      exact ⟨rfl, S1.out, QQ.out, ZZ.out, PP.out⟩)
  · obtain ⟨F, hF⟩ : ∃ F, (a : Int) - 512 * (k : Int) = F := ⟨_, rfl⟩
    obtain ⟨dp, hdp, sl⟩ := sec_cut B F (by omega) (by omega)
    rw [hF] at hc ⊢
    obtain ⟨w1, r1, s1, q1, z1, p1⟩ := copy_ar (P := Try.prog) (sl := 22) uB infoB1 (dp := dp) (off := F.toNat) (n := 512 - F.toNat) hdp hs h (by omega)
    rw [show F.toNat = a - 512 * k by omega, lay_on S b a k hl (by omega) h1] at s1
    have S1 := hid s1
    have QQ := hid q1
    have ZZ := hid z1
    have PP := hid p1
    clear s1 q1 z1 p1 hF h1 h2
    go_enter Try.func28, Try.ntmps28
    go_wp2_with fail
    go_end0
    exact ⟨rfl, S1.out, QQ.out, ZZ.out, PP.out⟩

/-
  The landed package block: Put and Write; all six calls in the forms that the laws take.
-/
theorem zeroS : (∀ w, (zeroValue 49).run Try.prog w = .ok (.agg (ArA .u8 (List.replicate 512 0))) w) ∧ (Try.prog.info? 49).map (·.size) = some 512 := zero_of_info (by kernel_rfl)
theorem sec_rd {w : World} {B : Nat} {S : List Int} {T : TypeId} (h : Stands w B (ArA .u8 S) T) (hl : S.length = 512) : Rd .u8 w (.slice (some ⟨B, 0, none⟩) 512 512) S := by
  refine Or.inr ⟨B, 0, 512, by rw [hl], by omega, by omega, by decide, fun i hi => ?_⟩
  rw [Nat.zero_add]
  exact h.cell i _ (ara_at i hi)
/-- copy into the call's own bytes, from a place on -/
theorem own8_copy {w : World} {base : Nat} {v : Value} {D : List Int} (h : Own8 base w v D) (lo : Int) (h0 : 0 ≤ lo) {vs : Value} {xs : List Int} (hr : Rd .u8 w vs xs) (hx : 0 < xs.length) (hfit : lo.toNat + xs.length ≤ D.length) :
    ∃ vc w', (∀ w'', (Instr.slice 22 v (some (.int .i64 lo)) none none).run Try.prog w'' = .ok vc w'') ∧ (∀ ty, (Builtin.copy_ #[22, 22] ty #[vc, vs]).run Try.prog w = .ok (.int .i64 (xs.length : Int)) w') ∧
      Own8 base w' v (D.take lo.toNat ++ xs ++ D.drop (lo.toNat + xs.length)) ∧ (∀ (C : Nat) (w0 : World), Below C w0 w → C ≤ base → Below C w0 w') ∧ w'.heap.size = w.heap.size ∧ ∀ b, ¬ v.ownBlock = some b → w'.heap[b]? = w.heap[b]? := by
  obtain ⟨hl, ho⟩ := h
  rcases ho with ⟨rfl, hz⟩ | ⟨g, cap, cur, rfl, hb, hg, hnc, hcm, hcs, htake⟩
  · omega
  · obtain ⟨ao, scap, rfl, hc, hnn, hcell0⟩ := rd_form hr
    obtain ⟨hm, b, o2, rfl, hcell⟩ := hcell0 hx
    have hcs1 : cur.size = cap := by omega
    have hlen : (xs.map (Value.int .u8)).length = xs.length := by simp
    have hadd : (if cap = lo.toNat then (⟨g, 0, none⟩ : Addr) else (⟨g, 0, none⟩ : Addr).add (lo.toNat * 1)) = ⟨g, lo.toNat, none⟩ := by
      rw [if_neg (by omega), Nat.mul_one]
      unfold Addr.add
      split
      · rename_i hz; rw [hz]
      · simp
    have hrun := fun ty => run_copy_row (P := Try.prog) w 22 22 ty _ g lo.toNat (D.length - lo.toNat) (cap - lo.toNat) ⟨b, o2, none⟩ xs.length scap cur 5 (xs.map (Value.int .u8)) uB infoB1 hg (by rw [hlen]; exact (Nat.min_eq_left (by omega)).symm) (fun j y hj => by
      rw [List.getElem?_map] at hj
      cases hq : xs[j]? with
      | none => rw [hq] at hj; cases hj
      | some z =>
        rw [hq] at hj
        simp at hj
        subst hj
        have hj2 : j < xs.length := by
          rcases Nat.lt_or_ge j xs.length with h | h
          · exact h
          · rw [List.getElem?_eq_none h] at hq; cases hq
        have := hcell j hj2
        rw [List.getD_eq_getElem?_getD, hq] at this
        simp at this
        by_cases hz : j = 0
        · subst hz; simpa [Addr.add] using this
        · simpa [Addr.add, hz] using this) (by rw [hlen]; omega) (fun y hy => by
      simp only [List.mem_map] at hy
      obtain ⟨z, _, rfl⟩ := hy
      rfl)
    rw [hlen] at hrun
    refine ⟨_, _, fun w'' => ?_, hrun, ?_, fun C w0 hB hC => below_setRow hB (Nat.le_trans hC hb) _, by simp [World.setRow], fun q hq => ?_⟩
    · rw [run_slice_l w'' 22 (some ⟨g, 0, none⟩) D.length cap uB .i64 lo h0 (by omega), zB]
      simp only [Result.andThen, sliced]
      rw [← hadd]
      split <;> rfl
    · have hdl : (D.take lo.toNat ++ xs ++ D.drop (lo.toNat + xs.length)).length = D.length := by simp only [List.length_append, List.length_take, List.length_drop]; omega
      refine ⟨by rw [List.length_map, Nat.mul_one], .inr ⟨g, cap, _, by rw [hdl], hb, setRow_heap w g _ _ _ _ hg, by rw [hdl]; exact hnc, hcm, ?_, ?_⟩⟩
      · simp only [List.size_toArray, List.length_append, List.length_take, List.length_drop, List.length_map, Array.length_toList]
        omega
      · rw [hdl]
        rw [Nat.mul_one] at htake ⊢
        have e1 : cur.toList.take lo.toNat = (D.take lo.toNat).map (Value.int .u8) := by
          rw [List.map_take, ← htake, List.take_take, Nat.min_eq_left (by omega)]
        have e2 : (cur.toList.drop (lo.toNat + xs.length)).take (D.length - (lo.toNat + xs.length)) = (D.drop (lo.toNat + xs.length)).map (Value.int .u8) := by
          rw [List.map_drop, ← htake, List.drop_take]
        have e3 : (D.take lo.toNat).length = lo.toNat := by rw [List.length_take]; omega
        simp only [List.map_append]
        rw [← e1, ← e2, List.take_append, List.take_append]
        have e4 : (cur.toList.take lo.toNat).length = lo.toNat := by rw [e1, List.length_map, e3]
        rw [List.length_append, e4, hlen, List.take_of_length_le (l := cur.toList.take lo.toNat) (by omega), List.take_of_length_le (l := xs.map (Value.int .u8)) (by rw [hlen]; omega)]
    · simp only [World.setRow]
      rw [Array.getElem?_modify, if_neg (fun h => hq (by simp [Value.ownBlock, h]))]
theorem own8_heap20 {w w' : World} {base : Nat} {v : Value} {xs : List Int} (h : Own8 base w v xs) (hk : ∀ k, v.ownBlock = some k → w'.heap[k]? = w.heap[k]?) : Own8 base w' v xs := by
  obtain ⟨hl, h⟩ := h
  refine ⟨hl, ?_⟩
  rcases h with h | ⟨b, cap, cur, rfl, hb, hg, hc⟩
  · exact Or.inl h
  · refine Or.inr ⟨b, cap, cur, rfl, hb, ?_, hc⟩
    rw [hk b rfl]
    exact hg
theorem rd_max20 {k : IntKind} {w : World} {v : Value} {xs : List Int} (h : Rd k w v xs) : xs.length ≤ maxLen := by
  obtain ⟨ao, cap, rfl, hc, hn, hx⟩ := rd_form h
  rcases Nat.eq_zero_or_pos xs.length with h0 | h0
  · rw [h0]; exact Nat.zero_le _
  · exact Nat.le_trans hc (hx h0).1
theorem secTy : ¬ 5 = 49 := by decide

set_option maxHeartbeats 4000000 in
set_option maxRecDepth 100000 in
theorem w_pput20 (v vb : Value) (d b : List Int) (a : Int) (w : World) (h : Rd .u8 w v d) (hb : Rd .u8 w vb b) (hz : d.length ≤ 140737488351232) (a0 : -9223372036854775808 ≤ a) (a1 : a < 9223372036854775808) :
    Calls Try.prog 21 #[v, .int .i64 a, vb] w fun e w' => ∃ v', e = .returned (.tuple #[v', .int .i64 (dkPt d a b).2]) ∧ Own8 w.heap.size w' v' (dkPt d a b).1 ∧ Below w.heap.size w w' := by
  have cF := w_pform20 v d w h hz
  have hlen := rd_len h uB (P := Try.prog)
  have hlb := rd_len hb uB (P := Try.prog)
  have hmx := rd_max20 hb
  cases hB : dkB d
  · rw [hB] at cF
    unfold dkPt
    rw [hB]
    simp only [Bool.false_eq_true, if_false]
    clear hlen hlb
    go_enter Try.func21, Try.ntmps21
    go_wp2_with (first | (go_at_call 15; refine cF.mono ?_; rintro e q ⟨rfl, hw⟩; obtain rfl := hw.symm))
    go_ret2
    exact ⟨_, rfl, own8_nil _ _, Below.refl _ _⟩
  · rw [hB] at cF
    obtain ⟨l1, l2⟩ := dk_len hB
    have cI := w_plies20 a b.length d.length w a0 a1 (by omega) (by unfold maxLen at hmx; omega) (by omega) (by omega)
    cases hI : dkI d.length a b.length
    · rw [hI] at cI
      unfold dkPt
      rw [hB, hI]
      simp only [if_true, Bool.false_eq_true, if_false]
      clear hB l1 hI
      go_enter Try.func21, Try.ntmps21
      go_wp2_with (first | (go_at_call 15; refine cF.mono ?_; rintro e q ⟨rfl, hw⟩; obtain rfl := hw.symm) | (go_at_call 25; refine cI.mono ?_; rintro e q ⟨rfl, hw⟩; obtain rfl := hw.symm))
      go_ret2
      exact ⟨_, rfl, own8_nil _ _, Below.refl _ _⟩
    · rw [hI] at cI
      have hI2 := hI
      unfold dkI at hI2
      rw [decide_eq_true_eq] at hI2
      obtain ⟨i1, i2, i3, i4⟩ := hI2
      obtain ⟨A, rfl⟩ : ∃ A : Nat, a = A := ⟨a.toNat, by omega⟩
      rw [pt_ovl d b A hB hI]
      have cP := fun w => w_pplan20o (A : Int) b.length w (by omega) (by omega) (by omega) (by omega)
      rw [pl_ovl d b A hB hI] at cP
      simp only at cP ⊢
      have hLg : ∀ k : Nat, Hid ((dkL (A : Int) b.length (k + 1)).length = (dkL (A : Int) b.length k).length + (dkK (A : Int) b.length k).length) := fun k => by show _ = _; rw [dkL, List.length_append]
      have hMn : ∀ k : Nat, k ≤ 64 → (dkL (A : Int) b.length k).length ≤ (dkL (A : Int) b.length 64).length := fun k hk => dkL_mono _ _ 64 k hk
      have hbd := dkL_bd (A : Int) b.length 64
      have hbl : b.length ≤ 32768 := by omega
      have hAl : A + b.length ≤ d.length := by omega
      have hA2 : A ≤ 32768 := by omega
      have z := zeroS.1
      have Hl1 := hid l1
      obtain ⟨Z, hZ⟩ : ∃ Z, ArA .u8 (List.replicate 512 0) = Z := ⟨_, rfl⟩
      rw [hZ] at z
      have HZ := hid hZ
      clear hZ hB hI i1 i2 i3 i4 l1
      go_enter Try.func21, Try.ntmps21
      go_upto_region 7 with (first
        | (go_at_call 15; refine cF.mono ?_; rintro e q ⟨rfl, hw⟩; obtain rfl := hw.symm)
        | (go_at_call 25; refine cI.mono ?_; rintro e q ⟨rfl, hw⟩; obtain rfl := hw.symm)
        | (go_at_call 17; refine (cP _).mono ?_; rintro e q3 ⟨va, rfl, oa, b3⟩; have ra := oa.read; have hla := slr_len ra uAc (P := Try.prog))
        | (go_at_call 26; refine (w_pclo20 v d q3 (h.below b3) (by omega)).mono ?_; rintro e w4 ⟨vd, rfl, o4, b4⟩))
      clear cP cF cI hlen
      go_upto_region 8 with fail
      have hap0 := stands_new w4 Z 49
      have bz := box_below w4 (.cells Z 49)
      have hap : ¬ some w4.heap.size = vd.ownBlock := fun e => by
        have := stands_apart hap0 (own8_below o4 bz) secTy
        exact this e
      have hB4 := b4.size
      obtain ⟨B, hBe⟩ : ∃ B, w4.heap.size = B := ⟨_, rfl⟩
      rw [hBe] at hap0 bz hap hB4 ⊢
      have oz := own8_below o4 (hBe ▸ bz)
      have bz2 := below_trans b4 (hBe ▸ bz)
      generalize w4.alloc (.cells Z 49) = W4 at hap0 bz oz bz2 ⊢
      have hS0 : Stands W4 B (ArA .u8 (List.replicate 512 0)) 49 := by rw [HZ.out]; exact hap0
      have hB : q3.heap.size ≤ B := hB4
      have rb := hb.below b3
      clear hap0 bz hB4 z o4 b4 HZ hBe
      go_wp2_with fail
      go_loopw [35] (fun I wx => ∃ (k i : Nat) (S : List Int), I = .int .i64 i ∧ k ≤ 64 ∧ Own8 q3.heap.size wx vd (ovl d A b k) ∧ Stands wx B (ArA .u8 S) 49 ∧ S.length = 512 ∧ Below q3.heap.size q3 wx ∧
        ((i = (dkL (A : Int) b.length k).length) ∨ (k < 64 ∧ i = (dkL (A : Int) b.length k).length + 1 ∧ dkK (A : Int) b.length k = [(false, (k : Int)), (true, (k : Int))] ∧ S = ((ovl d A b k).drop (512 * k)).take 512))) (fun I _ => ((dkL (A : Int) b.length 64).length - intOf I).toNat)
      case atStart => exact ⟨0, 0, _, rfl, by omega, by rw [ovl_0]; exact oz, hS0, List.length_replicate, bz2, Or.inl rfl⟩
      case round =>
        clear oz bz2 hS0
        obtain ⟨k, i, S, rfl, hk64, oD, hS, hS2, hg, hst⟩ := hrel
        by_cases hlt : (i : Int) < (dkL (A : Int) b.length 64).length
        · obtain ⟨zb, zo, W1, S1, z1, z2, z3, z4⟩ := ac_at (ra.below hg acR_below) i (by omega)
          rcases hst with hi | ⟨hk, hi, hKe, hSe⟩
          · obtain ⟨k', h1, h2, h3, h4, h5⟩ := dk_next d A b i (64 - k) k (by omega) (hi.symm) (by omega)
            have hin := dk_in Hl1.out hAl h4
            have hKl := hLg k'
            rw [← h5] at oD
            rcases dkK_cases (A : Int) b.length k' with ⟨e, hc⟩ | ⟨e, hc1, hc2, hc3⟩ | ⟨e, hc1, hc2, hc3⟩
            · exact absurd e h4
            · have z5 := dk_at (A : Int) b.length k' h2 0 (by rw [e]; simp)
              rw [e, Nat.add_zero, h3, List.getElem?_eq_getElem (by omega), z4] at z5
              simp only [List.getElem?_cons_zero, Option.some.injEq, Prod.mk.injEq] at z5
              obtain ⟨rfl, rfl⟩ := z5
              have hDl : (ovl d A b k').length = d.length := ovl_len _ _ _ _
              have HE : Hid (dkK (A : Int) b.length k' = [(false, (k' : Int)), (true, (k' : Int))]) := e
              obtain ⟨D, hD⟩ : ∃ D, ovl d A b k' = D := ⟨_, rfl⟩
              rw [hD] at oD hDl
              have HD := hid hD
              have HDl := hid hDl
              have Hi : Hid (i + 1 = (dkL (A : Int) b.length k').length + 1) := hid (by omega)
              clear z4 hLg h5 hi h3 h1 e h4 hKl hD hDl
              obtain ⟨vc, rc, -, -, sc'⟩ := rd_cutI (Rd_own oD).1 uB zB ((k' : Int) * 512) D.length (by omega) (by rw [HDl.out]; omega) (by omega)
              have sc := sc' rfl
              rw [List.take_of_length_le (by rw [List.length_drop]; omega), show ((k' : Int) * 512).toNat = 512 * k' by omega] at rc
              have cL := fun w hs h => w_pload20 B S (D.drop (512 * k')) vc w hs hS2 h (by rw [List.length_drop, HDl.out]; omega)
              clear sc'
              go_wp2_with (go_at_call 27; refine (cL _ (hS.below (box_below wr _)) (rc.below (box_below wr _))).mono ?_; rintro e w5 ⟨rfl, s5, q5, z5, p5⟩)
              have bx := box_below wr (.cells #[.bool false, .int .i64 (k' : Int)] 36)
              have o5 : Own8 q3.heap.size w5 vd D := own8_heap20 (own8_below oD bx) (fun j hj => p5 j (fun e => hap (by rw [← e]; exact hj.symm)))
              have g5 := q5 q3.heap.size q3 (below_trans hg bx) hB
              go_roundw
              case rel => exact ⟨k', i + 1, (D.drop (512 * k')).take 512, by go_num, by omega, by rw [HD.out]; exact o5, s5, by rw [List.length_take, List.length_drop, HDl.out]; omega, g5, Or.inr ⟨h2, Hi.out, HE.out, by rw [HD.out]⟩⟩
              case measure => simp [intOf]; omega
            · have z5 := dk_at (A : Int) b.length k' h2 0 (by rw [e]; simp)
              rw [e, Nat.add_zero, h3, List.getElem?_eq_getElem (by omega), z4] at z5
              simp only [List.getElem?_cons_zero, Option.some.injEq, Prod.mk.injEq] at z5
              obtain ⟨rfl, rfl⟩ := z5
              have hKl : Hid (i + 1 = (dkL (A : Int) b.length (k' + 1)).length) := hid (by have := hKl.out; rw [e] at this; simp at this; omega)
              have hh : (∀ j < 512, S.getD j 0 = (ovl d A b k').getD (512 * k' + j) 0) ∨ (A ≤ 512 * k' ∧ 512 * k' + 512 ≤ A + b.length) := Or.inr ⟨by omega, by omega⟩
              clear hLg h5 hi h3 h1 e h4
              clear z4
              have hstp := ovl_step d A b k' S hin hh
              have hSl : (ovs S A b k' 512).length = 512 := ovs_len _ _ _ _ _
              have hDl : (ovl d A b k').length = d.length := ovl_len _ _ _ _
              have hDl2 : (ovl d A b (k' + 1)).length = d.length := ovl_len _ _ _ _
              have cY := fun v w hs h => w_play20 B S b v A k' w hs hS2 h hbl (by omega) (by omega) (by omega)
              have ec : (A : Int) - 512 * (k' : Int) = (A : Int) - (k' : Int) * 512 := by omega
              rw [ec] at cY
              obtain ⟨S2, hS2e⟩ : ∃ S2, ovs S A b k' 512 = S2 := ⟨_, rfl⟩
              rw [hS2e] at cY hstp hSl
              obtain ⟨D, hD⟩ : ∃ D, ovl d A b k' = D := ⟨_, rfl⟩
              obtain ⟨D2, hD2⟩ : ∃ D2, ovl d A b (k' + 1) = D2 := ⟨_, rfl⟩
              rw [hD] at hstp hDl oD
              rw [hD2] at hstp hDl2
              have HD2 := hid hD2
              have HDl2 := hid hDl2
              have HSl := hid hSl
              have Hst := hid hstp
              have HDl := hid hDl
              clear hS2e hD hD2 ec hDl2 hDl hstp hSl hh
              go_upto_region 15 with (go_at_call 28; refine (cY _ _ (hS.below (box_below wr _)) (rb.below (below_trans hg (box_below wr _)))).mono ?_; rintro e w5 ⟨rfl, s5, q5, z5, p5⟩)
              clear cY
              have bx := box_below wr (.cells #[.bool true, .int .i64 (k' : Int)] 36)
              have o5 : Own8 q3.heap.size w5 vd D := own8_heap20 (own8_below oD bx) (fun j hj => p5 j (fun e => hap (by rw [← e]; exact hj.symm)))
              have g5 := q5 q3.heap.size q3 (below_trans hg bx) hB
              have g6 : Below q3.heap.size q3 w5.drew := g5.trans ⟨rfl, rfl, rfl, Nat.le_refl _, fun _ _ => rfl⟩
              have b6 : Below w5.heap.size w5 w5.drew := below_drewN (Below.refl _ _) 1
              obtain ⟨vc, w6, sc, r6, o6, q6, z6, p6⟩ := own8_copy (own8_below o5 b6) ((k' : Int) * 512) (by omega) (sec_rd (s5.below b6) HSl.out) (by rw [HSl.out]; omega) (by rw [HSl.out, HDl.out]; omega)
              rw [HSl.out, show ((k' : Int) * 512).toNat = 512 * k' by omega, Hst.out] at o6
              rw [HSl.out] at r6
              have r7 : ∀ ty, (Builtin.copy_ #[22, 22] ty #[vc, .slice (some ⟨B, 0, none⟩) 512 512]).run Try.prog w5.drew = .ok (.int .i64 512) w6 := r6
              have hap2 : ¬ vd.ownBlock = some B := fun e => hap e.symm
              have s6 : Stands w6 B (ArA .u8 S2) 49 := by
                have := s5.below b6
                unfold Stands at this ⊢
                rw [p6 B hap2]
                exact this
              have b7 := hid (q6 _ _ g6 (Nat.le_refl _))
              have O6 := hid o6
              have S6 := hid s6
              have sa := sec_all B
              clear r6 o6 q6 z6 p6 s6 s5 q5 z5 p5 o5 g5 g6 b6 bx
              go_region
              all_goals (
                go_wp2_with fail
                go_roundw
                case rel => exact ⟨k' + 1, i + 1, S2, by go_num, by omega, by rw [HD2.out]; exact O6.out, S6.out, HSl.out, b7.out, Or.inl (by have := hKl.out; omega)⟩
                case measure => simp [intOf]; omega)
          · have hKl0 := hLg k
            have h4 : ¬ dkK (A : Int) b.length k = [] := by rw [hKe]; simp
            have hin := dk_in Hl1.out hAl h4
            have z5 := dk_at (A : Int) b.length k hk 1 (by rw [hKe]; simp)
            rw [hKe, ← hi, List.getElem?_eq_getElem (by omega), z4] at z5
            simp only [List.getElem?_cons_succ, List.getElem?_cons_zero, Option.some.injEq, Prod.mk.injEq] at z5
            obtain ⟨rfl, rfl⟩ := z5
            have hKl : Hid (i + 1 = (dkL (A : Int) b.length (k + 1)).length) := hid (by have := hKl0.out; rw [hKe] at this; simp at this; omega)
            have hc1 : 512 * (k : Int) < (A : Int) + b.length ∧ (A : Int) < 512 * (k : Int) + 512 := by
              rcases dkK_cases (A : Int) b.length k with ⟨e, hc⟩ | ⟨e, hc1, hc2, hc3⟩ | ⟨e, hc1, hc2, hc3⟩
              · exact absurd e h4
              · exact ⟨hc1, hc2⟩
              · rw [hKe] at e; cases e
            have hh : (∀ j < 512, S.getD j 0 = (ovl d A b k).getD (512 * k + j) 0) ∨ (A ≤ 512 * k ∧ 512 * k + 512 ≤ A + b.length) := Or.inl (by rw [hSe]; exact load_at _ k)
            clear hLg hKl0 h4 hi hKe hSe
            clear z4
            have hstp := ovl_step d A b k S hin hh
            have hSl : (ovs S A b k 512).length = 512 := ovs_len _ _ _ _ _
            have hDl : (ovl d A b k).length = d.length := ovl_len _ _ _ _
            have hDl2 : (ovl d A b (k + 1)).length = d.length := ovl_len _ _ _ _
            have cY := fun v w hs h => w_play20 B S b v A k w hs hS2 h hbl (by omega) (by omega) (by omega)
            have ec : (A : Int) - 512 * (k : Int) = (A : Int) - (k : Int) * 512 := by omega
            rw [ec] at cY
            obtain ⟨S2, hS2e⟩ : ∃ S2, ovs S A b k 512 = S2 := ⟨_, rfl⟩
            rw [hS2e] at cY hstp hSl
            obtain ⟨D, hD⟩ : ∃ D, ovl d A b k = D := ⟨_, rfl⟩
            obtain ⟨D2, hD2⟩ : ∃ D2, ovl d A b (k + 1) = D2 := ⟨_, rfl⟩
            rw [hD] at hstp hDl oD
            rw [hD2] at hstp hDl2
            have HD2 := hid hD2
            have HDl2 := hid hDl2
            have HSl := hid hSl
            have Hst := hid hstp
            have HDl := hid hDl
            clear hS2e hD hD2 ec hDl2 hDl hstp hSl hh
            go_upto_region 15 with (go_at_call 28; refine (cY _ _ (hS.below (box_below wr _)) (rb.below (below_trans hg (box_below wr _)))).mono ?_; rintro e w5 ⟨rfl, s5, q5, z5, p5⟩)
            clear cY
            have bx := box_below wr (.cells #[.bool true, .int .i64 (k : Int)] 36)
            have o5 : Own8 q3.heap.size w5 vd D := own8_heap20 (own8_below oD bx) (fun j hj => p5 j (fun e => hap (by rw [← e]; exact hj.symm)))
            have g5 := q5 q3.heap.size q3 (below_trans hg bx) hB
            have g6 : Below q3.heap.size q3 w5.drew := g5.trans ⟨rfl, rfl, rfl, Nat.le_refl _, fun _ _ => rfl⟩
            have b6 : Below w5.heap.size w5 w5.drew := below_drewN (Below.refl _ _) 1
            obtain ⟨vc, w6, sc, r6, o6, q6, z6, p6⟩ := own8_copy (own8_below o5 b6) ((k : Int) * 512) (by omega) (sec_rd (s5.below b6) HSl.out) (by rw [HSl.out]; omega) (by rw [HSl.out, HDl.out]; omega)
            rw [HSl.out, show ((k : Int) * 512).toNat = 512 * k by omega, Hst.out] at o6
            rw [HSl.out] at r6
            have r7 : ∀ ty, (Builtin.copy_ #[22, 22] ty #[vc, .slice (some ⟨B, 0, none⟩) 512 512]).run Try.prog w5.drew = .ok (.int .i64 512) w6 := r6
            have hap2 : ¬ vd.ownBlock = some B := fun e => hap e.symm
            have s6 : Stands w6 B (ArA .u8 S2) 49 := by
              have := s5.below b6
              unfold Stands at this ⊢
              rw [p6 B hap2]
              exact this
            have b7 := hid (q6 _ _ g6 (Nat.le_refl _))
            have O6 := hid o6
            have S6 := hid s6
            have sa := sec_all B
            clear r6 o6 q6 z6 p6 s6 s5 q5 z5 p5 o5 g5 g6 b6 bx
            go_region
            all_goals (
              go_wp2_with fail
              go_roundw
              case rel => exact ⟨k + 1, i + 1, S2, by go_num, by omega, by rw [HD2.out]; exact O6.out, S6.out, HSl.out, b7.out, Or.inl (by have := hKl.out; omega)⟩
              case measure => simp [intOf]; omega)
        · have hfin : ovl d A b 64 = ovl d A b k := by
            rcases hst with hi | ⟨hk, hi, hKe, hSe⟩
            · exact dk_end d A b (64 - k) k (by omega) (by have := hMn k hk64; omega)
            · have h1 := (hLg k).out
              have h2 := hMn (k + 1) (by omega)
              rw [hKe] at h1
              simp at h1
              omega
          rw [← hfin] at oD
          clear hst hfin hLg hMn
          go_wp2_with fail
          go_ret2
          exact ⟨_, rfl, own8_base oD b3.size, below_trans b3 hg⟩

set_option maxHeartbeats 1000000 in
theorem w_pwrite20 (v vb : Value) (d b : List Int) (n : Int) (w : World) (h : Rd .u8 w v d) (hb : Rd .u8 w vb b) (hz : d.length ≤ 140737488351232) (n0 : -9223372036854775808 ≤ n) (n1 : n < 9223372036854775808) :
    Calls Try.prog 12 #[v, .int .i64 n, vb] w fun e w' => ∃ v', e = .returned (.tuple #[v', .int .i64 (dkWr d n b).2]) ∧ Own8 w.heap.size w' v' (dkWr d n b).1 ∧ Below w.heap.size w w' := by
  have cF := w_pform20 v d w h hz
  have cH := w_phas20 v d n w h hz n0 n1
  have hlb := rd_len hb uB (P := Try.prog)
  cases hB : dkB d
  · rw [hB] at cF
    unfold dkWr
    rw [hB]
    simp only [Bool.false_and, Bool.false_eq_true, if_false]
    clear cH
    go_enter Try.func12, Try.ntmps12
    go_wp2_with (first | (go_at_call 15; refine cF.mono ?_; rintro e q ⟨rfl, hw⟩; obtain rfl := hw.symm))
    go_ret2
    exact ⟨_, rfl, own8_nil _ _, Below.refl _ _⟩
  · rw [hB] at cF
    obtain ⟨l1, l2⟩ := dk_len hB
    by_cases h5 : b.length = 512
    · have hq : ((b.length : Int) != 512) = false := by rw [show (b.length : Int) = 512 by omega]; rfl
      cases hN : dkN d n
      · rw [hN] at cH
        unfold dkWr
        rw [hB, hN, decide_eq_true h5]
        simp only [Bool.and_self, if_true, Bool.false_eq_true, if_false]
        clear hB l1 hN h5
        go_enter Try.func12, Try.ntmps12
        go_wp2_with (first | (go_at_call 15; refine cF.mono ?_; rintro e q ⟨rfl, hw⟩; obtain rfl := hw.symm) | (go_at_call 24; refine cH.mono ?_; rintro e q ⟨rfl, hw⟩; obtain rfl := hw.symm))
        go_ret2
        exact ⟨_, rfl, own8_nil _ _, Below.refl _ _⟩
      · rw [hN] at cH
        have hn := hN
        unfold dkN at hn
        rw [decide_eq_true_eq] at hn
        obtain ⟨m0, m1⟩ := hn
        rw [wr_put d b n hB h5 hN]
        have cU := w_pput20 v vb d b (n * 512) w h hb hz (by omega) (by omega)
        obtain ⟨R, hR⟩ : ∃ R, dkPt d (n * 512) b = R := ⟨_, rfl⟩
        rw [hR] at cU ⊢
        clear hR hB l1 hN h5
        go_enter Try.func12, Try.ntmps12
        go_wp2_with (first
          | (go_at_call 15; refine cF.mono ?_; rintro e q ⟨rfl, hw⟩; obtain rfl := hw.symm)
          | (go_at_call 24; refine cH.mono ?_; rintro e q ⟨rfl, hw⟩; obtain rfl := hw.symm)
          | (go_at_call 21; refine cU.mono ?_; rintro e q2 ⟨v2, rfl, o2, b2⟩))
        go_ret2
        exact ⟨_, rfl, o2, b2⟩
    · have hq : ((b.length : Int) != 512) = true := by simp; omega
      unfold dkWr
      rw [hB, decide_eq_false h5]
      simp only [Bool.and_false, Bool.false_eq_true, if_false]
      clear hB l1 h5 cH
      go_enter Try.func12, Try.ntmps12
      go_wp2_with (first | (go_at_call 15; refine cF.mono ?_; rintro e q ⟨rfl, hw⟩; obtain rfl := hw.symm))
      go_ret2
      exact ⟨_, rfl, own8_nil _ _, Below.refl _ _⟩

theorem w_pformed20 (v : Value) (d : List Int) (w : World) (h : Rd .u8 w v d) (hz : d.length ≤ 140737488351232) :
    Calls Try.prog 15 #[v] w fun e w' => e = .returned (.bool (dkB d)) ∧ Below w.heap.size w w' := by
  refine (w_pform20 v d w h hz).mono ?_
  rintro e w' ⟨rfl, rfl⟩
  exact ⟨rfl, Below.refl _ _⟩
theorem w_pplan20 (a n : Int) (w : World) (a0 : -9223372036854775808 ≤ a) (a1 : a < 9223372036854775808) (n0 : -9223372036854775808 ≤ n) (n1 : n < 9223372036854775808) :
    Calls Try.prog 17 #[.int .i64 a, .int .i64 n] w fun e w' => ∃ v', e = .returned (.tuple #[v', .int .i64 (dkP a n).2]) ∧ SlR 2 acR w' v' (dkP a n).1 ∧ Below w.heap.size w w' := by
  refine (w_pplan20o a n w a0 a1 n0 n1).mono ?_
  rintro e w' ⟨v', rfl, o, b⟩
  exact ⟨v', rfl, o.read, b⟩

/-
  The fixed fact of layer 20's statements: alive returns true; rows of noughts.
-/
theorem made_zero (n : Nat) : (madeCells #[.int .u8 0] n).toList = (List.replicate n (0 : Int)).map (Value.int .u8) := by
  unfold madeCells
  rw [List.map_replicate]
  apply List.ext_getElem
  · simp
  · intro i h1 h2
    simp [Nat.mod_one]
theorem own_zero (n : Nat) (hn : n ≤ maxLen) (w : World) : Own8 w.heap.size (w.alloc (.cells (madeCells #[.int .u8 0] n) 5)) (.slice (some ⟨w.heap.size, 0, none⟩) n n) (List.replicate n 0) := by
  have hs : (madeCells #[.int .u8 0] n).size = n := size_madeCells _ _
  refine ⟨by rw [List.length_map, List.length_replicate]; exact (Nat.mul_one n).symm, .inr ⟨w.heap.size, n, _, by rw [List.length_replicate], Nat.le_refl _, heap_alloc_new w _, by rw [List.length_replicate]; exact Nat.le_refl _, hn, by rw [hs, Nat.mul_one], ?_⟩⟩
  rw [made_zero, List.length_replicate]
  exact List.take_of_length_le (by rw [List.length_map, List.length_replicate, Nat.mul_one]; exact Nat.le_refl _)
theorem mk_zero (N : Int) (n : Nat) (h0 : N = n) (hm : n ≤ 281474976710656) (w : World) : (Instr.makeSlice 22 (.int .i64 N) (.int .i64 N)).run Try.prog w = .ok (.slice (some ⟨w.heap.size, 0, none⟩) n n) (w.alloc (.cells (madeCells #[.int .u8 0] n) 5)) := by
  subst h0
  exact run_make_row' 22 5 (.int .u8 0) 1 Try.underlying22 infoU8 rfl .i64 .i64 n (by omega) (by omega) w
theorem zero_bytes (n : Nat) : bytesL (List.replicate n 0) := by
  intro x hx
  rw [List.eq_of_mem_replicate hx]
  decide
theorem all_by (l : List Int) (h : l.all (fun x => decide (0 ≤ x ∧ x < 256)) = true) : bytesL l := by
  intro x hx
  have := List.all_eq_true.1 h x hx
  simpa using this
def alD : List Int := List.replicate 511 0 ++ [7, 8] ++ List.replicate 511 0
theorem al_put : dkPt (List.replicate 1024 0) 511 [7, 8] = (alD, 0) := by kernel_rfl
theorem al_read : dkRd alD 1 = (8 :: List.replicate 511 0, 0) := by kernel_rfl
theorem al_plan : dkP 510 4 = ([(false, 0), (true, 0), (false, 1), (true, 1)], 0) := by kernel_rfl
theorem alD_len : alD.length = 1024 := by kernel_rfl
theorem al_len : (8 :: List.replicate 511 (0 : Int)).length = 512 := by kernel_rfl

set_option maxHeartbeats 1000000 in
theorem w_alive20 (w : World) : Calls Try.prog 8 #[] w fun e w' => e = .returned (.bool true) ∧ Below w.heap.size w w' := by
  have cP := fun w => w_pplan20 510 4 w (by decide) (by decide) (by decide) (by decide)
  rw [al_plan] at cP
  have cU := fun v vb w r rb => w_pput20 v vb (List.replicate 1024 0) [7, 8] 511 w r rb (by rw [List.length_replicate]; decide) (by decide) (by decide)
  rw [al_put] at cU
  have cR := fun v w r => w_pread20 v alD 1 w r (by rw [alD_len]; decide) (by decide) (by decide)
  rw [al_read] at cR
  simp only at cP cU cR
  have hmk : ∀ w, (Instr.makeSlice 22 (.int .i64 1024) (.int .i64 1024)).run Try.prog w = .ok (.slice (some ⟨w.heap.size, 0, none⟩) 1024 1024) (w.alloc (.cells (madeCells #[.int .u8 0] 1024) 5)) := fun w => mk_zero 1024 1024 rfl (by decide) w
  have h78 : ∀ W : World, Rd .u8 (W.alloc (.cells #[.int .u8 7, .int .u8 8] 5)) (.slice (some ⟨W.heap.size, 0, none⟩) 2 2) [7, 8] := fun W => rd_lit (k := .u8) W [7, 8] 5 (by decide) (by decide)
  have hb2 := fun W : World => box_below W (.cells #[.int .u8 7, .int .u8 8] 5)
  have ho := fun w => (Rd_own (own_zero 1024 (by decide) w)).1
  have hbx := fun w : World => box_below w (.cells (madeCells #[.int .u8 0] 1024) 5)
  have hll := al_len
  have hlb : bytesL (8 :: List.replicate 511 0) := all_by _ (by kernel_rfl)
  obtain ⟨M, hM⟩ : ∃ M, madeCells #[.int .u8 0] 1024 = M := ⟨_, rfl⟩
  simp only [hM] at hmk ho hbx
  clear hM
  obtain ⟨D, hD⟩ : ∃ D, alD = D := ⟨_, rfl⟩
  obtain ⟨Z, hZ⟩ : ∃ Z, List.replicate 1024 (0 : Int) = Z := ⟨_, rfl⟩
  obtain ⟨B, hB⟩ : ∃ B, 8 :: List.replicate 511 (0 : Int) = B := ⟨_, rfl⟩
  have hB0 : B.getD (0 : Int).toNat 0 = 8 := by rw [← hB]; rfl
  rw [hZ] at cU
  simp only [hZ] at ho
  simp only [hD] at cU cR
  rw [hB] at hll hlb
  simp only [hB] at cR
  clear hD hZ hB
  go_enter Try.func8, Try.ntmps8
  go_upto_region 2 with (go_at_call 17; refine (cP _).mono ?_; rintro e w1 ⟨v1, rfl, r1, b1⟩)
  have hl1 : ∀ ty w', (Builtin.len_ #[32] ty #[v1]).run Try.prog w' = .ok (.int .i64 4) w' := slr_len r1 uAc (P := Try.prog)
  have o1 := (ho w1).below (hb2 (w1.alloc (.cells M 5)))
  have x1 := below_trans (hbx w1) (hb2 (w1.alloc (.cells M 5)))
  have r78 := h78 (w1.alloc (.cells M 5))
  rw [size_al] at r78
  clear ho hbx h78 hb2
  go_wp2_with (first
    | (go_at_call 21; refine (cU _ _ _ o1 r78).mono ?_; rintro e w2 ⟨v2, rfl, o2, b2⟩)
    | (go_at_call 10; refine (cR _ _ (Rd_own o2).1).mono ?_; rintro e w3 ⟨v3, rfl, o3, b3⟩; have r3 := (Rd_own o3).1; have hl3 := rd_len r3 uB (P := Try.prog); rw [hll] at hl3; obtain ⟨ad, b, q1, q2, q3, q4, q5⟩ := mem_at r3 hlb 0 (by omega) (by omega); obtain rfl : (8 : Int) = b := hB0.symm.trans q5))
  go_ret
  exact ⟨rfl, below_trans b1 (below_trans x1 (below_trans b2 b3))⟩

/-
  Arrays of cells handed in by value, as the reader reads them: taken apart and put together again. No Go text in sight.
-/
section
variable {H : Type} {enc : TypeId × Value → H} {P : Program} {W : World} {base : Nat} {b2 : Nat} {spare : Nat → Bool} {held : Bool}
theorem open_arr {n : Nat} {t e : TypeId} {v : Value} {d : DataW H} {p : List MemPlace} {k : IntKind} (ht : P.underlying t = some (.array n e)) (he : P.underlying e = some (.int k)) (hce : P.cellsOf e = 1) (hct : P.cellsOf t = n)
    (hok : Value.okWide P W .any base t v) (h : DataW.Trod enc P W b2 spare held t v d p) :
    ∃ xs : List Int, xs.length = n ∧ v = .agg (xs.map (Value.int k)).toArray ∧ d = .agg (xs.map fun x => DataW.lit (.int k x)) ∧ p = [] ∧ ∀ x ∈ xs, (Lit.int k x).wf = true := by
  obtain ⟨cs, rfl, hsz, _⟩ : ∃ cs, v = .agg cs ∧ cs.size = P.cellsOf t ∧ Row.okWide P W .any base t cs := by
    simpa [Value.okWide, ht] using hok
  obtain ⟨fuel, hf⟩ := h
  have hf2 : DataW.trod enc P W b2 spare held fuel t cs.toList = some (d, p) := hf
  obtain ⟨ys, m, _, hx, hl, hlen, hel⟩ := DataW.trod_array ht hf2
  rw [hct] at hl
  rw [hce] at hel
  simp only [Nat.mul_one] at hel
  have key : ∀ i (hi : i < n), ∃ x : Int, cs.toList[i]? = some (Value.int k x) ∧ ys[i]? = some (.lit (.int k x), []) ∧ (Lit.int k x).wf = true := by
    intro i hi
    have h1 := hel i hi
    have hi2 : i < cs.toList.length := by omega
    have hi3 : i < ys.length := by omega
    rw [List.getElem?_eq_getElem hi3] at h1
    have e1 : (cs.toList.drop i).take 1 = [cs.toList[i]] := by
      rw [List.drop_eq_getElem_cons hi2]; simp
    rw [e1] at h1
    obtain ⟨x, ex, ey, wx⟩ := DataW.trod_int he h1
    simp at ex
    refine ⟨x, ?_, ?_, wx⟩
    · rw [List.getElem?_eq_getElem hi2]; simp [ex]
    · rw [List.getElem?_eq_getElem hi3, ey]
  let f : Nat → Int := fun i => match cs.toList[i]? with | some (Value.int _ x) => x | _ => 0
  have kf : ∀ i (hi : i < n), cs.toList[i]? = some (Value.int k (f i)) ∧ ys[i]? = some (.lit (.int k (f i)), []) ∧ (Lit.int k (f i)).wf = true := by
    intro i hi
    obtain ⟨x, h1, h2, h3⟩ := key i hi
    have : f i = x := by simp only [f, h1]
    rw [this]; exact ⟨h1, h2, h3⟩
  have ecs : cs.toList = ((List.range n).map f).map (Value.int k) := by
    apply List.ext_getElem?
    intro i
    by_cases hi : i < n
    · rw [(kf i hi).1]; simp [hi]
    · rw [List.getElem?_eq_none (by omega), List.getElem?_eq_none (by simp; omega)]
  have eys : ys = ((List.range n).map f).map fun x => (DataW.lit (.int k x), ([] : List MemPlace)) := by
    apply List.ext_getElem?
    intro i
    by_cases hi : i < n
    · rw [(kf i hi).2.1]; simp [hi]
    · rw [List.getElem?_eq_none (by omega), List.getElem?_eq_none (by simp; omega)]
  simp only [Prod.mk.injEq] at hx
  refine ⟨(List.range n).map f, by simp, ?_, ?_, ?_, ?_⟩
  · rw [← ecs]
  · rw [hx.1, eys]; simp
  · rw [hx.2, eys]; simp
  · intro x hx
    simp only [List.mem_map, List.mem_range] at hx
    obtain ⟨i, hi, rfl⟩ := hx
    exact (kf i hi).2.2

theorem shut_arr2 {t e : TypeId} {k : IntKind} {x0 x1 : Int} (ht : P.underlying t = some (.array 2 e)) (he : P.underlying e = some (.int k)) (hce : P.cellsOf e = 1) (hct : P.cellsOf t = 2)
    (w0 : (Lit.int k x0).wf = true) (w1 : (Lit.int k x1).wf = true) :
    DataW.Trod enc P W b2 spare held t (.agg #[.int k x0, .int k x1]) (.agg [.lit (.int k x0), .lit (.int k x1)]) [] :=
  ⟨2, by simp [DataW.trod, Value.cells, ht, he, hce, hct, w0, w1, show List.range 2 = [0, 1] from rfl]⟩
theorem shut_arr4 {t e : TypeId} {k : IntKind} {x0 x1 x2 x3 : Int} (ht : P.underlying t = some (.array 4 e)) (he : P.underlying e = some (.int k)) (hce : P.cellsOf e = 1) (hct : P.cellsOf t = 4)
    (w0 : (Lit.int k x0).wf = true) (w1 : (Lit.int k x1).wf = true) (w2 : (Lit.int k x2).wf = true) (w3 : (Lit.int k x3).wf = true) :
    DataW.Trod enc P W b2 spare held t (.agg #[.int k x0, .int k x1, .int k x2, .int k x3]) (.agg [.lit (.int k x0), .lit (.int k x1), .lit (.int k x2), .lit (.int k x3)]) [] :=
  ⟨2, by simp [DataW.trod, Value.cells, ht, he, hce, hct, w0, w1, w2, w3, show List.range 4 = [0, 1, 2, 3] from rfl]⟩
theorem open_arr2 {t e : TypeId} {v : Value} {d : DataW H} {p : List MemPlace} {k : IntKind} (ht : P.underlying t = some (.array 2 e)) (he : P.underlying e = some (.int k)) (hce : P.cellsOf e = 1) (hct : P.cellsOf t = 2)
    (hok : Value.okWide P W .any base t v) (h : DataW.Trod enc P W b2 spare held t v d p) :
    ∃ x0 x1 : Int, v = .agg #[.int k x0, .int k x1] ∧ d = .agg [.lit (.int k x0), .lit (.int k x1)] ∧ p = [] ∧ (Lit.int k x0).wf = true ∧ (Lit.int k x1).wf = true := by
  obtain ⟨xs, hl, hv, hd, hp, hw⟩ := open_arr ht he hce hct hok h
  match xs, hl with
  | [x0, x1], _ => exact ⟨x0, x1, by simpa using hv, by simpa using hd, hp, hw x0 (by simp), hw x1 (by simp)⟩
theorem shut_arr3 {t e : TypeId} {k : IntKind} {x0 x1 x2 : Int} (ht : P.underlying t = some (.array 3 e)) (he : P.underlying e = some (.int k)) (hce : P.cellsOf e = 1) (hct : P.cellsOf t = 3)
    (w0 : (Lit.int k x0).wf = true) (w1 : (Lit.int k x1).wf = true) (w2 : (Lit.int k x2).wf = true) :
    DataW.Trod enc P W b2 spare held t (.agg #[.int k x0, .int k x1, .int k x2]) (.agg [.lit (.int k x0), .lit (.int k x1), .lit (.int k x2)]) [] :=
  ⟨2, by simp [DataW.trod, Value.cells, ht, he, hce, hct, w0, w1, w2, show List.range 3 = [0, 1, 2] from rfl]⟩
theorem open_arr3 {t e : TypeId} {v : Value} {d : DataW H} {p : List MemPlace} {k : IntKind} (ht : P.underlying t = some (.array 3 e)) (he : P.underlying e = some (.int k)) (hce : P.cellsOf e = 1) (hct : P.cellsOf t = 3)
    (hok : Value.okWide P W .any base t v) (h : DataW.Trod enc P W b2 spare held t v d p) :
    ∃ x0 x1 x2 : Int, v = .agg #[.int k x0, .int k x1, .int k x2] ∧ d = .agg [.lit (.int k x0), .lit (.int k x1), .lit (.int k x2)] ∧ p = [] ∧ (Lit.int k x0).wf = true ∧ (Lit.int k x1).wf = true ∧ (Lit.int k x2).wf = true := by
  obtain ⟨xs, hl, hv, hd, hp, hw⟩ := open_arr ht he hce hct hok h
  match xs, hl with
  | [x0, x1, x2], _ => exact ⟨x0, x1, x2, by simpa using hv, by simpa using hd, hp, hw x0 (by simp), hw x1 (by simp), hw x2 (by simp)⟩
theorem open_arr4 {t e : TypeId} {v : Value} {d : DataW H} {p : List MemPlace} {k : IntKind} (ht : P.underlying t = some (.array 4 e)) (he : P.underlying e = some (.int k)) (hce : P.cellsOf e = 1) (hct : P.cellsOf t = 4)
    (hok : Value.okWide P W .any base t v) (h : DataW.Trod enc P W b2 spare held t v d p) :
    ∃ x0 x1 x2 x3 : Int, v = .agg #[.int k x0, .int k x1, .int k x2, .int k x3] ∧ d = .agg [.lit (.int k x0), .lit (.int k x1), .lit (.int k x2), .lit (.int k x3)] ∧ p = [] ∧ (Lit.int k x0).wf = true ∧ (Lit.int k x1).wf = true ∧ (Lit.int k x2).wf = true ∧ (Lit.int k x3).wf = true := by
  obtain ⟨xs, hl, hv, hd, hp, hw⟩ := open_arr ht he hce hct hok h
  match xs, hl with
  | [x0, x1, x2, x3], _ => exact ⟨x0, x1, x2, x3, by simpa using hv, by simpa using hd, hp, hw x0 (by simp), hw x1 (by simp), hw x2 (by simp), hw x3 (by simp)⟩
end

end Go.Proofs.Ytcffaojpmdhdoaa
