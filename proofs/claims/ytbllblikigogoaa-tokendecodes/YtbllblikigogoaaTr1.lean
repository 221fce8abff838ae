/-
  Bytes (but of offsets) of the document's answer for tokens.
-/
import Derived.Test.YtbllblikigogoaaTr0
namespace Go.Proofs.Ytbllblikigogoaa
open Go.ChangeShapes Go.WideShapes Go.ChangeAt Go.RowKit
set_option linter.unusedVariables false
set_option linter.unusedSimpArgs false

set_option maxHeartbeats 4000000 in
set_option maxRecDepth 100000 in
theorem w_rbytes0 (c n o : Int) (S : ByteArray) (wide : Bool) (w : World) (n0 : 0 ≤ n) (n1 : n < 4294967296) (hs : S.size ≤ maxLen) (hc : cdd c = true) (hk : bhF c = 0) :
    Calls Try.prog 21 #[.agg #[.int .i64 c, .int .u32 n, .string S, .int .i64 o], .bool wide] w fun e w' => ∃ v1, e = .returned (.tuple #[v1, .bool (okB 0 ⟨c, n, LB S, o⟩ wide)]) ∧ (okB 0 ⟨c, n, LB S, o⟩ wide = true → OwB w.heap.size w' v1 (cbF c ++ beQ 0 ⟨c, n, LB S, o⟩ wide)) ∧ Below w.heap.size w w' := by
  obtain ⟨i0, hi, hz0, hz1, hz2⟩ := info_parts infoU8
  have hs2 := hs
  unfold maxLen at hs2
  have cI := fun w => w_coded c w
  rw [hc] at cI
  have cB := fun w => w_rbehind c w
  rw [hk] at cB
  have cC := fun w => w_rcode c w hc
  have hcl : (cbF c).length ≤ 2 := by unfold cbF; split <;> simp
  clear hk hc
  obtain ⟨X, hX⟩ : ∃ X, cbF c = X := ⟨_, rfl⟩
  rw [hX] at hcl ⊢
  simp only [hX] at cC
  clear hX
  rcases Decidable.em (¬ n = 0) with hn | hn
  · have e : okB 0 ⟨c, n, LB S, o⟩ wide = false := by simp [okB, hn]
    rw [e]
    have q1 : (n != 0) = true := by simpa using hn
    have bw := box_below w (.cells #[.int .i64 c, .int .u32 n, .string S, .int .i64 o] 37)
    clear e hn cC
    go_enter Try.func21, Try.ntmps21
    go_wp2_with (first
      | (go_at_call 30; refine (cB _).mono ?_; rintro e q ⟨rfl, hw⟩; obtain rfl := hw.symm)
      | (go_at_call_of 29 (Value.int .i64 c); refine (cI _).mono ?_; rintro e q ⟨rfl, hw⟩; obtain rfl := hw.symm))
    go_ret2
    exact ⟨_, rfl, (by intro h; cases h), bw⟩
  · have hn := Decidable.not_not.1 hn
    subst hn
    rcases Decidable.em (¬ LB S = []) with hS | hS
    · have e : okB 0 ⟨c, 0, LB S, o⟩ wide = false := by simp [okB, hS]
      rw [e]
      have q0 : S.toList.isEmpty = false := by rw [nil_emp]; simpa using hS
      have q1 : (S.toList != (⟨#[]⟩ : ByteArray).toList) = true := by simp only [bne, nil_beq]; simpa using hS
      have q2 : (S.toList != []) = true := by simp only [bne]; rw [show (S.toList == []) = S.toList.isEmpty by cases S.toList <;> rfl, q0]; rfl
      have bw := box_below w (.cells #[.int .i64 c, .int .u32 0, .string S, .int .i64 o] 37)
      clear e hS cC
      go_enter Try.func21, Try.ntmps21
      go_wp2_with (first
        | (go_at_call 30; refine (cB _).mono ?_; rintro e q ⟨rfl, hw⟩; obtain rfl := hw.symm)
        | (go_at_call_of 29 (Value.int .i64 c); refine (cI _).mono ?_; rintro e q ⟨rfl, hw⟩; obtain rfl := hw.symm))
      go_ret2
      exact ⟨_, rfl, (by intro h; cases h), bw⟩
    · have hS := Decidable.not_not.1 hS
      obtain rfl : S = ⟨#[]⟩ := by rw [LB_eq, hS]; rfl
      rcases Decidable.em (¬ o = 0) with ho | ho
      · have e : okB 0 ⟨c, 0, LB ⟨#[]⟩, o⟩ wide = false := by simp [okB, ho]
        rw [e]
        have q1 : (o != 0) = true := by simpa using ho
        have bw := box_below w (.cells #[.int .i64 c, .int .u32 0, .string ⟨#[]⟩, .int .i64 o] 37)
        clear e ho cC
        go_enter Try.func21, Try.ntmps21
        go_wp2_with (first
          | (go_at_call 30; refine (cB _).mono ?_; rintro e q ⟨rfl, hw⟩; obtain rfl := hw.symm)
          | (go_at_call_of 29 (Value.int .i64 c); refine (cI _).mono ?_; rintro e q ⟨rfl, hw⟩; obtain rfl := hw.symm))
        go_ret2
        exact ⟨_, rfl, (by intro h; cases h), bw⟩
      · have ho := Decidable.not_not.1 ho
        subst ho
        have bw := box_below w (.cells #[.int .i64 c, .int .u32 0, .string ⟨#[]⟩, .int .i64 0] 37)
        have sw := stands_new w #[.int .i64 c, .int .u32 0, .string ⟨#[]⟩, .int .i64 0] 37
        go_enter Try.func21, Try.ntmps21
        go_wp2_with (first
          | (go_at_call_of 31 (Value.int .i64 c); refine (cC _).mono ?_; rintro e w1 ⟨v1, rfl, p1, b1⟩; have hs1 : w.heap.size ≤ w1.heap.size := (by have h8 := b1.size; rw [size_al] at h8; omega); have o1 := OwB.le p1 (b := w.heap.size) (by rw [size_al]; omega); have l1 := Lay.new (Nat.le_refl w.heap.size) (below_trans bw b1); have st1 := sw.below b1; have f0 := st1.cell 0 _ rfl; have f1 := st1.cell 1 _ rfl; have f2 := st1.cell 2 _ rfl; have f3 := st1.cell 3 _ rfl)
          | (go_at_call 30; refine (cB _).mono ?_; rintro e q ⟨rfl, hw⟩; obtain rfl := hw.symm)
          | (go_at_call_of 29 (Value.int .i64 c); refine (cI _).mono ?_; rintro e q ⟨rfl, hw⟩; obtain rfl := hw.symm))
        go_ret2
        refine ⟨v1, rfl, fun _ => ?_, l1.below⟩
        have := o1
        simpa [beQ] using this

set_option maxHeartbeats 4000000 in
set_option maxRecDepth 100000 in
theorem w_rbytes1 (c n o : Int) (S : ByteArray) (wide : Bool) (w : World) (n0 : 0 ≤ n) (n1 : n < 4294967296) (hs : S.size ≤ maxLen) (hc : cdd c = true) (hk : bhF c = 1) :
    Calls Try.prog 21 #[.agg #[.int .i64 c, .int .u32 n, .string S, .int .i64 o], .bool wide] w fun e w' => ∃ v1, e = .returned (.tuple #[v1, .bool (okB 1 ⟨c, n, LB S, o⟩ wide)]) ∧ (okB 1 ⟨c, n, LB S, o⟩ wide = true → OwB w.heap.size w' v1 (cbF c ++ beQ 1 ⟨c, n, LB S, o⟩ wide)) ∧ Below w.heap.size w w' := by
  obtain ⟨i0, hi, hz0, hz1, hz2⟩ := info_parts infoU8
  have hs2 := hs
  unfold maxLen at hs2
  have cI := fun w => w_coded c w
  rw [hc] at cI
  have cB := fun w => w_rbehind c w
  rw [hk] at cB
  have cC := fun w => w_rcode c w hc
  have hcl : (cbF c).length ≤ 2 := by unfold cbF; split <;> simp
  clear hk hc
  obtain ⟨X, hX⟩ : ∃ X, cbF c = X := ⟨_, rfl⟩
  rw [hX] at hcl ⊢
  simp only [hX] at cC
  clear hX
  rcases Decidable.em (¬ LB S = []) with hS | hS
  · have e : okB 1 ⟨c, n, LB S, o⟩ wide = false := by simp [okB, hS]
    rw [e]
    have q0 : S.toList.isEmpty = false := by rw [nil_emp]; simpa using hS
    have q1 : (S.toList != (⟨#[]⟩ : ByteArray).toList) = true := by simp only [bne, nil_beq]; simpa using hS
    have q2 : (S.toList != []) = true := by simp only [bne]; rw [show (S.toList == []) = S.toList.isEmpty by cases S.toList <;> rfl, q0]; rfl
    have bw := box_below w (.cells #[.int .i64 c, .int .u32 n, .string S, .int .i64 o] 37)
    clear e hS cC
    go_enter Try.func21, Try.ntmps21
    go_wp2_with (first
      | (go_at_call 30; refine (cB _).mono ?_; rintro e q ⟨rfl, hw⟩; obtain rfl := hw.symm)
      | (go_at_call_of 29 (Value.int .i64 c); refine (cI _).mono ?_; rintro e q ⟨rfl, hw⟩; obtain rfl := hw.symm))
    go_ret2
    exact ⟨_, rfl, (by intro h; cases h), bw⟩
  · have hS := Decidable.not_not.1 hS
    obtain rfl : S = ⟨#[]⟩ := by rw [LB_eq, hS]; rfl
    rcases Decidable.em (¬ o = 0) with ho | ho
    · have e : okB 1 ⟨c, n, LB ⟨#[]⟩, o⟩ wide = false := by simp [okB, ho]
      rw [e]
      have q1 : (o != 0) = true := by simpa using ho
      have bw := box_below w (.cells #[.int .i64 c, .int .u32 n, .string ⟨#[]⟩, .int .i64 o] 37)
      clear e ho cC
      go_enter Try.func21, Try.ntmps21
      go_wp2_with (first
        | (go_at_call 30; refine (cB _).mono ?_; rintro e q ⟨rfl, hw⟩; obtain rfl := hw.symm)
        | (go_at_call_of 29 (Value.int .i64 c); refine (cI _).mono ?_; rintro e q ⟨rfl, hw⟩; obtain rfl := hw.symm))
      go_ret2
      exact ⟨_, rfl, (by intro h; cases h), bw⟩
    · have ho := Decidable.not_not.1 ho
      subst ho
      have bw := box_below w (.cells #[.int .i64 c, .int .u32 n, .string ⟨#[]⟩, .int .i64 0] 37)
      have sw := stands_new w #[.int .i64 c, .int .u32 n, .string ⟨#[]⟩, .int .i64 0] 37
      have cA := fun w => w_rtwo (n / 65536) w (by omega) (by omega)
      have cD := fun w => w_rtwo (n % 65536) w (by omega) (by omega)
      have ht : Int.tdiv n 65536 = n / 65536 := Int.tdiv_eq_ediv_of_nonneg n0
      have hm : Int.tmod n 65536 = n % 65536 := Int.tmod_eq_emod_of_nonneg n0
      go_enter Try.func21, Try.ntmps21
      go_wp2_with (first
        | (at_builtin; refine wpList_append_rd (k := .u8) rfl _ _ 24 rfl w.heap.size 5 i0 1 Try.underlying24 hi hz0 hz1 hz2 v3 (X ++ [x2, y2]) rfl h4o v4 ([x4, y4]) rfl (Rd_own p4).1 (by unfold maxLen; simp [LB_len]; omega) (by simp [LB_len]; omega) (by omega) ?_; intro v5 w5 p5 g5; have o5 : OwB w.heap.size w5 v5 (X ++ [x2, y2] ++ [x4, y4]) := p5; have l5 := l4.trans (Lay.app h4o (by omega) g5); have hs5 : w.heap.size ≤ w5.heap.size := l5.below.size)
        | (go_at_call 32; have hsto := o3; refine (cD _).mono ?_; rintro e w4 ⟨v4, x4, y4, rfl, p4, b4, e4⟩; have h4o := OwB.below o3 b4; have l4 := l3.trans (Lay.new hs3 b4); have hs4 : w.heap.size ≤ w4.heap.size := l4.below.size)
        | (at_builtin; refine wpList_append_rd (k := .u8) rfl _ _ 24 rfl w.heap.size 5 i0 1 Try.underlying24 hi hz0 hz1 hz2 v1 (X) rfl h2o v2 ([x2, y2]) rfl (Rd_own p2).1 (by unfold maxLen; simp [LB_len]; omega) (by simp [LB_len]; omega) (by omega) ?_; intro v3 w3 p3 g3; have o3 : OwB w.heap.size w3 v3 (X ++ [x2, y2]) := p3; have l3 := l2.trans (Lay.app h2o (by omega) g3); have hs3 : w.heap.size ≤ w3.heap.size := l3.below.size)
        | (go_at_call 32; have hsto := o1; refine (cA _).mono ?_; rintro e w2 ⟨v2, x2, y2, rfl, p2, b2, e2⟩; have h2o := OwB.below o1 b2; have l2 := l1.trans (Lay.new hs1 b2); have hs2 : w.heap.size ≤ w2.heap.size := l2.below.size)
        | (go_at_call_of 31 (Value.int .i64 c); refine (cC _).mono ?_; rintro e w1 ⟨v1, rfl, p1, b1⟩; have hs1 : w.heap.size ≤ w1.heap.size := (by have h8 := b1.size; rw [size_al] at h8; omega); have o1 := OwB.le p1 (b := w.heap.size) (by rw [size_al]; omega); have l1 := Lay.new (Nat.le_refl w.heap.size) (below_trans bw b1); have st1 := sw.below b1; have f0 := st1.cell 0 _ rfl; have f1 := st1.cell 1 _ rfl; have f2 := st1.cell 2 _ rfl; have f3 := st1.cell 3 _ rfl)
        | (go_at_call 30; refine (cB _).mono ?_; rintro e q ⟨rfl, hw⟩; obtain rfl := hw.symm)
        | (go_at_call_of 29 (Value.int .i64 c); refine (cI _).mono ?_; rintro e q ⟨rfl, hw⟩; obtain rfl := hw.symm))
      go_ret2
      refine ⟨v5, rfl, fun _ => ?_, l5.below⟩
      have := o5
      obtain ⟨e21, e22⟩ := e2 (by omega)
      obtain ⟨e41, e42⟩ := e4 (by omega)
      rw [List.append_assoc] at this
      have e9 : [x2, y2] ++ [x4, y4] = [n / 16777216 % 256, n / 65536 % 256, n / 256 % 256, n % 256] := by simp only [List.cons_append, List.nil_append]; congr 1; omega; congr 1; congr 1; omega; congr 1; omega
      rw [e9] at this
      exact this

set_option maxHeartbeats 4000000 in
set_option maxRecDepth 100000 in
theorem w_rbytes2 (c n o : Int) (S : ByteArray) (wide : Bool) (w : World) (n0 : 0 ≤ n) (n1 : n < 4294967296) (hs : S.size ≤ maxLen) (hc : cdd c = true) (hk : bhF c = 2) :
    Calls Try.prog 21 #[.agg #[.int .i64 c, .int .u32 n, .string S, .int .i64 o], .bool wide] w fun e w' => ∃ v1, e = .returned (.tuple #[v1, .bool (okB 2 ⟨c, n, LB S, o⟩ wide)]) ∧ (okB 2 ⟨c, n, LB S, o⟩ wide = true → OwB w.heap.size w' v1 (cbF c ++ beQ 2 ⟨c, n, LB S, o⟩ wide)) ∧ Below w.heap.size w w' := by
  obtain ⟨i0, hi, hz0, hz1, hz2⟩ := info_parts infoU8
  have hs2 := hs
  unfold maxLen at hs2
  have cI := fun w => w_coded c w
  rw [hc] at cI
  have cB := fun w => w_rbehind c w
  rw [hk] at cB
  have cC := fun w => w_rcode c w hc
  have hcl : (cbF c).length ≤ 2 := by unfold cbF; split <;> simp
  clear hk hc
  obtain ⟨X, hX⟩ : ∃ X, cbF c = X := ⟨_, rfl⟩
  rw [hX] at hcl ⊢
  simp only [hX] at cC
  clear hX
  rcases Decidable.em (¬ LB S = []) with hS | hS
  · have e : okB 2 ⟨c, n, LB S, o⟩ wide = false := by simp [okB, hS]
    rw [e]
    have q0 : S.toList.isEmpty = false := by rw [nil_emp]; simpa using hS
    have q1 : (S.toList != (⟨#[]⟩ : ByteArray).toList) = true := by simp only [bne, nil_beq]; simpa using hS
    have q2 : (S.toList != []) = true := by simp only [bne]; rw [show (S.toList == []) = S.toList.isEmpty by cases S.toList <;> rfl, q0]; rfl
    have bw := box_below w (.cells #[.int .i64 c, .int .u32 n, .string S, .int .i64 o] 37)
    clear e hS cC
    go_enter Try.func21, Try.ntmps21
    go_wp2_with (first
      | (go_at_call 30; refine (cB _).mono ?_; rintro e q ⟨rfl, hw⟩; obtain rfl := hw.symm)
      | (go_at_call_of 29 (Value.int .i64 c); refine (cI _).mono ?_; rintro e q ⟨rfl, hw⟩; obtain rfl := hw.symm))
    go_ret2
    exact ⟨_, rfl, (by intro h; cases h), bw⟩
  · have hS := Decidable.not_not.1 hS
    obtain rfl : S = ⟨#[]⟩ := by rw [LB_eq, hS]; rfl
    rcases Decidable.em (¬ o = 0) with ho | ho
    · have e : okB 2 ⟨c, n, LB ⟨#[]⟩, o⟩ wide = false := by simp [okB, ho]
      rw [e]
      have q1 : (o != 0) = true := by simpa using ho
      have bw := box_below w (.cells #[.int .i64 c, .int .u32 n, .string ⟨#[]⟩, .int .i64 o] 37)
      clear e ho cC
      go_enter Try.func21, Try.ntmps21
      go_wp2_with (first
        | (go_at_call 30; refine (cB _).mono ?_; rintro e q ⟨rfl, hw⟩; obtain rfl := hw.symm)
        | (go_at_call_of 29 (Value.int .i64 c); refine (cI _).mono ?_; rintro e q ⟨rfl, hw⟩; obtain rfl := hw.symm))
      go_ret2
      exact ⟨_, rfl, (by intro h; cases h), bw⟩
    · have ho := Decidable.not_not.1 ho
      subst ho
      have bw := box_below w (.cells #[.int .i64 c, .int .u32 n, .string ⟨#[]⟩, .int .i64 0] 37)
      have sw := stands_new w #[.int .i64 c, .int .u32 n, .string ⟨#[]⟩, .int .i64 0] 37
      have cN := fun w => w_coded n w
      cases hN : cdd n with
      | true =>
        rw [hN] at cN
        have e : okB 2 ⟨c, n, LB ⟨#[]⟩, 0⟩ wide = true := by simp [okB, hN]; rfl
        rw [e]
        have cM := fun w => w_rcode n w hN
        have hcn : (cbF n).length ≤ 2 := by unfold cbF; split <;> simp
        clear hN e
        go_enter Try.func21, Try.ntmps21
        go_wp2_with (first
          | (at_builtin; refine wpList_append_rd (k := .u8) rfl _ _ 24 rfl w.heap.size 5 i0 1 Try.underlying24 hi hz0 hz1 hz2 v1 (X) rfl h2o v2 (cbF n) rfl (Rd_own p2).1 (by unfold maxLen; simp [LB_len]; omega) (by simp [LB_len]; omega) (by omega) ?_; intro v3 w3 p3 g3; have o3 : OwB w.heap.size w3 v3 (X ++ cbF n) := p3; have l3 := l2.trans (Lay.app h2o (by omega) g3); have hs3 : w.heap.size ≤ w3.heap.size := l3.below.size)
          | (go_at_call_of 31 (Value.int .i64 n); refine (cM _).mono ?_; rintro e w2 ⟨v2, rfl, p2, b2⟩; have h2o := OwB.below o1 b2; have l2 := l1.trans (Lay.new hs1 b2); have hs2 : w.heap.size ≤ w2.heap.size := l2.below.size)
          | (go_at_call_of 29 (Value.int .i64 n); refine (cN _).mono ?_; rintro e q ⟨rfl, hw⟩; obtain rfl := hw.symm)
          | (go_at_call_of 31 (Value.int .i64 c); refine (cC _).mono ?_; rintro e w1 ⟨v1, rfl, p1, b1⟩; have hs1 : w.heap.size ≤ w1.heap.size := (by have h8 := b1.size; rw [size_al] at h8; omega); have o1 := OwB.le p1 (b := w.heap.size) (by rw [size_al]; omega); have l1 := Lay.new (Nat.le_refl w.heap.size) (below_trans bw b1); have st1 := sw.below b1; have f0 := st1.cell 0 _ rfl; have f1 := st1.cell 1 _ rfl; have f2 := st1.cell 2 _ rfl; have f3 := st1.cell 3 _ rfl)
          | (go_at_call 30; refine (cB _).mono ?_; rintro e q ⟨rfl, hw⟩; obtain rfl := hw.symm)
          | (go_at_call_of 29 (Value.int .i64 c); refine (cI _).mono ?_; rintro e q ⟨rfl, hw⟩; obtain rfl := hw.symm))
        go_ret2
        refine ⟨v3, rfl, fun _ => ?_, l3.below⟩
        have := o3
        exact this
      | false =>
        rw [hN] at cN
        have e : okB 2 ⟨c, n, LB ⟨#[]⟩, 0⟩ wide = false := by simp [okB, hN]
        rw [e]
        clear hN e
        go_enter Try.func21, Try.ntmps21
        go_wp2_with (first
          | (go_at_call_of 29 (Value.int .i64 n); refine (cN _).mono ?_; rintro e q ⟨rfl, hw⟩; obtain rfl := hw.symm)
          | (go_at_call_of 31 (Value.int .i64 c); refine (cC _).mono ?_; rintro e w1 ⟨v1, rfl, p1, b1⟩; have hs1 : w.heap.size ≤ w1.heap.size := (by have h8 := b1.size; rw [size_al] at h8; omega); have o1 := OwB.le p1 (b := w.heap.size) (by rw [size_al]; omega); have l1 := Lay.new (Nat.le_refl w.heap.size) (below_trans bw b1); have st1 := sw.below b1; have f0 := st1.cell 0 _ rfl; have f1 := st1.cell 1 _ rfl; have f2 := st1.cell 2 _ rfl; have f3 := st1.cell 3 _ rfl)
          | (go_at_call 30; refine (cB _).mono ?_; rintro e q ⟨rfl, hw⟩; obtain rfl := hw.symm)
          | (go_at_call_of 29 (Value.int .i64 c); refine (cI _).mono ?_; rintro e q ⟨rfl, hw⟩; obtain rfl := hw.symm))
        go_ret2
        exact ⟨_, rfl, (by intro h; cases h), l1.below⟩

set_option maxHeartbeats 4000000 in
set_option maxRecDepth 100000 in
theorem w_rbytes3 (c n o : Int) (S : ByteArray) (wide : Bool) (w : World) (n0 : 0 ≤ n) (n1 : n < 4294967296) (hs : S.size ≤ maxLen) (hc : cdd c = true) (hk : bhF c = 3) :
    Calls Try.prog 21 #[.agg #[.int .i64 c, .int .u32 n, .string S, .int .i64 o], .bool wide] w fun e w' => ∃ v1, e = .returned (.tuple #[v1, .bool (okB 3 ⟨c, n, LB S, o⟩ wide)]) ∧ (okB 3 ⟨c, n, LB S, o⟩ wide = true → OwB w.heap.size w' v1 (cbF c ++ beQ 3 ⟨c, n, LB S, o⟩ wide)) ∧ Below w.heap.size w w' := by
  obtain ⟨i0, hi, hz0, hz1, hz2⟩ := info_parts infoU8
  have hs2 := hs
  unfold maxLen at hs2
  have cI := fun w => w_coded c w
  rw [hc] at cI
  have cB := fun w => w_rbehind c w
  rw [hk] at cB
  have cC := fun w => w_rcode c w hc
  have hcl : (cbF c).length ≤ 2 := by unfold cbF; split <;> simp
  clear hk hc
  obtain ⟨X, hX⟩ : ∃ X, cbF c = X := ⟨_, rfl⟩
  rw [hX] at hcl ⊢
  simp only [hX] at cC
  clear hX
  rcases Decidable.em (¬ n = 0) with hn | hn
  · have e : okB 3 ⟨c, n, LB S, o⟩ wide = false := by simp [okB, hn]
    rw [e]
    have q1 : (n != 0) = true := by simpa using hn
    have bw := box_below w (.cells #[.int .i64 c, .int .u32 n, .string S, .int .i64 o] 37)
    clear e hn cC
    go_enter Try.func21, Try.ntmps21
    go_wp2_with (first
      | (go_at_call 30; refine (cB _).mono ?_; rintro e q ⟨rfl, hw⟩; obtain rfl := hw.symm)
      | (go_at_call_of 29 (Value.int .i64 c); refine (cI _).mono ?_; rintro e q ⟨rfl, hw⟩; obtain rfl := hw.symm))
    go_ret2
    exact ⟨_, rfl, (by intro h; cases h), bw⟩
  · have hn := Decidable.not_not.1 hn
    subst hn
    rcases Decidable.em (¬ o = 0) with ho | ho
    · have e : okB 3 ⟨c, 0, LB S, o⟩ wide = false := by simp [okB, ho]
      rw [e]
      have q1 : (o != 0) = true := by simpa using ho
      have bw := box_below w (.cells #[.int .i64 c, .int .u32 0, .string S, .int .i64 o] 37)
      clear e ho cC
      go_enter Try.func21, Try.ntmps21
      go_wp2_with (first
        | (go_at_call 30; refine (cB _).mono ?_; rintro e q ⟨rfl, hw⟩; obtain rfl := hw.symm)
        | (go_at_call_of 29 (Value.int .i64 c); refine (cI _).mono ?_; rintro e q ⟨rfl, hw⟩; obtain rfl := hw.symm))
      go_ret2
      exact ⟨_, rfl, (by intro h; cases h), bw⟩
    · have ho := Decidable.not_not.1 ho
      subst ho
      have bw := box_below w (.cells #[.int .i64 c, .int .u32 0, .string S, .int .i64 0] 37)
      have sw := stands_new w #[.int .i64 c, .int .u32 0, .string S, .int .i64 0] 37
      by_cases hl : (255 : Int) < S.size
      · have e : okB 3 ⟨c, 0, LB S, 0⟩ wide = false := by simp [okB, LB_len]; omega
        rw [e]
        clear e
        go_enter Try.func21, Try.ntmps21
        go_wp2_with (first
          | (go_at_call_of 31 (Value.int .i64 c); refine (cC _).mono ?_; rintro e w1 ⟨v1, rfl, p1, b1⟩; have hs1 : w.heap.size ≤ w1.heap.size := (by have h8 := b1.size; rw [size_al] at h8; omega); have o1 := OwB.le p1 (b := w.heap.size) (by rw [size_al]; omega); have l1 := Lay.new (Nat.le_refl w.heap.size) (below_trans bw b1); have st1 := sw.below b1; have f0 := st1.cell 0 _ rfl; have f1 := st1.cell 1 _ rfl; have f2 := st1.cell 2 _ rfl; have f3 := st1.cell 3 _ rfl)
          | (go_at_call 30; refine (cB _).mono ?_; rintro e q ⟨rfl, hw⟩; obtain rfl := hw.symm)
          | (go_at_call_of 29 (Value.int .i64 c); refine (cI _).mono ?_; rintro e q ⟨rfl, hw⟩; obtain rfl := hw.symm))
        go_ret2
        exact ⟨_, rfl, (by intro h; cases h), l1.below⟩
      · have e : okB 3 ⟨c, 0, LB S, 0⟩ wide = true := by simp [okB, LB_len]; omega
        rw [e]
        clear e
        have hw : IntKind.u8.wrap (S.size : Int) = S.size := by rw [IntKind.wrap_u8]; omega
        go_enter Try.func21, Try.ntmps21
        go_wp2_with (first
          | (at_builtin; refine wpList_append_rds rfl _ _ 24 9 rfl w.heap.size 5 i0 Try.underlying24 Try.underlying9 hi hz0 hz1 hz2 v2 (X ++ [(S.size : Int)]) rfl o2 S rfl (by unfold maxLen; simp; omega) (by simp; omega) (by omega) ?_; intro v3 w3 p3 g3; have o3 : OwB w.heap.size w3 v3 (X ++ [(S.size : Int)] ++ LB S) := p3; have l3 := l2.trans (Lay.app o2 (by omega) g3); have hs3 : w.heap.size ≤ w3.heap.size := l3.below.size)
          | (at_builtin; refine wpList_append_rd (k := .u8) rfl _ _ 24 rfl w.heap.size 5 i0 1 Try.underlying24 hi hz0 hz1 hz2 v1 (X) rfl (OwB.below o1 (box_below w1 _)) _ [(S.size : Int)] rfl (rd_one w1 _ _) (by unfold maxLen; simp [LB_len]; omega) (by simp [LB_len]; omega) (by rw [size_al]; omega) ?_; intro v2 w2 p2 g2; have o2 : OwB w.heap.size w2 v2 (X ++ [(S.size : Int)]) := p2; have l2 := l1.trans ((Lay.new hs1 (box_below w1 _)).trans (Lay.app (OwB.below o1 (box_below w1 _)) (by rw [size_al]; omega) g2)); have st2 := st1.agr ((Agr.below (box_below w1 _)).trans (Lay.app (OwB.below o1 (box_below w1 _)) (by rw [size_al]; omega) g2).agr) rfl (fun h => h); have f22 := st2.cell 2 _ rfl; have hs2 : w.heap.size ≤ w2.heap.size := l2.below.size)
          | (go_at_call_of 31 (Value.int .i64 c); refine (cC _).mono ?_; rintro e w1 ⟨v1, rfl, p1, b1⟩; have hs1 : w.heap.size ≤ w1.heap.size := (by have h8 := b1.size; rw [size_al] at h8; omega); have o1 := OwB.le p1 (b := w.heap.size) (by rw [size_al]; omega); have l1 := Lay.new (Nat.le_refl w.heap.size) (below_trans bw b1); have st1 := sw.below b1; have f0 := st1.cell 0 _ rfl; have f1 := st1.cell 1 _ rfl; have f2 := st1.cell 2 _ rfl; have f3 := st1.cell 3 _ rfl)
          | (go_at_call 30; refine (cB _).mono ?_; rintro e q ⟨rfl, hw⟩; obtain rfl := hw.symm)
          | (go_at_call_of 29 (Value.int .i64 c); refine (cI _).mono ?_; rintro e q ⟨rfl, hw⟩; obtain rfl := hw.symm))
        go_ret2
        refine ⟨v3, rfl, fun _ => ?_, l3.below⟩
        have := o3
        simp only [beQ, LB_len]
        rw [List.append_assoc] at this
        exact this

set_option maxHeartbeats 4000000 in
set_option maxRecDepth 100000 in
theorem w_rbytes5 (c n o : Int) (S : ByteArray) (wide : Bool) (w : World) (n0 : 0 ≤ n) (n1 : n < 4294967296) (hs : S.size ≤ maxLen) (hc : cdd c = true) (hk : bhF c = 5) :
    Calls Try.prog 21 #[.agg #[.int .i64 c, .int .u32 n, .string S, .int .i64 o], .bool wide] w fun e w' => ∃ v1, e = .returned (.tuple #[v1, .bool (okB 5 ⟨c, n, LB S, o⟩ wide)]) ∧ (okB 5 ⟨c, n, LB S, o⟩ wide = true → OwB w.heap.size w' v1 (cbF c ++ beQ 5 ⟨c, n, LB S, o⟩ wide)) ∧ Below w.heap.size w w' := by
  obtain ⟨i0, hi, hz0, hz1, hz2⟩ := info_parts infoU8
  have hs2 := hs
  unfold maxLen at hs2
  have cI := fun w => w_coded c w
  rw [hc] at cI
  have cB := fun w => w_rbehind c w
  rw [hk] at cB
  have cC := fun w => w_rcode c w hc
  have hcl : (cbF c).length ≤ 2 := by unfold cbF; split <;> simp
  clear hk hc
  obtain ⟨X, hX⟩ : ∃ X, cbF c = X := ⟨_, rfl⟩
  rw [hX] at hcl ⊢
  simp only [hX] at cC
  clear hX
  rcases Decidable.em (¬ LB S = []) with hS | hS
  · have e : okB 5 ⟨c, n, LB S, o⟩ wide = false := by simp [okB, hS]
    rw [e]
    have q0 : S.toList.isEmpty = false := by rw [nil_emp]; simpa using hS
    have q1 : (S.toList != (⟨#[]⟩ : ByteArray).toList) = true := by simp only [bne, nil_beq]; simpa using hS
    have q2 : (S.toList != []) = true := by simp only [bne]; rw [show (S.toList == []) = S.toList.isEmpty by cases S.toList <;> rfl, q0]; rfl
    have bw := box_below w (.cells #[.int .i64 c, .int .u32 n, .string S, .int .i64 o] 37)
    clear e hS cC
    go_enter Try.func21, Try.ntmps21
    go_wp2_with (first
      | (go_at_call 30; refine (cB _).mono ?_; rintro e q ⟨rfl, hw⟩; obtain rfl := hw.symm)
      | (go_at_call_of 29 (Value.int .i64 c); refine (cI _).mono ?_; rintro e q ⟨rfl, hw⟩; obtain rfl := hw.symm))
    go_ret2
    exact ⟨_, rfl, (by intro h; cases h), bw⟩
  · have hS := Decidable.not_not.1 hS
    obtain rfl : S = ⟨#[]⟩ := by rw [LB_eq, hS]; rfl
    rcases Decidable.em (¬ o = 0) with ho | ho
    · have e : okB 5 ⟨c, n, LB ⟨#[]⟩, o⟩ wide = false := by simp [okB, ho]
      rw [e]
      have q1 : (o != 0) = true := by simpa using ho
      have bw := box_below w (.cells #[.int .i64 c, .int .u32 n, .string ⟨#[]⟩, .int .i64 o] 37)
      clear e ho cC
      go_enter Try.func21, Try.ntmps21
      go_wp2_with (first
        | (go_at_call 30; refine (cB _).mono ?_; rintro e q ⟨rfl, hw⟩; obtain rfl := hw.symm)
        | (go_at_call_of 29 (Value.int .i64 c); refine (cI _).mono ?_; rintro e q ⟨rfl, hw⟩; obtain rfl := hw.symm))
      go_ret2
      exact ⟨_, rfl, (by intro h; cases h), bw⟩
    · have ho := Decidable.not_not.1 ho
      subst ho
      have bw := box_below w (.cells #[.int .i64 c, .int .u32 n, .string ⟨#[]⟩, .int .i64 0] 37)
      have sw := stands_new w #[.int .i64 c, .int .u32 n, .string ⟨#[]⟩, .int .i64 0] 37
      by_cases h1 : n < 2048
      · have e : okB 5 ⟨c, n, LB ⟨#[]⟩, 0⟩ wide = false := by simp [okB, nwF, LB_len]; omega
        rw [e]
        clear e
        go_enter Try.func21, Try.ntmps21
        go_wp2_with (first
          | (go_at_call_of 31 (Value.int .i64 c); refine (cC _).mono ?_; rintro e w1 ⟨v1, rfl, p1, b1⟩; have hs1 : w.heap.size ≤ w1.heap.size := (by have h8 := b1.size; rw [size_al] at h8; omega); have o1 := OwB.le p1 (b := w.heap.size) (by rw [size_al]; omega); have l1 := Lay.new (Nat.le_refl w.heap.size) (below_trans bw b1); have st1 := sw.below b1; have f0 := st1.cell 0 _ rfl; have f1 := st1.cell 1 _ rfl; have f2 := st1.cell 2 _ rfl; have f3 := st1.cell 3 _ rfl)
          | (go_at_call 30; refine (cB _).mono ?_; rintro e q ⟨rfl, hw⟩; obtain rfl := hw.symm)
          | (go_at_call_of 29 (Value.int .i64 c); refine (cI _).mono ?_; rintro e q ⟨rfl, hw⟩; obtain rfl := hw.symm))
        go_ret2
        exact ⟨_, rfl, (by intro h; cases h), l1.below⟩
      by_cases h2 : 4095 < n
      · have e : okB 5 ⟨c, n, LB ⟨#[]⟩, 0⟩ wide = false := by simp [okB, nwF, LB_len]; omega
        rw [e]
        clear e
        go_enter Try.func21, Try.ntmps21
        go_wp2_with (first
          | (go_at_call_of 31 (Value.int .i64 c); refine (cC _).mono ?_; rintro e w1 ⟨v1, rfl, p1, b1⟩; have hs1 : w.heap.size ≤ w1.heap.size := (by have h8 := b1.size; rw [size_al] at h8; omega); have o1 := OwB.le p1 (b := w.heap.size) (by rw [size_al]; omega); have l1 := Lay.new (Nat.le_refl w.heap.size) (below_trans bw b1); have st1 := sw.below b1; have f0 := st1.cell 0 _ rfl; have f1 := st1.cell 1 _ rfl; have f2 := st1.cell 2 _ rfl; have f3 := st1.cell 3 _ rfl)
          | (go_at_call 30; refine (cB _).mono ?_; rintro e q ⟨rfl, hw⟩; obtain rfl := hw.symm)
          | (go_at_call_of 29 (Value.int .i64 c); refine (cI _).mono ?_; rintro e q ⟨rfl, hw⟩; obtain rfl := hw.symm))
        go_ret2
        exact ⟨_, rfl, (by intro h; cases h), l1.below⟩
      have e : okB 5 ⟨c, n, LB ⟨#[]⟩, 0⟩ wide = true := by simp [okB, nwF, LB_len]; first | omega | exact ⟨rfl, by omega, by omega⟩
      rw [e]
      clear e
      have cA := fun w => w_rtwo n w (by omega) (by omega)
      go_enter Try.func21, Try.ntmps21
      go_wp2_with (first
        | (at_builtin; refine wpList_append_rd (k := .u8) rfl _ _ 24 rfl w.heap.size 5 i0 1 Try.underlying24 hi hz0 hz1 hz2 v1 (X) rfl h2o v2 ([x2, y2]) rfl (Rd_own p2).1 (by unfold maxLen; simp [LB_len]; omega) (by simp [LB_len]; omega) (by omega) ?_; intro v3 w3 p3 g3; have o3 : OwB w.heap.size w3 v3 (X ++ [x2, y2]) := p3; have l3 := l2.trans (Lay.app h2o (by omega) g3); have hs3 : w.heap.size ≤ w3.heap.size := l3.below.size)
        | (go_at_call 32; have hsto := o1; refine (cA _).mono ?_; rintro e w2 ⟨v2, x2, y2, rfl, p2, b2, e2⟩; have h2o := OwB.below o1 b2; have l2 := l1.trans (Lay.new hs1 b2); have hs2 : w.heap.size ≤ w2.heap.size := l2.below.size)
        | (go_at_call_of 31 (Value.int .i64 c); refine (cC _).mono ?_; rintro e w1 ⟨v1, rfl, p1, b1⟩; have hs1 : w.heap.size ≤ w1.heap.size := (by have h8 := b1.size; rw [size_al] at h8; omega); have o1 := OwB.le p1 (b := w.heap.size) (by rw [size_al]; omega); have l1 := Lay.new (Nat.le_refl w.heap.size) (below_trans bw b1); have st1 := sw.below b1; have f0 := st1.cell 0 _ rfl; have f1 := st1.cell 1 _ rfl; have f2 := st1.cell 2 _ rfl; have f3 := st1.cell 3 _ rfl)
        | (go_at_call 30; refine (cB _).mono ?_; rintro e q ⟨rfl, hw⟩; obtain rfl := hw.symm)
        | (go_at_call_of 29 (Value.int .i64 c); refine (cI _).mono ?_; rintro e q ⟨rfl, hw⟩; obtain rfl := hw.symm))
      go_ret2
      refine ⟨v3, rfl, fun _ => ?_, l3.below⟩
      have := o3
      obtain ⟨e21, e22⟩ := e2 n0
      subst e21 e22
      exact this

set_option maxHeartbeats 4000000 in
set_option maxRecDepth 100000 in
theorem w_rbytes6 (c n o : Int) (S : ByteArray) (wide : Bool) (w : World) (n0 : 0 ≤ n) (n1 : n < 4294967296) (hs : S.size ≤ maxLen) (hc : cdd c = true) (hk : bhF c = 6) :
    Calls Try.prog 21 #[.agg #[.int .i64 c, .int .u32 n, .string S, .int .i64 o], .bool wide] w fun e w' => ∃ v1, e = .returned (.tuple #[v1, .bool (okB 6 ⟨c, n, LB S, o⟩ wide)]) ∧ (okB 6 ⟨c, n, LB S, o⟩ wide = true → OwB w.heap.size w' v1 (cbF c ++ beQ 6 ⟨c, n, LB S, o⟩ wide)) ∧ Below w.heap.size w w' := by
  obtain ⟨i0, hi, hz0, hz1, hz2⟩ := info_parts infoU8
  have hs2 := hs
  unfold maxLen at hs2
  have cI := fun w => w_coded c w
  rw [hc] at cI
  have cB := fun w => w_rbehind c w
  rw [hk] at cB
  have cC := fun w => w_rcode c w hc
  have hcl : (cbF c).length ≤ 2 := by unfold cbF; split <;> simp
  clear hk hc
  obtain ⟨X, hX⟩ : ∃ X, cbF c = X := ⟨_, rfl⟩
  rw [hX] at hcl ⊢
  simp only [hX] at cC
  clear hX
  rcases Decidable.em (¬ o = 0) with ho | ho
  · have e : okB 6 ⟨c, n, LB S, o⟩ wide = false := by simp [okB, ho]
    rw [e]
    have q1 : (o != 0) = true := by simpa using ho
    have bw := box_below w (.cells #[.int .i64 c, .int .u32 n, .string S, .int .i64 o] 37)
    clear e ho cC
    go_enter Try.func21, Try.ntmps21
    go_wp2_with (first
      | (go_at_call 30; refine (cB _).mono ?_; rintro e q ⟨rfl, hw⟩; obtain rfl := hw.symm)
      | (go_at_call_of 29 (Value.int .i64 c); refine (cI _).mono ?_; rintro e q ⟨rfl, hw⟩; obtain rfl := hw.symm))
    go_ret2
    exact ⟨_, rfl, (by intro h; cases h), bw⟩
  · have ho := Decidable.not_not.1 ho
    subst ho
    have bw := box_below w (.cells #[.int .i64 c, .int .u32 n, .string S, .int .i64 0] 37)
    have sw := stands_new w #[.int .i64 c, .int .u32 n, .string S, .int .i64 0] 37
    by_cases h1 : n < 2048
    · have e : okB 6 ⟨c, n, LB S, 0⟩ wide = false := by simp [okB, nwF, LB_len]; omega
      rw [e]
      clear e
      go_enter Try.func21, Try.ntmps21
      go_wp2_with (first
        | (go_at_call_of 31 (Value.int .i64 c); refine (cC _).mono ?_; rintro e w1 ⟨v1, rfl, p1, b1⟩; have hs1 : w.heap.size ≤ w1.heap.size := (by have h8 := b1.size; rw [size_al] at h8; omega); have o1 := OwB.le p1 (b := w.heap.size) (by rw [size_al]; omega); have l1 := Lay.new (Nat.le_refl w.heap.size) (below_trans bw b1); have st1 := sw.below b1; have f0 := st1.cell 0 _ rfl; have f1 := st1.cell 1 _ rfl; have f2 := st1.cell 2 _ rfl; have f3 := st1.cell 3 _ rfl)
        | (go_at_call 30; refine (cB _).mono ?_; rintro e q ⟨rfl, hw⟩; obtain rfl := hw.symm)
        | (go_at_call_of 29 (Value.int .i64 c); refine (cI _).mono ?_; rintro e q ⟨rfl, hw⟩; obtain rfl := hw.symm))
      go_ret2
      exact ⟨_, rfl, (by intro h; cases h), l1.below⟩
    by_cases h2 : 4095 < n
    · have e : okB 6 ⟨c, n, LB S, 0⟩ wide = false := by simp [okB, nwF, LB_len]; omega
      rw [e]
      clear e
      go_enter Try.func21, Try.ntmps21
      go_wp2_with (first
        | (go_at_call_of 31 (Value.int .i64 c); refine (cC _).mono ?_; rintro e w1 ⟨v1, rfl, p1, b1⟩; have hs1 : w.heap.size ≤ w1.heap.size := (by have h8 := b1.size; rw [size_al] at h8; omega); have o1 := OwB.le p1 (b := w.heap.size) (by rw [size_al]; omega); have l1 := Lay.new (Nat.le_refl w.heap.size) (below_trans bw b1); have st1 := sw.below b1; have f0 := st1.cell 0 _ rfl; have f1 := st1.cell 1 _ rfl; have f2 := st1.cell 2 _ rfl; have f3 := st1.cell 3 _ rfl)
        | (go_at_call 30; refine (cB _).mono ?_; rintro e q ⟨rfl, hw⟩; obtain rfl := hw.symm)
        | (go_at_call_of 29 (Value.int .i64 c); refine (cI _).mono ?_; rintro e q ⟨rfl, hw⟩; obtain rfl := hw.symm))
      go_ret2
      exact ⟨_, rfl, (by intro h; cases h), l1.below⟩
    by_cases hl : (31 : Int) < S.size
    · have e : okB 6 ⟨c, n, LB S, 0⟩ wide = false := by simp [okB, nwF, LB_len]; omega
      rw [e]
      clear e
      go_enter Try.func21, Try.ntmps21
      go_wp2_with (first
        | (go_at_call_of 31 (Value.int .i64 c); refine (cC _).mono ?_; rintro e w1 ⟨v1, rfl, p1, b1⟩; have hs1 : w.heap.size ≤ w1.heap.size := (by have h8 := b1.size; rw [size_al] at h8; omega); have o1 := OwB.le p1 (b := w.heap.size) (by rw [size_al]; omega); have l1 := Lay.new (Nat.le_refl w.heap.size) (below_trans bw b1); have st1 := sw.below b1; have f0 := st1.cell 0 _ rfl; have f1 := st1.cell 1 _ rfl; have f2 := st1.cell 2 _ rfl; have f3 := st1.cell 3 _ rfl)
        | (go_at_call 30; refine (cB _).mono ?_; rintro e q ⟨rfl, hw⟩; obtain rfl := hw.symm)
        | (go_at_call_of 29 (Value.int .i64 c); refine (cI _).mono ?_; rintro e q ⟨rfl, hw⟩; obtain rfl := hw.symm))
      go_ret2
      exact ⟨_, rfl, (by intro h; cases h), l1.below⟩
    have e : okB 6 ⟨c, n, LB S, 0⟩ wide = true := by simp [okB, nwF, LB_len]; omega
    rw [e]
    clear e
    have cA := fun w => w_rtwo n w (by omega) (by omega)
    have hw : IntKind.u8.wrap (S.size : Int) = S.size := by rw [IntKind.wrap_u8]; omega
    go_enter Try.func21, Try.ntmps21
    go_wp2_with (first
      | (at_builtin; refine wpList_append_rd (k := .u8) rfl _ _ 24 rfl w.heap.size 5 i0 1 Try.underlying24 hi hz0 hz1 hz2 v3 (X ++ [(S.size : Int)] ++ LB S) rfl h4o v4 ([x4, y4]) rfl (Rd_own p4).1 (by unfold maxLen; simp [LB_len]; omega) (by simp [LB_len]; omega) (by omega) ?_; intro v5 w5 p5 g5; have o5 : OwB w.heap.size w5 v5 (X ++ [(S.size : Int)] ++ LB S ++ [x4, y4]) := p5; have l5 := l4.trans (Lay.app h4o (by omega) g5); have hs5 : w.heap.size ≤ w5.heap.size := l5.below.size)
      | (go_at_call 32; have hsto := o3; refine (cA _).mono ?_; rintro e w4 ⟨v4, x4, y4, rfl, p4, b4, e4⟩; have h4o := OwB.below o3 b4; have l4 := l3.trans (Lay.new hs3 b4); have hs4 : w.heap.size ≤ w4.heap.size := l4.below.size)
      | (at_builtin; refine wpList_append_rds rfl _ _ 24 9 rfl w.heap.size 5 i0 Try.underlying24 Try.underlying9 hi hz0 hz1 hz2 v2 (X ++ [(S.size : Int)]) rfl o2 S rfl (by unfold maxLen; simp; omega) (by simp; omega) (by omega) ?_; intro v3 w3 p3 g3; have o3 : OwB w.heap.size w3 v3 (X ++ [(S.size : Int)] ++ LB S) := p3; have l3 := l2.trans (Lay.app o2 (by omega) g3); have hs3 : w.heap.size ≤ w3.heap.size := l3.below.size)
      | (at_builtin; refine wpList_append_rd (k := .u8) rfl _ _ 24 rfl w.heap.size 5 i0 1 Try.underlying24 hi hz0 hz1 hz2 v1 (X) rfl (OwB.below o1 (box_below w1 _)) _ [(S.size : Int)] rfl (rd_one w1 _ _) (by unfold maxLen; simp [LB_len]; omega) (by simp [LB_len]; omega) (by rw [size_al]; omega) ?_; intro v2 w2 p2 g2; have o2 : OwB w.heap.size w2 v2 (X ++ [(S.size : Int)]) := p2; have l2 := l1.trans ((Lay.new hs1 (box_below w1 _)).trans (Lay.app (OwB.below o1 (box_below w1 _)) (by rw [size_al]; omega) g2)); have st2 := st1.agr ((Agr.below (box_below w1 _)).trans (Lay.app (OwB.below o1 (box_below w1 _)) (by rw [size_al]; omega) g2).agr) rfl (fun h => h); have f22 := st2.cell 2 _ rfl; have hs2 : w.heap.size ≤ w2.heap.size := l2.below.size)
      | (go_at_call_of 31 (Value.int .i64 c); refine (cC _).mono ?_; rintro e w1 ⟨v1, rfl, p1, b1⟩; have hs1 : w.heap.size ≤ w1.heap.size := (by have h8 := b1.size; rw [size_al] at h8; omega); have o1 := OwB.le p1 (b := w.heap.size) (by rw [size_al]; omega); have l1 := Lay.new (Nat.le_refl w.heap.size) (below_trans bw b1); have st1 := sw.below b1; have f0 := st1.cell 0 _ rfl; have f1 := st1.cell 1 _ rfl; have f2 := st1.cell 2 _ rfl; have f3 := st1.cell 3 _ rfl)
      | (go_at_call 30; refine (cB _).mono ?_; rintro e q ⟨rfl, hw⟩; obtain rfl := hw.symm)
      | (go_at_call_of 29 (Value.int .i64 c); refine (cI _).mono ?_; rintro e q ⟨rfl, hw⟩; obtain rfl := hw.symm))
    go_ret2
    refine ⟨v5, rfl, fun _ => ?_, l5.below⟩
    have := o5
    obtain ⟨e21, e22⟩ := e4 n0
    subst e21 e22
    simp only [beQ, LB_len]
    simp only [List.append_assoc, List.cons_append, List.nil_append] at this
    exact this

end Go.Proofs.Ytbllblikigogoaa
