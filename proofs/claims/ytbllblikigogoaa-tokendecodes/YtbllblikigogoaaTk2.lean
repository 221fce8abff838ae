/-
  formed of the landed package token: each kind of what stands behind a code.
-/
import Derived.Test.YtbllblikigogoaaTk1
namespace Go.Proofs.Ytbllblikigogoaa
open Go.ChangeShapes Go.WideShapes Go.ChangeAt Go.RowKit
set_option linter.unusedVariables false
set_option linter.unusedSimpArgs false

set_option maxHeartbeats 4000000 in
set_option maxRecDepth 100000 in
theorem w_formed0 (c n o : Int) (S : ByteArray) (wide : Bool) (w : World) (n0 : 0 ≤ n) (n1 : n < 4294967296) (hs : S.size ≤ maxLen) (hc : cdd c = true) (hk : bhF c = 0) :
    Calls Try.prog 19 #[.agg #[.int .i64 c, .int .u32 n, .string S, .int .i64 o], .bool wide] w fun e w' => e = .returned (.bool (okB 0 ⟨c, n, LB S, o⟩ wide)) ∧ Below w.heap.size w w' := by
  have hs2 := hs
  unfold maxLen at hs2
  have cI := fun w => w_isCode c w
  rw [hc] at cI
  have cB := fun w => w_behind c w
  rw [hk] at cB
  clear hc hk
  have bw := box_below w (.cells #[.int .i64 c, .int .u32 n, .string S, .int .i64 o] 37)
  have bm := fun a b d => below_trans bw (box_below (w.alloc (.cells #[.int .i64 c, .int .u32 n, .string S, .int .i64 o] 37)) (.cells #[.int .i64 c, .int .u32 a, .string b, .int .i64 d] 37))
  have heq := fun w => tq_eql w c n o c 0 0 S ⟨#[]⟩
  have hgd := fun w x y => run_eqGuard_agg (P := Try.prog) w .eql 37 x y #[.int .i64 c, .int .u32 n, .string S, .int .i64 o] #[.int .i64 c, .int .u32 0, .string ⟨#[]⟩, .int .i64 0] tq_guard
  go_enter Try.func19, Try.ntmps19
  go_wp2_with (first
    | (go_at_call_of 24 (Value.int .i64 c); refine (cI _).mono ?_; rintro e w1 ⟨rfl, hw⟩; obtain rfl := hw.symm)
    | (go_at_call 25; refine (cB _).mono ?_; rintro e w1 ⟨rfl, hw⟩; obtain rfl := hw.symm))
  go_ret
  refine ⟨ret_b ?_, bm 0 ⟨#[]⟩ 0⟩
  rw [nil_emp, Bool.eq_iff_iff]; simp [okB, and_assoc, and_comm, and_left_comm]

set_option maxHeartbeats 4000000 in
set_option maxRecDepth 100000 in
theorem w_formed1 (c n o : Int) (S : ByteArray) (wide : Bool) (w : World) (n0 : 0 ≤ n) (n1 : n < 4294967296) (hs : S.size ≤ maxLen) (hc : cdd c = true) (hk : bhF c = 1) :
    Calls Try.prog 19 #[.agg #[.int .i64 c, .int .u32 n, .string S, .int .i64 o], .bool wide] w fun e w' => e = .returned (.bool (okB 1 ⟨c, n, LB S, o⟩ wide)) ∧ Below w.heap.size w w' := by
  have hs2 := hs
  unfold maxLen at hs2
  have cI := fun w => w_isCode c w
  rw [hc] at cI
  have cB := fun w => w_behind c w
  rw [hk] at cB
  clear hc hk
  have bw := box_below w (.cells #[.int .i64 c, .int .u32 n, .string S, .int .i64 o] 37)
  have bm := fun a b d => below_trans bw (box_below (w.alloc (.cells #[.int .i64 c, .int .u32 n, .string S, .int .i64 o] 37)) (.cells #[.int .i64 c, .int .u32 a, .string b, .int .i64 d] 37))
  have heq := fun w => tq_eql w c n o c n 0 S ⟨#[]⟩
  have hgd := fun w x y => run_eqGuard_agg (P := Try.prog) w .eql 37 x y #[.int .i64 c, .int .u32 n, .string S, .int .i64 o] #[.int .i64 c, .int .u32 n, .string ⟨#[]⟩, .int .i64 0] tq_guard
  go_enter Try.func19, Try.ntmps19
  go_wp2_with (first
    | (go_at_call_of 24 (Value.int .i64 c); refine (cI _).mono ?_; rintro e w1 ⟨rfl, hw⟩; obtain rfl := hw.symm)
    | (go_at_call 25; refine (cB _).mono ?_; rintro e w1 ⟨rfl, hw⟩; obtain rfl := hw.symm))
  go_ret
  refine ⟨ret_b ?_, bm n ⟨#[]⟩ 0⟩
  rw [nil_emp, Bool.eq_iff_iff]; simp [okB, and_assoc, and_comm, and_left_comm]

set_option maxHeartbeats 4000000 in
set_option maxRecDepth 100000 in
theorem w_formed2 (c n o : Int) (S : ByteArray) (wide : Bool) (w : World) (n0 : 0 ≤ n) (n1 : n < 4294967296) (hs : S.size ≤ maxLen) (hc : cdd c = true) (hk : bhF c = 2) :
    Calls Try.prog 19 #[.agg #[.int .i64 c, .int .u32 n, .string S, .int .i64 o], .bool wide] w fun e w' => e = .returned (.bool (okB 2 ⟨c, n, LB S, o⟩ wide)) ∧ Below w.heap.size w w' := by
  have hs2 := hs
  unfold maxLen at hs2
  have cI := fun w => w_isCode c w
  rw [hc] at cI
  have cB := fun w => w_behind c w
  rw [hk] at cB
  clear hc hk
  have bw := box_below w (.cells #[.int .i64 c, .int .u32 n, .string S, .int .i64 o] 37)
  have bm := fun a b d => below_trans bw (box_below (w.alloc (.cells #[.int .i64 c, .int .u32 n, .string S, .int .i64 o] 37)) (.cells #[.int .i64 c, .int .u32 a, .string b, .int .i64 d] 37))
  have cN := fun w => w_isCode n w
  cases hN : cdd n with
  | true =>
    rw [hN] at cN
    have heq := fun w => tq_eql w c n o c n 0 S ⟨#[]⟩
    have hgd := fun w x y => run_eqGuard_agg (P := Try.prog) w .eql 37 x y #[.int .i64 c, .int .u32 n, .string S, .int .i64 o] #[.int .i64 c, .int .u32 n, .string ⟨#[]⟩, .int .i64 0] tq_guard
    go_enter Try.func19, Try.ntmps19
    go_wp2_with (first
      | (go_at_call_of 24 (Value.int .i64 c); refine (cI _).mono ?_; rintro e w1 ⟨rfl, hw⟩; obtain rfl := hw.symm)
      | (go_at_call 25; refine (cB _).mono ?_; rintro e w1 ⟨rfl, hw⟩; obtain rfl := hw.symm)
      | (go_at_call_of 24 (Value.int .i64 n); refine (cN _).mono ?_; rintro e w1 ⟨rfl, hw⟩; obtain rfl := hw.symm))
    go_ret
    refine ⟨ret_b ?_, bm n ⟨#[]⟩ 0⟩
    rw [nil_emp, Bool.eq_iff_iff]; simp [okB, and_assoc, and_comm, and_left_comm, hN]
  | false =>
    rw [hN] at cN
    go_enter Try.func19, Try.ntmps19
    go_wp2_with (first
      | (go_at_call_of 24 (Value.int .i64 c); refine (cI _).mono ?_; rintro e w1 ⟨rfl, hw⟩; obtain rfl := hw.symm)
      | (go_at_call 25; refine (cB _).mono ?_; rintro e w1 ⟨rfl, hw⟩; obtain rfl := hw.symm)
      | (go_at_call_of 24 (Value.int .i64 n); refine (cN _).mono ?_; rintro e w1 ⟨rfl, hw⟩; obtain rfl := hw.symm))
    go_ret
    refine ⟨ret_b ?_, bm n ⟨#[]⟩ 0⟩
    simp [okB, hN]

set_option maxHeartbeats 4000000 in
set_option maxRecDepth 100000 in
theorem w_formed3 (c n o : Int) (S : ByteArray) (wide : Bool) (w : World) (n0 : 0 ≤ n) (n1 : n < 4294967296) (hs : S.size ≤ maxLen) (hc : cdd c = true) (hk : bhF c = 3) :
    Calls Try.prog 19 #[.agg #[.int .i64 c, .int .u32 n, .string S, .int .i64 o], .bool wide] w fun e w' => e = .returned (.bool (okB 3 ⟨c, n, LB S, o⟩ wide)) ∧ Below w.heap.size w w' := by
  have hs2 := hs
  unfold maxLen at hs2
  have cI := fun w => w_isCode c w
  rw [hc] at cI
  have cB := fun w => w_behind c w
  rw [hk] at cB
  clear hc hk
  have bw := box_below w (.cells #[.int .i64 c, .int .u32 n, .string S, .int .i64 o] 37)
  have bm := fun a b d => below_trans bw (box_below (w.alloc (.cells #[.int .i64 c, .int .u32 n, .string S, .int .i64 o] 37)) (.cells #[.int .i64 c, .int .u32 a, .string b, .int .i64 d] 37))
  by_cases hl : (S.size : Int) ≤ 255
  · have hd : S.size ≤ 255 := by omega
    have heq := fun w => tq_eql w c n o c 0 0 S S
    have hgd := fun w x y => run_eqGuard_agg (P := Try.prog) w .eql 37 x y #[.int .i64 c, .int .u32 n, .string S, .int .i64 o] #[.int .i64 c, .int .u32 0, .string S, .int .i64 0] tq_guard
    go_enter Try.func19, Try.ntmps19
    go_wp2_with (first
      | (go_at_call_of 24 (Value.int .i64 c); refine (cI _).mono ?_; rintro e w1 ⟨rfl, hw⟩; obtain rfl := hw.symm)
      | (go_at_call 25; refine (cB _).mono ?_; rintro e w1 ⟨rfl, hw⟩; obtain rfl := hw.symm))
    go_ret
    refine ⟨ret_b ?_, bm 0 S 0⟩
    rw [Bool.eq_iff_iff]; simp [okB, LB_len, hd, and_assoc, and_comm, and_left_comm]
  · have hd : ¬ S.size ≤ 255 := by omega
    go_enter Try.func19, Try.ntmps19
    go_wp2_with (first
      | (go_at_call_of 24 (Value.int .i64 c); refine (cI _).mono ?_; rintro e w1 ⟨rfl, hw⟩; obtain rfl := hw.symm)
      | (go_at_call 25; refine (cB _).mono ?_; rintro e w1 ⟨rfl, hw⟩; obtain rfl := hw.symm))
    go_ret
    refine ⟨ret_b ?_, bm 0 S 0⟩
    simp [okB, LB_len, hd]

set_option maxHeartbeats 4000000 in
set_option maxRecDepth 100000 in
theorem w_formed4 (c n o : Int) (S : ByteArray) (wide : Bool) (w : World) (n0 : 0 ≤ n) (n1 : n < 4294967296) (hs : S.size ≤ maxLen) (hc : cdd c = true) (hk : bhF c = 4) :
    Calls Try.prog 19 #[.agg #[.int .i64 c, .int .u32 n, .string S, .int .i64 o], .bool wide] w fun e w' => e = .returned (.bool (okB 4 ⟨c, n, LB S, o⟩ wide)) ∧ Below w.heap.size w w' := by
  have hs2 := hs
  unfold maxLen at hs2
  have cI := fun w => w_isCode c w
  rw [hc] at cI
  have cB := fun w => w_behind c w
  rw [hk] at cB
  clear hc hk
  have bw := box_below w (.cells #[.int .i64 c, .int .u32 n, .string S, .int .i64 o] 37)
  have bm := fun a b d => below_trans bw (box_below (w.alloc (.cells #[.int .i64 c, .int .u32 n, .string S, .int .i64 o] 37)) (.cells #[.int .i64 c, .int .u32 a, .string b, .int .i64 d] 37))
  have cO := fun w => w_isOffset o wide w
  cases hO : offF o wide with
  | true =>
    rw [hO] at cO
    have heq := fun w => tq_eql w c n o c 0 o S ⟨#[]⟩
    have hgd := fun w x y => run_eqGuard_agg (P := Try.prog) w .eql 37 x y #[.int .i64 c, .int .u32 n, .string S, .int .i64 o] #[.int .i64 c, .int .u32 0, .string ⟨#[]⟩, .int .i64 o] tq_guard
    go_enter Try.func19, Try.ntmps19
    go_wp2_with (first
      | (go_at_call_of 24 (Value.int .i64 c); refine (cI _).mono ?_; rintro e w1 ⟨rfl, hw⟩; obtain rfl := hw.symm)
      | (go_at_call 25; refine (cB _).mono ?_; rintro e w1 ⟨rfl, hw⟩; obtain rfl := hw.symm)
      | (go_at_call 26; refine (cO _).mono ?_; rintro e w1 ⟨rfl, hw⟩; obtain rfl := hw.symm))
    go_ret
    refine ⟨ret_b ?_, bm 0 ⟨#[]⟩ o⟩
    rw [nil_emp, Bool.eq_iff_iff]; simp [okB, and_assoc, and_comm, and_left_comm, hO]
  | false =>
    rw [hO] at cO
    go_enter Try.func19, Try.ntmps19
    go_wp2_with (first
      | (go_at_call_of 24 (Value.int .i64 c); refine (cI _).mono ?_; rintro e w1 ⟨rfl, hw⟩; obtain rfl := hw.symm)
      | (go_at_call 25; refine (cB _).mono ?_; rintro e w1 ⟨rfl, hw⟩; obtain rfl := hw.symm)
      | (go_at_call 26; refine (cO _).mono ?_; rintro e w1 ⟨rfl, hw⟩; obtain rfl := hw.symm))
    go_ret
    refine ⟨ret_b ?_, bm 0 ⟨#[]⟩ o⟩
    simp [okB, hO]

set_option maxHeartbeats 4000000 in
set_option maxRecDepth 100000 in
theorem w_formed5 (c n o : Int) (S : ByteArray) (wide : Bool) (w : World) (n0 : 0 ≤ n) (n1 : n < 4294967296) (hs : S.size ≤ maxLen) (hc : cdd c = true) (hk : bhF c = 5) :
    Calls Try.prog 19 #[.agg #[.int .i64 c, .int .u32 n, .string S, .int .i64 o], .bool wide] w fun e w' => e = .returned (.bool (okB 5 ⟨c, n, LB S, o⟩ wide)) ∧ Below w.heap.size w w' := by
  have hs2 := hs
  unfold maxLen at hs2
  have cI := fun w => w_isCode c w
  rw [hc] at cI
  have cB := fun w => w_behind c w
  rw [hk] at cB
  clear hc hk
  have bw := box_below w (.cells #[.int .i64 c, .int .u32 n, .string S, .int .i64 o] 37)
  have bm := fun a b d => below_trans bw (box_below (w.alloc (.cells #[.int .i64 c, .int .u32 n, .string S, .int .i64 o] 37)) (.cells #[.int .i64 c, .int .u32 a, .string b, .int .i64 d] 37))
  by_cases h1 : 2048 ≤ n
  · by_cases h2 : n ≤ 4095
    · have hN : nwF n = true := by simp [nwF, h1, h2]
      have heq := fun w => tq_eql w c n o c n 0 S ⟨#[]⟩
      have hgd := fun w x y => run_eqGuard_agg (P := Try.prog) w .eql 37 x y #[.int .i64 c, .int .u32 n, .string S, .int .i64 o] #[.int .i64 c, .int .u32 n, .string ⟨#[]⟩, .int .i64 0] tq_guard
      go_enter Try.func19, Try.ntmps19
      go_wp2_with (first
        | (go_at_call_of 24 (Value.int .i64 c); refine (cI _).mono ?_; rintro e w1 ⟨rfl, hw⟩; obtain rfl := hw.symm)
        | (go_at_call 25; refine (cB _).mono ?_; rintro e w1 ⟨rfl, hw⟩; obtain rfl := hw.symm))
      go_ret
      refine ⟨ret_b ?_, bm n ⟨#[]⟩ 0⟩
      rw [nil_emp, Bool.eq_iff_iff]; simp [okB, and_assoc, and_comm, and_left_comm, hN]
    · have hN : nwF n = false := by simp [nwF, h1, h2]
      go_enter Try.func19, Try.ntmps19
      go_wp2_with (first
        | (go_at_call_of 24 (Value.int .i64 c); refine (cI _).mono ?_; rintro e w1 ⟨rfl, hw⟩; obtain rfl := hw.symm)
        | (go_at_call 25; refine (cB _).mono ?_; rintro e w1 ⟨rfl, hw⟩; obtain rfl := hw.symm))
      go_ret
      refine ⟨ret_b ?_, bm n ⟨#[]⟩ 0⟩
      simp [okB, hN]
  · have hN : nwF n = false := by simp [nwF, h1]
    go_enter Try.func19, Try.ntmps19
    go_wp2_with (first
      | (go_at_call_of 24 (Value.int .i64 c); refine (cI _).mono ?_; rintro e w1 ⟨rfl, hw⟩; obtain rfl := hw.symm)
      | (go_at_call 25; refine (cB _).mono ?_; rintro e w1 ⟨rfl, hw⟩; obtain rfl := hw.symm))
    go_ret
    refine ⟨ret_b ?_, bm n ⟨#[]⟩ 0⟩
    simp [okB, hN]

set_option maxHeartbeats 4000000 in
set_option maxRecDepth 100000 in
theorem w_formed6 (c n o : Int) (S : ByteArray) (wide : Bool) (w : World) (n0 : 0 ≤ n) (n1 : n < 4294967296) (hs : S.size ≤ maxLen) (hc : cdd c = true) (hk : bhF c = 6) :
    Calls Try.prog 19 #[.agg #[.int .i64 c, .int .u32 n, .string S, .int .i64 o], .bool wide] w fun e w' => e = .returned (.bool (okB 6 ⟨c, n, LB S, o⟩ wide)) ∧ Below w.heap.size w w' := by
  have hs2 := hs
  unfold maxLen at hs2
  have cI := fun w => w_isCode c w
  rw [hc] at cI
  have cB := fun w => w_behind c w
  rw [hk] at cB
  clear hc hk
  have bw := box_below w (.cells #[.int .i64 c, .int .u32 n, .string S, .int .i64 o] 37)
  have bm := fun a b d => below_trans bw (box_below (w.alloc (.cells #[.int .i64 c, .int .u32 n, .string S, .int .i64 o] 37)) (.cells #[.int .i64 c, .int .u32 a, .string b, .int .i64 d] 37))
  by_cases hl : (S.size : Int) ≤ 31
  · have hd : S.size ≤ 31 := by omega
    by_cases h1 : 2048 ≤ n
    · by_cases h2 : n ≤ 4095
      · have hN : nwF n = true := by simp [nwF, h1, h2]
        have heq := fun w => tq_eql w c n o c n 0 S S
        have hgd := fun w x y => run_eqGuard_agg (P := Try.prog) w .eql 37 x y #[.int .i64 c, .int .u32 n, .string S, .int .i64 o] #[.int .i64 c, .int .u32 n, .string S, .int .i64 0] tq_guard
        go_enter Try.func19, Try.ntmps19
        go_wp2_with (first
          | (go_at_call_of 24 (Value.int .i64 c); refine (cI _).mono ?_; rintro e w1 ⟨rfl, hw⟩; obtain rfl := hw.symm)
          | (go_at_call 25; refine (cB _).mono ?_; rintro e w1 ⟨rfl, hw⟩; obtain rfl := hw.symm))
        go_ret
        refine ⟨ret_b ?_, bm n S 0⟩
        rw [Bool.eq_iff_iff]; simp [okB, hN, hd, LB_len, and_assoc, and_comm, and_left_comm]
      · have hN : nwF n = false := by simp [nwF, h1, h2]
        go_enter Try.func19, Try.ntmps19
        go_wp2_with (first
          | (go_at_call_of 24 (Value.int .i64 c); refine (cI _).mono ?_; rintro e w1 ⟨rfl, hw⟩; obtain rfl := hw.symm)
          | (go_at_call 25; refine (cB _).mono ?_; rintro e w1 ⟨rfl, hw⟩; obtain rfl := hw.symm))
        go_ret
        refine ⟨ret_b ?_, bm n S 0⟩
        simp [okB, hN]
    · have hN : nwF n = false := by simp [nwF, h1]
      go_enter Try.func19, Try.ntmps19
      go_wp2_with (first
        | (go_at_call_of 24 (Value.int .i64 c); refine (cI _).mono ?_; rintro e w1 ⟨rfl, hw⟩; obtain rfl := hw.symm)
        | (go_at_call 25; refine (cB _).mono ?_; rintro e w1 ⟨rfl, hw⟩; obtain rfl := hw.symm))
      go_ret
      refine ⟨ret_b ?_, bm n S 0⟩
      simp [okB, hN]
  · have hd : ¬ S.size ≤ 31 := by omega
    go_enter Try.func19, Try.ntmps19
    go_wp2_with (first
      | (go_at_call_of 24 (Value.int .i64 c); refine (cI _).mono ?_; rintro e w1 ⟨rfl, hw⟩; obtain rfl := hw.symm)
      | (go_at_call 25; refine (cB _).mono ?_; rintro e w1 ⟨rfl, hw⟩; obtain rfl := hw.symm))
    go_ret
    refine ⟨ret_b ?_, bm n S 0⟩
    simp [okB, hd, LB_len]

theorem w_formed (c n o : Int) (S : ByteArray) (wide : Bool) (w : World) (n0 : 0 ≤ n) (n1 : n < 4294967296) (hs : S.size ≤ maxLen) :
    Calls Try.prog 19 #[.agg #[.int .i64 c, .int .u32 n, .string S, .int .i64 o], .bool wide] w fun e w' => e = .returned (.bool (okQ ⟨c, n, LB S, o⟩ wide)) ∧ Below w.heap.size w w' := by
  cases hc : cdd c with
  | true =>
    have e : okQ ⟨c, n, LB S, o⟩ wide = okB (bhF c) ⟨c, n, LB S, o⟩ wide := by simp [okQ, hc]
    rw [e]
    have hk := bh_le c
    obtain ⟨k, hkk⟩ : ∃ k, bhF c = k := ⟨_, rfl⟩
    rw [hkk] at hk ⊢
    match k, hk with
    | 0, _ => exact w_formed0 c n o S wide w n0 n1 hs hc hkk
    | 1, _ => exact w_formed1 c n o S wide w n0 n1 hs hc hkk
    | 2, _ => exact w_formed2 c n o S wide w n0 n1 hs hc hkk
    | 3, _ => exact w_formed3 c n o S wide w n0 n1 hs hc hkk
    | 4, _ => exact w_formed4 c n o S wide w n0 n1 hs hc hkk
    | 5, _ => exact w_formed5 c n o S wide w n0 n1 hs hc hkk
    | 6, _ => exact w_formed6 c n o S wide w n0 n1 hs hc hkk
  | false =>
    have e : okQ ⟨c, n, LB S, o⟩ wide = false := by simp [okQ, hc]
    rw [e]
    have cI := fun w => w_isCode c w
    rw [hc] at cI
    have bw := box_below w (.cells #[.int .i64 c, .int .u32 n, .string S, .int .i64 o] 37)
    clear hc e
    go_enter Try.func19, Try.ntmps19
    go_wp2_with (go_at_call 24; refine (cI _).mono ?_; rintro e w1 ⟨rfl, hw⟩; obtain rfl := hw.symm)
    go_ret
    exact ⟨rfl, bw⟩
end Go.Proofs.Ytbllblikigogoaa
