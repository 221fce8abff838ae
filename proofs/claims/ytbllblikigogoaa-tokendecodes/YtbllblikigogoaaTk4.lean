/-
  lay of the landed package token: the bytes of a token behind some bytes.
-/
import Derived.Test.YtbllblikigogoaaTk3
namespace Go.Proofs.Ytbllblikigogoaa
open Go.ChangeShapes Go.WideShapes Go.ChangeAt Go.RowKit
set_option linter.unusedVariables false
set_option linter.unusedSimpArgs false

set_option maxHeartbeats 4000000 in
set_option maxRecDepth 100000 in
theorem w_lay0 (base : Nat) (v : Value) (B : List Int) (c n o : Int) (S : ByteArray) (wide : Bool) (w : World) (hB : OwB base w v B) (hb : base ≤ w.heap.size) (hl : B.length ≤ 8192) (n0 : 0 ≤ n) (n1 : n < 4294967296) (hs : S.size ≤ maxLen) (hc : cdd c = true) (hk : bhF c = 0) (hok : okB 0 ⟨c, n, LB S, o⟩ wide = true) :
    Calls Try.prog 20 #[v, .agg #[.int .i64 c, .int .u32 n, .string S, .int .i64 o], .bool wide] w fun e w' => ∃ v', e = .returned v' ∧ OwB base w' v' (B ++ (cbF c ++ beQ 0 ⟨c, n, LB S, o⟩ wide)) ∧ Lay base w w' := by
  obtain ⟨i0, hi, hz0, hz1, hz2⟩ := info_parts infoU8
  have cB := fun w => w_behind c w
  rw [hk] at cB
  have bw := box_below w (.cells #[.int .i64 c, .int .u32 n, .string S, .int .i64 o] 37)
  have sw := stands_new w #[.int .i64 c, .int .u32 n, .string S, .int .i64 o] 37
  have hw0 : base ≤ (w.alloc (.cells #[.int .i64 c, .int .u32 n, .string S, .int .i64 o] 37)).heap.size := by rw [size_al]; omega
  have cC := w_layCode base v B c _ (hB.below bw) hw0 (by omega) hc
  have lw := Lay.new hb bw
  have hcl : (cbF c).length ≤ 2 := by unfold cbF; split <;> simp
  clear hk hc
  obtain ⟨X, hX⟩ : ∃ X, cbF c = X := ⟨_, rfl⟩
  rw [hX] at cC hcl ⊢
  clear hX
  go_enter Try.func20, Try.ntmps20
  go_wp2_with (first
    | (go_at_call 25; refine (cB _).mono ?_; rintro e q ⟨rfl, hw⟩; obtain rfl := hw.symm)
    | (go_at_call 27; refine cC.mono ?_; rintro e w1 ⟨v1, rfl, o1, l1⟩; have st1 := sw.agr l1.agr rfl (fun h => h); have f0 := st1.cell 0 _ rfl; have f1 := st1.cell 1 _ rfl; have f2 := st1.cell 2 _ rfl; have f3 := st1.cell 3 _ rfl; have ll := lw.trans l1; have hs1 : base ≤ w1.heap.size := Nat.le_trans hb ll.below.size))
  go_ret
  refine ⟨v1, rfl, ?_, ll⟩
  have := o1
  simpa [beQ] using this

set_option maxHeartbeats 4000000 in
set_option maxRecDepth 100000 in
theorem w_lay1 (base : Nat) (v : Value) (B : List Int) (c n o : Int) (S : ByteArray) (wide : Bool) (w : World) (hB : OwB base w v B) (hb : base ≤ w.heap.size) (hl : B.length ≤ 8192) (n0 : 0 ≤ n) (n1 : n < 4294967296) (hs : S.size ≤ maxLen) (hc : cdd c = true) (hk : bhF c = 1) (hok : okB 1 ⟨c, n, LB S, o⟩ wide = true) :
    Calls Try.prog 20 #[v, .agg #[.int .i64 c, .int .u32 n, .string S, .int .i64 o], .bool wide] w fun e w' => ∃ v', e = .returned v' ∧ OwB base w' v' (B ++ (cbF c ++ beQ 1 ⟨c, n, LB S, o⟩ wide)) ∧ Lay base w w' := by
  obtain ⟨i0, hi, hz0, hz1, hz2⟩ := info_parts infoU8
  have cB := fun w => w_behind c w
  rw [hk] at cB
  have bw := box_below w (.cells #[.int .i64 c, .int .u32 n, .string S, .int .i64 o] 37)
  have sw := stands_new w #[.int .i64 c, .int .u32 n, .string S, .int .i64 o] 37
  have hw0 : base ≤ (w.alloc (.cells #[.int .i64 c, .int .u32 n, .string S, .int .i64 o] 37)).heap.size := by rw [size_al]; omega
  have cC := w_layCode base v B c _ (hB.below bw) hw0 (by omega) hc
  have lw := Lay.new hb bw
  have hcl : (cbF c).length ≤ 2 := by unfold cbF; split <;> simp
  clear hk hc
  obtain ⟨X, hX⟩ : ∃ X, cbF c = X := ⟨_, rfl⟩
  rw [hX] at cC hcl ⊢
  clear hX
  have e4 : n / 16777216 % 256 = n / 16777216 := by omega
  go_enter Try.func20, Try.ntmps20
  go_wp2_with (first
    | (at_builtin; refine wpList_append_rd (k := .u8) rfl _ _ 24 rfl base 5 i0 1 Try.underlying24 hi hz0 hz1 hz2 v1 (B ++ X) rfl (OwB.below o1 (box_below w1 _)) _ [n / 16777216, n / 65536 % 256, n / 256 % 256, n % 256] rfl (rd_lit w1 [n / 16777216, n / 65536 % 256, n / 256 % 256, n % 256] 5 (by simp) (by simp [maxLen])) (by unfold maxLen; simp [LB_len]; omega) (by simp [LB_len]; omega) (by rw [size_al]; omega) ?_; intro v2 w2 p2 g2; have o2 : OwB base w2 v2 (B ++ X ++ [n / 16777216, n / 65536 % 256, n / 256 % 256, n % 256]) := p2; have l2 := ll.trans ((Lay.new hs1 (box_below w1 _)).trans (Lay.app (OwB.below o1 (box_below w1 _)) (by rw [size_al]; omega) g2)))
    | (go_at_call 25; refine (cB _).mono ?_; rintro e q ⟨rfl, hw⟩; obtain rfl := hw.symm)
    | (go_at_call 27; refine cC.mono ?_; rintro e w1 ⟨v1, rfl, o1, l1⟩; have st1 := sw.agr l1.agr rfl (fun h => h); have f0 := st1.cell 0 _ rfl; have f1 := st1.cell 1 _ rfl; have f2 := st1.cell 2 _ rfl; have f3 := st1.cell 3 _ rfl; have ll := lw.trans l1; have hs1 : base ≤ w1.heap.size := Nat.le_trans hb ll.below.size))
  go_ret
  refine ⟨v2, rfl, ?_, l2⟩
  have := o2
  rw [List.append_assoc] at this; simp only [beQ]; rw [e4]; exact this

set_option maxHeartbeats 4000000 in
set_option maxRecDepth 100000 in
theorem w_lay2 (base : Nat) (v : Value) (B : List Int) (c n o : Int) (S : ByteArray) (wide : Bool) (w : World) (hB : OwB base w v B) (hb : base ≤ w.heap.size) (hl : B.length ≤ 8192) (n0 : 0 ≤ n) (n1 : n < 4294967296) (hs : S.size ≤ maxLen) (hc : cdd c = true) (hk : bhF c = 2) (hok : okB 2 ⟨c, n, LB S, o⟩ wide = true) :
    Calls Try.prog 20 #[v, .agg #[.int .i64 c, .int .u32 n, .string S, .int .i64 o], .bool wide] w fun e w' => ∃ v', e = .returned v' ∧ OwB base w' v' (B ++ (cbF c ++ beQ 2 ⟨c, n, LB S, o⟩ wide)) ∧ Lay base w w' := by
  obtain ⟨i0, hi, hz0, hz1, hz2⟩ := info_parts infoU8
  have cB := fun w => w_behind c w
  rw [hk] at cB
  have bw := box_below w (.cells #[.int .i64 c, .int .u32 n, .string S, .int .i64 o] 37)
  have sw := stands_new w #[.int .i64 c, .int .u32 n, .string S, .int .i64 o] 37
  have hw0 : base ≤ (w.alloc (.cells #[.int .i64 c, .int .u32 n, .string S, .int .i64 o] 37)).heap.size := by rw [size_al]; omega
  have cC := w_layCode base v B c _ (hB.below bw) hw0 (by omega) hc
  have lw := Lay.new hb bw
  have hcl : (cbF c).length ≤ 2 := by unfold cbF; split <;> simp
  clear hk hc
  obtain ⟨X, hX⟩ : ∃ X, cbF c = X := ⟨_, rfl⟩
  rw [hX] at cC hcl ⊢
  clear hX
  simp only [okB, Bool.and_eq_true, decide_eq_true_eq] at hok
  have hN := hok.2
  clear hok
  go_enter Try.func20, Try.ntmps20
  go_wp2_with (first
    | (go_at_call 27; refine (w_layCode base v1 (B ++ X) n _ o1 hs1 (by simp; omega) hN).mono ?_; rintro e w2 ⟨v2, rfl, o2, l2⟩)
    | (go_at_call 25; refine (cB _).mono ?_; rintro e q ⟨rfl, hw⟩; obtain rfl := hw.symm)
    | (go_at_call 27; refine cC.mono ?_; rintro e w1 ⟨v1, rfl, o1, l1⟩; have st1 := sw.agr l1.agr rfl (fun h => h); have f0 := st1.cell 0 _ rfl; have f1 := st1.cell 1 _ rfl; have f2 := st1.cell 2 _ rfl; have f3 := st1.cell 3 _ rfl; have ll := lw.trans l1; have hs1 : base ≤ w1.heap.size := Nat.le_trans hb ll.below.size))
  go_ret
  refine ⟨v2, rfl, ?_, ll.trans l2⟩
  have := o2
  rw [List.append_assoc] at this; exact this

set_option maxHeartbeats 4000000 in
set_option maxRecDepth 100000 in
theorem w_lay3 (base : Nat) (v : Value) (B : List Int) (c n o : Int) (S : ByteArray) (wide : Bool) (w : World) (hB : OwB base w v B) (hb : base ≤ w.heap.size) (hl : B.length ≤ 8192) (n0 : 0 ≤ n) (n1 : n < 4294967296) (hs : S.size ≤ maxLen) (hc : cdd c = true) (hk : bhF c = 3) (hok : okB 3 ⟨c, n, LB S, o⟩ wide = true) :
    Calls Try.prog 20 #[v, .agg #[.int .i64 c, .int .u32 n, .string S, .int .i64 o], .bool wide] w fun e w' => ∃ v', e = .returned v' ∧ OwB base w' v' (B ++ (cbF c ++ beQ 3 ⟨c, n, LB S, o⟩ wide)) ∧ Lay base w w' := by
  obtain ⟨i0, hi, hz0, hz1, hz2⟩ := info_parts infoU8
  have cB := fun w => w_behind c w
  rw [hk] at cB
  have bw := box_below w (.cells #[.int .i64 c, .int .u32 n, .string S, .int .i64 o] 37)
  have sw := stands_new w #[.int .i64 c, .int .u32 n, .string S, .int .i64 o] 37
  have hw0 : base ≤ (w.alloc (.cells #[.int .i64 c, .int .u32 n, .string S, .int .i64 o] 37)).heap.size := by rw [size_al]; omega
  have cC := w_layCode base v B c _ (hB.below bw) hw0 (by omega) hc
  have lw := Lay.new hb bw
  have hcl : (cbF c).length ≤ 2 := by unfold cbF; split <;> simp
  clear hk hc
  obtain ⟨X, hX⟩ : ∃ X, cbF c = X := ⟨_, rfl⟩
  rw [hX] at cC hcl ⊢
  clear hX
  simp only [okB, Bool.and_eq_true, decide_eq_true_eq, LB_len] at hok
  have hS := hok.2
  clear hok
  go_enter Try.func20, Try.ntmps20
  go_wp2_with (first
    | (go_at_call 28; refine (w_layText base v1 (B ++ X) S _ o1 hs1 (by simp; omega) hS).mono ?_; rintro e w2 ⟨v2, rfl, o2, m2⟩; have st2 := st1.agr m2.agr rfl (fun h => h); have e1 := st2.cell 1 _ rfl; have l2 := ll.trans m2; have hs2 : base ≤ w2.heap.size := Nat.le_trans hb l2.below.size)
    | (go_at_call 25; refine (cB _).mono ?_; rintro e q ⟨rfl, hw⟩; obtain rfl := hw.symm)
    | (go_at_call 27; refine cC.mono ?_; rintro e w1 ⟨v1, rfl, o1, l1⟩; have st1 := sw.agr l1.agr rfl (fun h => h); have f0 := st1.cell 0 _ rfl; have f1 := st1.cell 1 _ rfl; have f2 := st1.cell 2 _ rfl; have f3 := st1.cell 3 _ rfl; have ll := lw.trans l1; have hs1 : base ≤ w1.heap.size := Nat.le_trans hb ll.below.size))
  go_ret
  refine ⟨v2, rfl, ?_, l2⟩
  have := o2
  rw [List.append_assoc] at this; exact this

set_option maxHeartbeats 4000000 in
set_option maxRecDepth 100000 in
theorem w_lay4 (base : Nat) (v : Value) (B : List Int) (c n o : Int) (S : ByteArray) (wide : Bool) (w : World) (hB : OwB base w v B) (hb : base ≤ w.heap.size) (hl : B.length ≤ 8192) (n0 : 0 ≤ n) (n1 : n < 4294967296) (hs : S.size ≤ maxLen) (hc : cdd c = true) (hk : bhF c = 4) (hok : okB 4 ⟨c, n, LB S, o⟩ wide = true) :
    Calls Try.prog 20 #[v, .agg #[.int .i64 c, .int .u32 n, .string S, .int .i64 o], .bool wide] w fun e w' => ∃ v', e = .returned v' ∧ OwB base w' v' (B ++ (cbF c ++ beQ 4 ⟨c, n, LB S, o⟩ wide)) ∧ Lay base w w' := by
  obtain ⟨i0, hi, hz0, hz1, hz2⟩ := info_parts infoU8
  have cB := fun w => w_behind c w
  rw [hk] at cB
  have bw := box_below w (.cells #[.int .i64 c, .int .u32 n, .string S, .int .i64 o] 37)
  have sw := stands_new w #[.int .i64 c, .int .u32 n, .string S, .int .i64 o] 37
  have hw0 : base ≤ (w.alloc (.cells #[.int .i64 c, .int .u32 n, .string S, .int .i64 o] 37)).heap.size := by rw [size_al]; omega
  have cC := w_layCode base v B c _ (hB.below bw) hw0 (by omega) hc
  have lw := Lay.new hb bw
  have hcl : (cbF c).length ≤ 2 := by unfold cbF; split <;> simp
  clear hk hc
  obtain ⟨X, hX⟩ : ∃ X, cbF c = X := ⟨_, rfl⟩
  rw [hX] at cC hcl ⊢
  clear hX
  cases wide with
  | true =>
    go_enter Try.func20, Try.ntmps20
    go_wp2_with (first
      | (at_builtin; refine wpList_append_rd (k := .u8) rfl _ _ 24 rfl base 5 i0 1 Try.underlying24 hi hz0 hz1 hz2 v2 (B ++ X ++ [o / 256 % 256]) rfl (OwB.below o2 (box_below w2 _)) _ [o % 256] rfl (rd_one w2 _ _) (by unfold maxLen; simp [LB_len]; omega) (by simp [LB_len]; omega) (by rw [size_al]; omega) ?_; intro v3 w3 p3 g3; have o3 : OwB base w3 v3 (B ++ X ++ [o / 256 % 256] ++ [o % 256]) := p3; have l3 := l2.trans ((Lay.new hs2 (box_below w2 _)).trans (Lay.app (OwB.below o2 (box_below w2 _)) (by rw [size_al]; omega) g3)))
      | (at_builtin; refine wpList_append_rd (k := .u8) rfl _ _ 24 rfl base 5 i0 1 Try.underlying24 hi hz0 hz1 hz2 v1 (B ++ X) rfl (OwB.below o1 (box_below w1 _)) _ [o / 256 % 256] rfl (rd_one w1 _ _) (by unfold maxLen; simp [LB_len]; omega) (by simp [LB_len]; omega) (by rw [size_al]; omega) ?_; intro v2 w2 p2 g2; have o2 : OwB base w2 v2 (B ++ X ++ [o / 256 % 256]) := p2; have l2 := ll.trans ((Lay.new hs1 (box_below w1 _)).trans (Lay.app (OwB.below o1 (box_below w1 _)) (by rw [size_al]; omega) g2)); have st2 := st1.agr ((Agr.below (box_below w1 _)).trans (Lay.app (OwB.below o1 (box_below w1 _)) (by rw [size_al]; omega) g2).agr) rfl (fun h => h); have e3 := st2.cell 3 _ rfl; have hs2 : base ≤ w2.heap.size := Nat.le_trans hb l2.below.size)
      | (go_at_call 25; refine (cB _).mono ?_; rintro e q ⟨rfl, hw⟩; obtain rfl := hw.symm)
      | (go_at_call 27; refine cC.mono ?_; rintro e w1 ⟨v1, rfl, o1, l1⟩; have st1 := sw.agr l1.agr rfl (fun h => h); have f0 := st1.cell 0 _ rfl; have f1 := st1.cell 1 _ rfl; have f2 := st1.cell 2 _ rfl; have f3 := st1.cell 3 _ rfl; have ll := lw.trans l1; have hs1 : base ≤ w1.heap.size := Nat.le_trans hb ll.below.size))
    go_ret
    refine ⟨v3, rfl, ?_, l3⟩
    have := o3
    rw [List.append_assoc, List.append_assoc] at this; exact this
  | false =>
    go_enter Try.func20, Try.ntmps20
    go_wp2_with (first
      | (at_builtin; refine wpList_append_rd (k := .u8) rfl _ _ 24 rfl base 5 i0 1 Try.underlying24 hi hz0 hz1 hz2 v1 (B ++ X) rfl (OwB.below o1 (box_below w1 _)) _ [o % 256] rfl (rd_one w1 _ _) (by unfold maxLen; simp [LB_len]; omega) (by simp [LB_len]; omega) (by rw [size_al]; omega) ?_; intro v2 w2 p2 g2; have o2 : OwB base w2 v2 (B ++ X ++ [o % 256]) := p2; have l2 := ll.trans ((Lay.new hs1 (box_below w1 _)).trans (Lay.app (OwB.below o1 (box_below w1 _)) (by rw [size_al]; omega) g2)))
      | (go_at_call 25; refine (cB _).mono ?_; rintro e q ⟨rfl, hw⟩; obtain rfl := hw.symm)
      | (go_at_call 27; refine cC.mono ?_; rintro e w1 ⟨v1, rfl, o1, l1⟩; have st1 := sw.agr l1.agr rfl (fun h => h); have f0 := st1.cell 0 _ rfl; have f1 := st1.cell 1 _ rfl; have f2 := st1.cell 2 _ rfl; have f3 := st1.cell 3 _ rfl; have ll := lw.trans l1; have hs1 : base ≤ w1.heap.size := Nat.le_trans hb ll.below.size))
    go_ret
    refine ⟨v2, rfl, ?_, l2⟩
    have := o2
    rw [List.append_assoc] at this; exact this

set_option maxHeartbeats 4000000 in
set_option maxRecDepth 100000 in
theorem w_lay5 (base : Nat) (v : Value) (B : List Int) (c n o : Int) (S : ByteArray) (wide : Bool) (w : World) (hB : OwB base w v B) (hb : base ≤ w.heap.size) (hl : B.length ≤ 8192) (n0 : 0 ≤ n) (n1 : n < 4294967296) (hs : S.size ≤ maxLen) (hc : cdd c = true) (hk : bhF c = 5) (hok : okB 5 ⟨c, n, LB S, o⟩ wide = true) :
    Calls Try.prog 20 #[v, .agg #[.int .i64 c, .int .u32 n, .string S, .int .i64 o], .bool wide] w fun e w' => ∃ v', e = .returned v' ∧ OwB base w' v' (B ++ (cbF c ++ beQ 5 ⟨c, n, LB S, o⟩ wide)) ∧ Lay base w w' := by
  obtain ⟨i0, hi, hz0, hz1, hz2⟩ := info_parts infoU8
  have cB := fun w => w_behind c w
  rw [hk] at cB
  have bw := box_below w (.cells #[.int .i64 c, .int .u32 n, .string S, .int .i64 o] 37)
  have sw := stands_new w #[.int .i64 c, .int .u32 n, .string S, .int .i64 o] 37
  have hw0 : base ≤ (w.alloc (.cells #[.int .i64 c, .int .u32 n, .string S, .int .i64 o] 37)).heap.size := by rw [size_al]; omega
  have cC := w_layCode base v B c _ (hB.below bw) hw0 (by omega) hc
  have lw := Lay.new hb bw
  have hcl : (cbF c).length ≤ 2 := by unfold cbF; split <;> simp
  clear hk hc
  obtain ⟨X, hX⟩ : ∃ X, cbF c = X := ⟨_, rfl⟩
  rw [hX] at cC hcl ⊢
  clear hX
  simp only [okB, nwF, Bool.and_eq_true, decide_eq_true_eq] at hok
  have h5 := hok.2.1
  have h6 := hok.2.2
  clear hok
  have e2 : n / 256 % 256 = n / 256 := by omega
  go_enter Try.func20, Try.ntmps20
  go_wp2_with (first
    | (at_builtin; refine wpList_append_rd (k := .u8) rfl _ _ 24 rfl base 5 i0 1 Try.underlying24 hi hz0 hz1 hz2 v1 (B ++ X) rfl (OwB.below o1 (box_below w1 _)) _ [n / 256, n % 256] rfl (rd_lit w1 [n / 256, n % 256] 5 (by simp) (by simp [maxLen])) (by unfold maxLen; simp [LB_len]; omega) (by simp [LB_len]; omega) (by rw [size_al]; omega) ?_; intro v2 w2 p2 g2; have o2 : OwB base w2 v2 (B ++ X ++ [n / 256, n % 256]) := p2; have l2 := ll.trans ((Lay.new hs1 (box_below w1 _)).trans (Lay.app (OwB.below o1 (box_below w1 _)) (by rw [size_al]; omega) g2)))
    | (go_at_call 25; refine (cB _).mono ?_; rintro e q ⟨rfl, hw⟩; obtain rfl := hw.symm)
    | (go_at_call 27; refine cC.mono ?_; rintro e w1 ⟨v1, rfl, o1, l1⟩; have st1 := sw.agr l1.agr rfl (fun h => h); have f0 := st1.cell 0 _ rfl; have f1 := st1.cell 1 _ rfl; have f2 := st1.cell 2 _ rfl; have f3 := st1.cell 3 _ rfl; have ll := lw.trans l1; have hs1 : base ≤ w1.heap.size := Nat.le_trans hb ll.below.size))
  go_ret
  refine ⟨v2, rfl, ?_, l2⟩
  have := o2
  rw [List.append_assoc] at this; simp only [beQ]; rw [e2]; exact this

set_option maxHeartbeats 4000000 in
set_option maxRecDepth 100000 in
theorem w_lay6 (base : Nat) (v : Value) (B : List Int) (c n o : Int) (S : ByteArray) (wide : Bool) (w : World) (hB : OwB base w v B) (hb : base ≤ w.heap.size) (hl : B.length ≤ 8192) (n0 : 0 ≤ n) (n1 : n < 4294967296) (hs : S.size ≤ maxLen) (hc : cdd c = true) (hk : bhF c = 6) (hok : okB 6 ⟨c, n, LB S, o⟩ wide = true) :
    Calls Try.prog 20 #[v, .agg #[.int .i64 c, .int .u32 n, .string S, .int .i64 o], .bool wide] w fun e w' => ∃ v', e = .returned v' ∧ OwB base w' v' (B ++ (cbF c ++ beQ 6 ⟨c, n, LB S, o⟩ wide)) ∧ Lay base w w' := by
  obtain ⟨i0, hi, hz0, hz1, hz2⟩ := info_parts infoU8
  have cB := fun w => w_behind c w
  rw [hk] at cB
  have bw := box_below w (.cells #[.int .i64 c, .int .u32 n, .string S, .int .i64 o] 37)
  have sw := stands_new w #[.int .i64 c, .int .u32 n, .string S, .int .i64 o] 37
  have hw0 : base ≤ (w.alloc (.cells #[.int .i64 c, .int .u32 n, .string S, .int .i64 o] 37)).heap.size := by rw [size_al]; omega
  have cC := w_layCode base v B c _ (hB.below bw) hw0 (by omega) hc
  have lw := Lay.new hb bw
  have hcl : (cbF c).length ≤ 2 := by unfold cbF; split <;> simp
  clear hk hc
  obtain ⟨X, hX⟩ : ∃ X, cbF c = X := ⟨_, rfl⟩
  rw [hX] at cC hcl ⊢
  clear hX
  simp only [okB, nwF, Bool.and_eq_true, decide_eq_true_eq, LB_len] at hok
  have hS0 := hok.1.2
  have h5 := hok.2.1
  have h6 := hok.2.2
  clear hok
  have hS : S.size ≤ 255 := by omega
  have e2 : n / 256 % 256 = n / 256 := by omega
  go_enter Try.func20, Try.ntmps20
  go_wp2_with (first
    | (at_builtin; refine wpList_append_rd (k := .u8) rfl _ _ 24 rfl base 5 i0 1 Try.underlying24 hi hz0 hz1 hz2 v2 ((B ++ X) ++ ((LB S).length : Int) :: LB S) rfl (OwB.below o2 (box_below w2 _)) _ [n / 256, n % 256] rfl (rd_lit w2 [n / 256, n % 256] 5 (by simp) (by simp [maxLen])) (by unfold maxLen; simp [LB_len]; omega) (by simp [LB_len]; omega) (by rw [size_al]; omega) ?_; intro v3 w3 p3 g3; have o3 : OwB base w3 v3 ((B ++ X) ++ ((LB S).length : Int) :: LB S ++ [n / 256, n % 256]) := p3; have l3 := l2.trans ((Lay.new hs2 (box_below w2 _)).trans (Lay.app (OwB.below o2 (box_below w2 _)) (by rw [size_al]; omega) g3)))
    | (go_at_call 28; refine (w_layText base v1 (B ++ X) S _ o1 hs1 (by simp; omega) hS).mono ?_; rintro e w2 ⟨v2, rfl, o2, m2⟩; have st2 := st1.agr m2.agr rfl (fun h => h); have e1 := st2.cell 1 _ rfl; have l2 := ll.trans m2; have hs2 : base ≤ w2.heap.size := Nat.le_trans hb l2.below.size)
    | (go_at_call 25; refine (cB _).mono ?_; rintro e q ⟨rfl, hw⟩; obtain rfl := hw.symm)
    | (go_at_call 27; refine cC.mono ?_; rintro e w1 ⟨v1, rfl, o1, l1⟩; have st1 := sw.agr l1.agr rfl (fun h => h); have f0 := st1.cell 0 _ rfl; have f1 := st1.cell 1 _ rfl; have f2 := st1.cell 2 _ rfl; have f3 := st1.cell 3 _ rfl; have ll := lw.trans l1; have hs1 : base ≤ w1.heap.size := Nat.le_trans hb ll.below.size))
  go_ret
  refine ⟨v3, rfl, ?_, l3⟩
  have := o3
  simp only [List.append_assoc, List.cons_append] at this; simp only [beQ]; rw [e2]; exact this

theorem w_lay (base : Nat) (v : Value) (B : List Int) (c n o : Int) (S : ByteArray) (wide : Bool) (w : World) (hB : OwB base w v B) (hb : base ≤ w.heap.size) (hl : B.length ≤ 8192) (n0 : 0 ≤ n) (n1 : n < 4294967296) (hs : S.size ≤ maxLen) (hok : okQ ⟨c, n, LB S, o⟩ wide = true) :
    Calls Try.prog 20 #[v, .agg #[.int .i64 c, .int .u32 n, .string S, .int .i64 o], .bool wide] w fun e w' => ∃ v', e = .returned v' ∧ OwB base w' v' (B ++ byQ ⟨c, n, LB S, o⟩ wide) ∧ Lay base w w' := by
  simp only [okQ, Bool.and_eq_true] at hok
  obtain ⟨hc, hok⟩ := hok
  unfold byQ
  have hk := bh_le c
  obtain ⟨k, hkk⟩ : ∃ k, bhF c = k := ⟨_, rfl⟩
  rw [hkk] at hok
  simp only [hkk]
  rw [hkk] at hk
  match k, hk with
  | 0, _ => exact w_lay0 base v B c n o S wide w hB hb hl n0 n1 hs hc hkk hok
  | 1, _ => exact w_lay1 base v B c n o S wide w hB hb hl n0 n1 hs hc hkk hok
  | 2, _ => exact w_lay2 base v B c n o S wide w hB hb hl n0 n1 hs hc hkk hok
  | 3, _ => exact w_lay3 base v B c n o S wide w hB hb hl n0 n1 hs hc hkk hok
  | 4, _ => exact w_lay4 base v B c n o S wide w hB hb hl n0 n1 hs hc hkk hok
  | 5, _ => exact w_lay5 base v B c n o S wide w hB hb hl n0 n1 hs hc hkk hok
  | 6, _ => exact w_lay6 base v B c n o S wide w hB hb hl n0 n1 hs hc hkk hok
end Go.Proofs.Ytbllblikigogoaa
