/-
  Tokens shown, as package scan shows them.
-/
import Derived.Test.YtpjkjkjoaapdiaaDoorSc5
namespace Go.Proofs.YtpjkjkjoaapdiaaDoor
open Go.ChangeShapes Go.WideShapes Go.ChangeAt Go.RowKit
set_option linter.unusedVariables false
set_option linter.unusedSimpArgs false

theorem tok_kinds : ¬ 5 = 33 := by decide
theorem str_34 : LB ⟨#[34]⟩ = [34] := by decide +kernel
theorem str_4634 : LB ⟨#[46, 34]⟩ = [46, 34] := by decide +kernel

set_option maxHeartbeats 4000000 in
set_option maxRecDepth 100000 in
theorem w_appTok (base : Nat) (v : Value) (ys : List Int) (k p : Int) (T : ByteArray) (w : World) (ho : Own8 base w v ys) (hB : base ≤ w.heap.size) (hl : ys.length ≤ 100000000001) (hT : T.size ≤ 100000000000) (hk : k = 1 ∨ k = 2 ∨ k = 3) :
    Calls Tryd.prog 23 #[v, .agg #[.int .i64 k, .string T, .int .i64 p]] w fun e w' => ∃ v', e = .returned v' ∧ Own8 base w' v' (ys ++ tokT k (L T)) ∧ Below base w w' := by
  have hm : T.size ≤ maxLen := by unfold maxLen; omega
  obtain ⟨i0, hi0, hz0, hz1, hz2⟩ := info_parts infoU8
  have ho1 := World.ownsRow.alloc ho (.cells #[.int .i64 k, .string T, .int .i64 p] 33)
  have st1 := stands_new w #[.int .i64 k, .string T, .int .i64 p] 33
  have hb1 : Below base w (w.alloc (.cells #[.int .i64 k, .string T, .int .i64 p] 33)) := (Below.refl base w).alloc hB _
  have hs1 : base ≤ (w.alloc (.cells #[.int .i64 k, .string T, .int .i64 p] 33)).heap.size := by rw [size_al]; omega
  rcases hk with rfl | hk
  · have e : tokT 1 (L T) = LB T := by simp [tokT, L_LB]
    rw [e]
    clear e
    go_enter Tryd.func23, Tryd.ntmps23
    go_wp2_with (at_builtin; refine wpList_append_rds rfl _ _ 44 9 rfl base 5 i0 Tryd.underlying44 Tryd.underlying9 hi0 hz0 hz1 hz2 _ ys rfl ho1 T rfl (by unfold maxLen; omega) (by omega) hs1 ?_; intro v3 w3 ho3 hg3)
    go_ret
    exact ⟨_, rfl, ho3, hb1.grown hg3 hs1 (fun k hk => (World.ownsRow.lt ho1 k hk).1)⟩
  · rcases hk with rfl | rfl
    · skip
      have e : tokT 2 (L T) = [34] ++ ([32] ++ ((L T).flatMap esc ++ [34])) := by simp [tokT]
      rw [e]
      clear e
      obtain ⟨R, hR⟩ : ∃ R, ys ++ ([34] ++ ([32] ++ ((L T).flatMap esc ++ [34]))) = R := ⟨_, rfl⟩
      rw [hR]
      have HR := hid hR
      clear hR
      have hws : (⟨#[34]⟩ : ByteArray).size ≤ 2 := by decide
      go_enter Tryd.func23, Tryd.ntmps23
      go_upto_region 7 with (at_builtin; refine wpList_append_rds rfl _ _ 44 9 rfl base 5 i0 Tryd.underlying44 Tryd.underlying9 hi0 hz0 hz1 hz2 _ ys rfl ho1 ⟨#[34]⟩ rfl (by unfold maxLen; omega) (by omega) hs1 ?_; intro v3 w3 ho3 hg3)
      rw [str_34] at ho3
      have hb3 := hb1.grown hg3 hs1 (fun k hk => (World.ownsRow.lt ho1 k hk).1)
      have st3 := st1.grown hg3 (stands_apart st1 ho1 tok_kinds)
      have hs3 : base ≤ w3.heap.size := Nat.le_trans hs1 hg3.size
      obtain ⟨Y, hY⟩ : ∃ Y, ys ++ [34] = Y := ⟨_, rfl⟩
      have hYl : (Y.length : Int) ≤ ys.length + 2 := by rw [← hY]; simp
      rw [hY] at ho3
      have ho3' := World.ownsRow.alloc ho3 (.cells #[.int .u8 32] 5)
      have st3' := st3.below (box_below w3 (.cells #[.int .u8 32] 5))
      have hb3' := hb3.alloc hs3 (.cells #[.int .u8 32] 5)
      have hs3' : base ≤ (w3.alloc (.cells #[.int .u8 32] 5)).heap.size := by rw [size_al]; omega
      go_upto_region 8 with (at_builtin; refine wpList_append_rd (k := .u8) rfl _ _ 44 rfl base 5 i0 1 Tryd.underlying44 hi0 hz0 hz1 hz2 _ Y rfl ho3' _ [32] rfl (rd_one _ 32 5) (by unfold maxLen; simp only [List.length_cons, List.length_nil]; omega) (by simp only [List.length_cons, List.length_nil]; omega) hs3' ?_; intro v4 w4 ho4 hg4)
      have hb4 := hb3'.grown hg4 hs3' (fun k hk => (World.ownsRow.lt ho3' k hk).1)
      have st4 := st3'.grown hg4 (stands_apart st3' ho3' tok_kinds)
      have hs4 : base ≤ w4.heap.size := Nat.le_trans hs3' hg4.size
      obtain ⟨Q, hQ⟩ : ∃ Q, Y ++ [32] = Q := ⟨_, rfl⟩
      have hQl : (Q.length : Int) = Y.length + 1 := by rw [← hQ]; simp
      rw [hQ] at ho4
      have hF : Hid (R = Q ++ (L T).flatMap esc ++ [34]) := by show _ = _; rw [← HR.out, ← hQ, ← hY]; simp
      clear hQ hY hg3 hg4 ho1 hb1 hs1 st1
      have y0 := st4.cell 1 _ rfl
      go_wp2_with fail
      go_loopw [0, 26] (fun U K wx => ∃ (j : Nat) (zs : List Int), (j : Int) ≤ T.size ∧ K = .int .i64 j ∧ Hid (zs = Q ++ ((L T).take j).flatMap esc) ∧ (zs.length : Int) ≤ Q.length + 5 * j ∧ Own8 base wx U zs ∧ Stands wx w.heap.size #[.int .i64 2, .string T, .int .i64 p] 33 ∧ base ≤ wx.heap.size ∧ Below base w wx) (fun _ K _ => (T.size - intOf K).toNat)
      case atStart => exact ⟨0, Q, by omega, rfl, hid (by simp), by omega, ho4, st4, hs4, hb4⟩
      case round =>
        obtain ⟨j, zs, hj, rfl, hzs, hzl, ho5, st5, hs5, hb5⟩ := hrel
        by_cases hjt : (j : Int) < T.size
        · obtain ⟨c, hr, q0, q1, hc, _⟩ := str_byte T j (by omega) hm
          have hzs2 : Hid (zs ++ esc c = Q ++ ((L T).take (j + 1)).flatMap esc) := by
            show _ = _
            rw [List.take_succ_eq_append_getElem (by rw [L_len]; omega), hc, List.flatMap_append, hzs.out]
            simp
          have hel : (esc c).length ≤ 5 := by unfold esc; split <;> simp
          have x1 := st5.cell 1 _ rfl
          have ca := w_appByte base _ zs c wr ho5 hs5 (by omega) q0 q1
          clear hc
          go_wp2_with (go_at_call 34; refine ca.mono ?_; rintro e w6 ⟨v6, rfl, ho6, hg6⟩)
          go_roundw
          case rel => exact ⟨j + 1, zs ++ esc c, by omega, by go_num, hzs2, by rw [List.length_append]; omega, ho6, st5.grown hg6 (stands_apart st5 ho5 tok_kinds), Nat.le_trans hs5 hg6.size, hb5.grown hg6 hs5 (fun k hk => (World.ownsRow.lt ho5 k hk).1)⟩
          case measure => simp [intOf]; omega
        · have hF3 : Hid (zs ++ [34] = Q ++ (L T).flatMap esc ++ [34]) := by
            show _ = _
            rw [hzs.out, List.take_of_length_le (by rw [L_len]; omega)]
          have ho5' := World.ownsRow.alloc ho5 (.cells #[.int .u8 34] 5)
          have hb5' := hb5.alloc hs5 (.cells #[.int .u8 34] 5)
          have hs5' : base ≤ (wr.alloc (.cells #[.int .u8 34] 5)).heap.size := by rw [size_al]; omega
          go_wp2_with (at_builtin; refine wpList_append_rd (k := .u8) rfl _ _ 44 rfl base 5 i0 1 Tryd.underlying44 hi0 hz0 hz1 hz2 _ zs rfl ho5' _ [34] rfl (rd_one _ 34 5) (by unfold maxLen; simp only [List.length_cons, List.length_nil]; omega) (by simp only [List.length_cons, List.length_nil]; omega) hs5' ?_; intro v6 w6 ho6 hg6)
          go_ret
          refine ⟨_, rfl, ?_, hb5'.grown hg6 hs5' (fun k hk => (World.ownsRow.lt ho5' k hk).1)⟩
          rw [hF.out, ← hF3.out]
          exact ho6
    · skip
      have e : tokT 3 (L T) = [46, 34] ++ ([32] ++ ((L T).flatMap esc ++ [34])) := by simp [tokT]
      rw [e]
      clear e
      obtain ⟨R, hR⟩ : ∃ R, ys ++ ([46, 34] ++ ([32] ++ ((L T).flatMap esc ++ [34]))) = R := ⟨_, rfl⟩
      rw [hR]
      have HR := hid hR
      clear hR
      have hws : (⟨#[46, 34]⟩ : ByteArray).size ≤ 2 := by decide
      go_enter Tryd.func23, Tryd.ntmps23
      go_upto_region 7 with (at_builtin; refine wpList_append_rds rfl _ _ 44 9 rfl base 5 i0 Tryd.underlying44 Tryd.underlying9 hi0 hz0 hz1 hz2 _ ys rfl ho1 ⟨#[46, 34]⟩ rfl (by unfold maxLen; omega) (by omega) hs1 ?_; intro v3 w3 ho3 hg3)
      rw [str_4634] at ho3
      have hb3 := hb1.grown hg3 hs1 (fun k hk => (World.ownsRow.lt ho1 k hk).1)
      have st3 := st1.grown hg3 (stands_apart st1 ho1 tok_kinds)
      have hs3 : base ≤ w3.heap.size := Nat.le_trans hs1 hg3.size
      obtain ⟨Y, hY⟩ : ∃ Y, ys ++ [46, 34] = Y := ⟨_, rfl⟩
      have hYl : (Y.length : Int) ≤ ys.length + 2 := by rw [← hY]; simp
      rw [hY] at ho3
      have ho3' := World.ownsRow.alloc ho3 (.cells #[.int .u8 32] 5)
      have st3' := st3.below (box_below w3 (.cells #[.int .u8 32] 5))
      have hb3' := hb3.alloc hs3 (.cells #[.int .u8 32] 5)
      have hs3' : base ≤ (w3.alloc (.cells #[.int .u8 32] 5)).heap.size := by rw [size_al]; omega
      go_upto_region 8 with (at_builtin; refine wpList_append_rd (k := .u8) rfl _ _ 44 rfl base 5 i0 1 Tryd.underlying44 hi0 hz0 hz1 hz2 _ Y rfl ho3' _ [32] rfl (rd_one _ 32 5) (by unfold maxLen; simp only [List.length_cons, List.length_nil]; omega) (by simp only [List.length_cons, List.length_nil]; omega) hs3' ?_; intro v4 w4 ho4 hg4)
      have hb4 := hb3'.grown hg4 hs3' (fun k hk => (World.ownsRow.lt ho3' k hk).1)
      have st4 := st3'.grown hg4 (stands_apart st3' ho3' tok_kinds)
      have hs4 : base ≤ w4.heap.size := Nat.le_trans hs3' hg4.size
      obtain ⟨Q, hQ⟩ : ∃ Q, Y ++ [32] = Q := ⟨_, rfl⟩
      have hQl : (Q.length : Int) = Y.length + 1 := by rw [← hQ]; simp
      rw [hQ] at ho4
      have hF : Hid (R = Q ++ (L T).flatMap esc ++ [34]) := by show _ = _; rw [← HR.out, ← hQ, ← hY]; simp
      clear hQ hY hg3 hg4 ho1 hb1 hs1 st1
      have y0 := st4.cell 1 _ rfl
      go_wp2_with fail
      go_loopw [0, 26] (fun U K wx => ∃ (j : Nat) (zs : List Int), (j : Int) ≤ T.size ∧ K = .int .i64 j ∧ Hid (zs = Q ++ ((L T).take j).flatMap esc) ∧ (zs.length : Int) ≤ Q.length + 5 * j ∧ Own8 base wx U zs ∧ Stands wx w.heap.size #[.int .i64 3, .string T, .int .i64 p] 33 ∧ base ≤ wx.heap.size ∧ Below base w wx) (fun _ K _ => (T.size - intOf K).toNat)
      case atStart => exact ⟨0, Q, by omega, rfl, hid (by simp), by omega, ho4, st4, hs4, hb4⟩
      case round =>
        obtain ⟨j, zs, hj, rfl, hzs, hzl, ho5, st5, hs5, hb5⟩ := hrel
        by_cases hjt : (j : Int) < T.size
        · obtain ⟨c, hr, q0, q1, hc, _⟩ := str_byte T j (by omega) hm
          have hzs2 : Hid (zs ++ esc c = Q ++ ((L T).take (j + 1)).flatMap esc) := by
            show _ = _
            rw [List.take_succ_eq_append_getElem (by rw [L_len]; omega), hc, List.flatMap_append, hzs.out]
            simp
          have hel : (esc c).length ≤ 5 := by unfold esc; split <;> simp
          have x1 := st5.cell 1 _ rfl
          have ca := w_appByte base _ zs c wr ho5 hs5 (by omega) q0 q1
          clear hc
          go_wp2_with (go_at_call 34; refine ca.mono ?_; rintro e w6 ⟨v6, rfl, ho6, hg6⟩)
          go_roundw
          case rel => exact ⟨j + 1, zs ++ esc c, by omega, by go_num, hzs2, by rw [List.length_append]; omega, ho6, st5.grown hg6 (stands_apart st5 ho5 tok_kinds), Nat.le_trans hs5 hg6.size, hb5.grown hg6 hs5 (fun k hk => (World.ownsRow.lt ho5 k hk).1)⟩
          case measure => simp [intOf]; omega
        · have hF3 : Hid (zs ++ [34] = Q ++ (L T).flatMap esc ++ [34]) := by
            show _ = _
            rw [hzs.out, List.take_of_length_le (by rw [L_len]; omega)]
          have ho5' := World.ownsRow.alloc ho5 (.cells #[.int .u8 34] 5)
          have hb5' := hb5.alloc hs5 (.cells #[.int .u8 34] 5)
          have hs5' : base ≤ (wr.alloc (.cells #[.int .u8 34] 5)).heap.size := by rw [size_al]; omega
          go_wp2_with (at_builtin; refine wpList_append_rd (k := .u8) rfl _ _ 44 rfl base 5 i0 1 Tryd.underlying44 hi0 hz0 hz1 hz2 _ zs rfl ho5' _ [34] rfl (rd_one _ 34 5) (by unfold maxLen; simp only [List.length_cons, List.length_nil]; omega) (by simp only [List.length_cons, List.length_nil]; omega) hs5' ?_; intro v6 w6 ho6 hg6)
          go_ret
          refine ⟨_, rfl, ?_, hb5'.grown hg6 hs5' (fun k hk => (World.ownsRow.lt ho5' k hk).1)⟩
          rw [hF.out, ← hF3.out]
          exact ho6

set_option maxHeartbeats 4000000 in
set_option maxRecDepth 100000 in
theorem w_pshow (v : Value) (xs : List Tk) (w : World) (h : SlR 3 tokR w v xs) (bx : ∀ x ∈ xs, bytesL x.2.1) (hz : (shwT (xs.map pr)).length ≤ 100000000000) (hsz : ∀ x ∈ xs, x.2.1.length ≤ 100000000000) :
    Calls Tryd.prog 12 #[v] w fun e w' => e = .returned (.tuple #[.string (strOfNums (shwF (xs.map pr)).1), .int .i64 (shwF (xs.map pr)).2]) ∧ Below w.heap.size w w' := by
  have hla := slr_len h uK (P := Tryd.prog)
  have hma := slr_max h
  unfold maxLen at hma
  obtain ⟨i0, hi0, hz0, hz1, hz2⟩ := info_parts infoU8
  obtain ⟨A, E, hAE⟩ : ∃ A E, shwF (xs.map pr) = (A, E) := ⟨_, _, rfl⟩
  have HAE := hid hAE
  rw [hAE]
  show Calls _ _ _ _ fun e w' => e = .returned (.tuple #[.string (strOfNums A), .int .i64 E]) ∧ _
  clear hAE
  go_enter Tryd.func12, Tryd.ntmps12
  go_wp2_with fail
  go_loopw [4, 9] (fun U I wx => ∃ (i : Nat) (ys : List Int), (i : Int) ≤ xs.length ∧ I = .int .i64 i ∧ Hid (ys = (shwT ((xs.map pr).take i)).drop 1) ∧ Hid (((xs.map pr).take i).all (fun x => good x.1 x.2) = true) ∧ Own8 w.heap.size wx U ys ∧ Below w.heap.size w wx) (fun _ I _ => (xs.length - intOf I).toNat)
  case atStart => exact ⟨0, [], by omega, rfl, hid rfl, hid rfl, World.ownsRow_nil _ _ _ _, Below.refl _ _⟩
  case round =>
    obtain ⟨i, ys, hi, rfl, hys, hall, ho, hb⟩ := hrel
    by_cases hlt : (i : Int) < xs.length
    · have hil : i < xs.length := by omega
      obtain ⟨b, o, k, p, T, r, a0, a1, a2, e0, e1, e2⟩ := tok_at h i hil
      have c0 := below_cell hb a0
      have c1 := below_cell hb a1
      have c2 := below_cell hb a2
      have hTL : L T = xs[i].2.1 := by rw [← e1]; exact LB_nums _ (bx _ (List.getElem_mem hil))
      have hTs : T.size ≤ 100000000000 := by rw [← L_len, hTL]; exact hsz _ (List.getElem_mem hil)
      have cg := fun w => w_formed k p T w (by unfold maxLen; omega)
      have hgm : (xs.map pr)[i]'(by simpa using hil) = (k, L T) := by simp [pr, e0, hTL]
      have st0 := stands_new wr #[.int .i64 k, .string T, .int .i64 p] 33
      have ho0 := World.ownsRow.alloc ho (.cells #[.int .i64 k, .string T, .int .i64 p] 33)
      have hb0 := hb.alloc hb.size (.cells #[.int .i64 k, .string T, .int .i64 p] 33)
      cases hg : good k (L T)
      · have e : Hid (shwF (xs.map pr) = ([], 1)) := shw_bad (xs.map pr) i (by simpa using hil) (by rw [hgm]; exact hg)
        simp only [hg] at cg
        clear e0 e1 e2 hTL hgm hg
        go_wp2_with (go_at_call 22; refine (cg _).mono ?_; rintro e w1 ⟨rfl, b1⟩)
        go_ret2
        obtain ⟨rfl, rfl⟩ := Prod.mk.inj (HAE.out.symm.trans e.out)
        exact ⟨rfl, below_trans hb0 b1⟩
      · have hk123 : k = 1 ∨ k = 2 ∨ k = 3 := by
          by_cases hk : k = 1
          · exact Or.inl hk
          · simp [good, hk] at hg
            exact Or.inr hg.1
        have hall2 : Hid (((xs.map pr).take (i + 1)).all (fun x => good x.1 x.2) = true) := by
          show _ = _
          rw [List.take_succ_eq_append_getElem (by simpa using hil), hgm, List.all_append, hall.out]
          simp [hg]
        have hyl : (ys.length : Int) ≤ 100000000000 := by
          have h1 := shwT_take (xs.map pr) i
          rw [hys.out, List.length_drop]
          omega
        simp only [hg] at cg
        clear e0 e1 e2 hTL hg
        rcases Nat.eq_zero_or_pos i with hi0' | hi0'
        · have hip : ¬ (0 : Int) < i := by omega
          have hF : Hid (ys ++ tokT k (L T) = (shwT ((xs.map pr).take (i + 1))).drop 1) := by
            show _ = _
            rw [List.take_succ_eq_append_getElem (by simpa using hil), hgm, show (xs.map pr).take i = [] by rw [hi0']; rfl, List.nil_append, shwD_one, hys.out, hi0']
            rfl
          clear hi0' hgm
          go_wp2_with (first
            | (go_at_call 22; refine (cg _).mono ?_; rintro e w1 ⟨rfl, b1⟩; have st1 := st0.below b1; have ho1 := own_below ho0 b1; have hb1 := below_trans hb0 b1; have x0 := st1.cell 0 _ rfl; have x1 := st1.cell 1 _ rfl; have x2 := st1.cell 2 _ rfl)
            | (go_at_call 23; refine (w_appTok w.heap.size _ ys k p T w1 ho1 hb1.size (by omega) hTs hk123).mono ?_; rintro e w6 ⟨v6, rfl, ho6, hb6⟩))
          go_roundw
          case rel => exact ⟨i + 1, ys ++ tokT k (L T), by omega, by go_num, hF, hall2, ho6, hb1.trans hb6⟩
          case measure => simp [intOf]; omega
        · have hip : (0 : Int) < i := by omega
          have hF : Hid ((ys ++ [32]) ++ tokT k (L T) = (shwT ((xs.map pr).take (i + 1))).drop 1) := by
            show _ = _
            rw [List.take_succ_eq_append_getElem (by simpa using hil), hgm, shwD_snoc _ _ (by intro h; have := congrArg List.length h; rw [List.length_take, List.length_nil, List.length_map] at this; omega), ← hys.out]
          clear hgm
          go_wp2_with (first
            | (go_at_call 22; refine (cg _).mono ?_; rintro e w1 ⟨rfl, b1⟩; have st1 := (st0.below b1).below (box_below w1 (.cells #[.int .u8 32] 5)); have ho1 := World.ownsRow.alloc (own_below ho0 b1) (.cells #[.int .u8 32] 5); have hb1 := (below_trans hb0 b1).alloc (below_trans hb0 b1).size (.cells #[.int .u8 32] 5))
            | (at_builtin; refine wpList_append_rd (k := .u8) rfl _ _ 44 rfl w.heap.size 5 i0 1 Tryd.underlying44 hi0 hz0 hz1 hz2 _ ys rfl ho1 _ [32] rfl (rd_one _ 32 5) (by unfold maxLen; simp only [List.length_cons, List.length_nil]; omega) (by simp only [List.length_cons, List.length_nil]; omega) hb1.size ?_; intro v4 w4 ho4 hg4; have hb4 := below_grown hb1 hg4 (fun k hk => (World.ownsRow.lt ho1 k hk).1); have st4 := st1.grown hg4 (stands_apart st1 ho1 tok_kinds); have x0 := st4.cell 0 _ rfl; have x1 := st4.cell 1 _ rfl; have x2 := st4.cell 2 _ rfl)
            | (go_at_call 23; refine (w_appTok w.heap.size _ (ys ++ [32]) k p T w4 ho4 hb4.size (by simp; omega) hTs hk123).mono ?_; rintro e w6 ⟨v6, rfl, ho6, hb6⟩))
          go_roundw
          case rel => exact ⟨i + 1, (ys ++ [32]) ++ tokT k (L T), by omega, by go_num, hF, hall2, ho6, hb4.trans hb6⟩
          case measure => simp [intOf]; omega
    · have e : Hid (shwF (xs.map pr) = (ys, 0)) := by
        show _ = _
        have h1 : (xs.map pr).take i = xs.map pr := List.take_of_length_le (by simp; omega)
        rw [hys.out, h1]
        have := hall.out
        rw [h1] at this
        exact shw_ok _ this
      have cs := rd_strT (Rd_own ho).1
      go_wp2_with fail
      go_ret2
      obtain ⟨rfl, rfl⟩ := Prod.mk.inj (HAE.out.symm.trans e.out)
      exact ⟨rfl, hb⟩
end Go.Proofs.YtpjkjkjoaapdiaaDoor
