/-
  Show of the document's answer for tokens.
-/
import Derived.Test.YtpjkjkjoaapdiaaDoorRs5
namespace Go.Proofs.YtpjkjkjoaapdiaaDoor
open Go.ChangeShapes Go.WideShapes Go.ChangeAt Go.RowKit
set_option linter.unusedVariables false
set_option linter.unusedSimpArgs false

def pr (x : Tk) : Int × List Int := (x.1, x.2.1)
theorem shwT_snoc (l : List (Int × List Int)) (x : Int × List Int) : shwT (l ++ [x]) = shwT l ++ 32 :: tokT x.1 x.2 := by
  induction l with
  | nil => simp [shwT]
  | cons y l ih => simp [shwT, ih]
theorem shwD_one (x : Int × List Int) : (shwT [x]).drop 1 = tokT x.1 x.2 := by simp [shwT]
theorem shwD_snoc (l : List (Int × List Int)) (x : Int × List Int) (h : l ≠ []) : (shwT (l ++ [x])).drop 1 = (shwT l).drop 1 ++ [32] ++ tokT x.1 x.2 := by
  cases l with
  | nil => exact absurd rfl h
  | cons y l => simp [shwT, shwT_snoc]
theorem shwT_take (l : List (Int × List Int)) (k : Nat) : (shwT (l.take k)).length ≤ (shwT l).length := by
  induction l generalizing k with
  | nil => simp [shwT]
  | cons y l ih =>
    cases k with
    | zero => simp [shwT]
    | succ k =>
      have := ih k
      simp only [List.take_succ_cons, shwT, List.length_cons, List.length_append]
      omega
theorem shw_bad (l : List (Int × List Int)) (k : Nat) (h : k < l.length) (hb : good l[k].1 l[k].2 = false) : shwF l = ([], 1) := by
  unfold shwF
  rw [if_neg]
  intro hall
  rw [List.all_eq_true] at hall
  have := hall l[k] (List.getElem_mem h)
  rw [hb] at this
  cases this
theorem shw_ok (l : List (Int × List Int)) (h : l.all (fun x => good x.1 x.2) = true) : shwF l = ((shwT l).drop 1, 0) := by
  unfold shwF
  rw [if_pos h]

theorem run_hex (n : Int) (n0 : 0 ≤ n) (n1 : n < 16) (w : World) : (Instr.index 9 (.string ⟨#[48, 49, 50, 51, 52, 53, 54, 55, 56, 57, 97, 98, 99, 100, 101, 102]⟩) (.int .u8 n)).run Tryd.prog w = .ok (.int .u8 (hxd n)) w := by
  obtain ⟨k, rfl⟩ := Int.eq_ofNat_of_zero_le n0
  have : k = 0 ∨ k = 1 ∨ k = 2 ∨ k = 3 ∨ k = 4 ∨ k = 5 ∨ k = 6 ∨ k = 7 ∨ k = 8 ∨ k = 9 ∨ k = 10 ∨ k = 11 ∨ k = 12 ∨ k = 13 ∨ k = 14 ∨ k = 15 := by omega
  rw [run_index_string (h := Tryd.underlying9)]
  rcases this with rfl | rfl | rfl | rfl | rfl | rfl | rfl | rfl | rfl | rfl | rfl | rfl | rfl | rfl | rfl | rfl <;> rfl

set_option maxHeartbeats 4000000 in
set_option maxRecDepth 100000 in
theorem w_rshow6 (v : Value) (xs : List Tk) (w : World) (h : SlR 3 tokR w v xs) (bx : ∀ x ∈ xs, bytesL x.2.1) (hz : (shwT (xs.map pr)).length ≤ 100000000000) (hsz : ∀ x ∈ xs, x.2.1.length ≤ 100000000000) :
    Calls Tryd.prog 13 #[v] w fun e w' => e = .returned (.tuple #[.string (strOfNums (shwF (xs.map pr)).1), .int .i64 (shwF (xs.map pr)).2]) ∧ Below w.heap.size w w' := by
  have hla := slr_len h uK (P := Tryd.prog)
  have hma := slr_max h
  unfold maxLen at hma
  obtain ⟨i0, hi0, hz0, hz1, hz2⟩ := info_parts infoU8
  obtain ⟨A, E, hAE⟩ : ∃ A E, shwF (xs.map pr) = (A, E) := ⟨_, _, rfl⟩
  have HAE := hid hAE
  rw [hAE]
  show Calls _ _ _ _ fun e w' => e = .returned (.tuple #[.string (strOfNums A), .int .i64 E]) ∧ _
  clear hAE
  go_enter Tryd.func13, Tryd.ntmps13
  go_wp2_with fail
  go_loopw [4, 5] (fun U I wx => ∃ (i : Nat) (ys : List Int), (i : Int) ≤ xs.length ∧ I = .int .i64 i ∧ Hid (ys = (shwT ((xs.map pr).take i)).drop 1) ∧ Hid (((xs.map pr).take i).all (fun x => good x.1 x.2) = true) ∧ Own8 w.heap.size wx U ys ∧ Below w.heap.size w wx) (fun _ I _ => (xs.length - intOf I).toNat)
  case atStart => exact ⟨0, [], by omega, rfl, hid rfl, hid rfl, World.ownsRow_nil _ _ _ _, Below.refl _ _⟩
  case round =>
    obtain ⟨i, ys, hi, rfl, hys, hall, ho, hb⟩ := hrel
    by_cases hlt : (i : Int) < xs.length
    · have hil : i < xs.length := by omega
      obtain ⟨b, o, k, p, T, r, a0, a1, a2, e0, e1, e2⟩ := tok_at h i hil
      have c0 := below_cell hb a0
      have c1 := below_cell hb a1
      have c2 := below_cell hb a2
      have hTL : L T = xs[i].2.1 := by rw [← e1]; exact LB_nums _ (bx _ (List.getElem_mem hil))
      have hTs : T.size ≤ 100000000000 := by rw [← L_len, hTL]; exact hsz _ (List.getElem_mem hil)
      have cg := w_rgood k p T wr (by omega)
      have hgm : (xs.map pr)[i]'(by simpa using hil) = (k, L T) := by simp [pr, e0, hTL]
      cases hg : good k (L T)
      · have e : Hid (shwF (xs.map pr) = ([], 1)) := shw_bad (xs.map pr) i (by simpa using hil) (by rw [hgm]; exact hg)
        rw [hg] at cg
        clear e0 e1 e2 hTL hgm hg
        go_wp2_with (go_at_call 24; refine cg.mono ?_; rintro e w1 ⟨rfl, b1⟩)
        go_ret2
        obtain ⟨rfl, rfl⟩ := Prod.mk.inj (HAE.out.symm.trans e.out)
        exact ⟨rfl, below_trans hb b1⟩
      · rw [hg] at cg
        have hk123 : ¬ k = 1 → k = 2 ∨ k = 3 := by
          intro hk
          simp [good, hk] at hg
          exact hg.1
        have hall2 : Hid (((xs.map pr).take (i + 1)).all (fun x => good x.1 x.2) = true) := by
          show _ = _
          rw [List.take_succ_eq_append_getElem (by simpa using hil), hgm, List.all_append, hall.out]
          simp [hg]
        have hyl : (ys.length : Int) ≤ 100000000000 := by
          have h1 := shwT_take (xs.map pr) i
          rw [hys.out, List.length_drop]
          omega
        clear e0 e1 e2 hTL
        rcases Nat.eq_zero_or_pos i with hi0' | hi0'
        · have hip : ¬ (0 : Int) < i := by omega
          have HI0 := hid hi0'
          clear hi0'
          go_upto_region 9 with (first | (go_at_call 24; refine cg.mono ?_; rintro e w1 ⟨rfl, b1⟩; have ho1 := own_below ho b1; have hb1 := below_trans hb b1; have m0 := below_cell hb1 a0; have m1 := below_cell hb1 a1))
          have hb2 := hb1
          have ho2 := ho1
          obtain ⟨w2, hw2⟩ : ∃ w2, w2 = w1 := ⟨_, rfl⟩
          subst hw2
          obtain ⟨Y, hY⟩ : ∃ Y, ys = Y := ⟨_, rfl⟩
          rw [hY] at ho2
          have hF : Hid ((shwT ((xs.map pr).take (i + 1))).drop 1 = Y ++ tokT k (L T)) := by
            show _ = _
            rw [List.take_succ_eq_append_getElem (by simpa using hil), hgm]
            rw [show (xs.map pr).take i = [] by rw [HI0.out]; rfl, List.nil_append, shwD_one, ← hY, hys.out, HI0.out]
            rfl
          have hYl : (Y.length : Int) ≤ ys.length + 1 := by rw [← hY]; omega
          have m0' := below_cell hb2 a0
          have m1' := below_cell hb2 a1
          clear hY
          by_cases k1 : k = 1
          · subst k1
            have hF2 : Hid (Y ++ LB T = (shwT ((xs.map pr).take (i + 1))).drop 1) := by show _ = _; rw [hF.out]; simp [tokT, L_LB]
            clear hF
            go_wp2_with (at_builtin; refine wpList_append_rds rfl _ _ 44 9 rfl w.heap.size 5 i0 Tryd.underlying44 Tryd.underlying9 hi0 hz0 hz1 hz2 _ Y rfl ho2 T rfl (by unfold maxLen; omega) (by omega) hb2.size ?_; intro v3 w3 ho3 hg3)
            go_roundw
            case rel => exact ⟨i + 1, Y ++ LB T, by omega, by go_num, hF2, hall2, ho3, below_grown hb2 hg3 (fun k hk => (World.ownsRow.lt ho2 k hk).1)⟩
            case measure => simp [intOf]; omega
          · have hk1 : (k == 1) = false := by simp [k1]
            have hk23 : k = 2 ∨ k = 3 := hk123 k1
            rcases hk23 with rfl | rfl
            · skip
              go_upto_region 14 with (fail)
              have hb3 := hb2
              have ho3 := ho2
              obtain ⟨w3, hw3⟩ : ∃ w3, w3 = w2 := ⟨_, rfl⟩
              subst hw3
              obtain ⟨Z, hZ⟩ : ∃ Z, Y = Z := ⟨_, rfl⟩
              rw [hZ] at ho3
              have hZl : (Z.length : Int) ≤ Y.length + 1 := by rw [← hZ]; omega
              have hF2 : Hid ((shwT ((xs.map pr).take (i + 1))).drop 1 = (Z ++ [34, 32]) ++ ((L T).flatMap esc ++ [34])) := by show _ = _; rw [hF.out, ← hZ]; simp [tokT]
              clear hF hZ
              go_upto_region 15 with ((at_builtin; refine wpList_append_rd (k := .u8) rfl _ _ 44 rfl w.heap.size 5 i0 1 Tryd.underlying44 hi0 hz0 hz1 hz2 _ Z rfl (World.ownsRow.alloc ho3 (.cells #[.int .u8 34, .int .u8 32] 5)) _ [34, 32] rfl (rd_lit _ [34, 32] 5 (Nat.succ_pos _) (by unfold maxLen; simp only [List.length_cons, List.length_nil]; omega)) (by unfold maxLen; simp only [List.length_cons, List.length_nil, List.length_append]; omega) (by simp only [List.length_cons, List.length_nil, List.length_append]; omega) (hb3.alloc hb3.size (.cells #[.int .u8 34, .int .u8 32] 5)).size ?_; intro v4 w4 ho4 hg4))
              have hb4 := below_grown (hb3.alloc hb3.size (.cells #[.int .u8 34, .int .u8 32] 5)) hg4 (fun k hk => (World.ownsRow.lt ho3 k hk).1)
              obtain ⟨Q, hQ⟩ : ∃ Q, Z ++ [34, 32] = Q := ⟨_, rfl⟩
              have hQl : (Q.length : Int) = Z.length + 2 := by rw [← hQ]; simp
              rw [hQ] at ho4 hF2
              clear hQ
              go_wp2_with fail
              go_loopw [4, 7] (fun U K wx => ∃ (j : Nat) (zs : List Int), (j : Int) ≤ T.size ∧ K = .int .i64 j ∧ Hid (zs = Q ++ ((L T).take j).flatMap esc) ∧ (zs.length : Int) ≤ Q.length + 5 * j ∧ Own8 w.heap.size wx U zs ∧ Below w.heap.size w wx) (fun _ K _ => (T.size - intOf K).toNat)
              case atStart => exact ⟨0, Q, by omega, rfl, hid (by simp), by omega, ho4, hb4⟩
              case round =>
                obtain ⟨j, zs, hj, rfl, hzs, hzl, ho5, hb5⟩ := hrel
                by_cases hjt : (j : Int) < T.size
                · obtain ⟨c, hr, q0, q1, hc, _⟩ := str_byte T j (by omega) (by unfold maxLen; omega)
                  have hzs2 : Hid (zs ++ esc c = Q ++ ((L T).take (j + 1)).flatMap esc) := by
                    show _ = _
                    rw [List.take_succ_eq_append_getElem (by rw [L_len]; omega), hc, List.flatMap_append, hzs.out]
                    simp
                  clear hc
                  by_cases hesc : c = 34 ∨ c < 32 ∨ 126 < c
                  · have he : esc c = [34, 40, hxd (c / 16), hxd (c % 16), 41] := by unfold esc; rw [if_pos hesc]
                    rw [he] at hzs2
                    obtain ⟨q, hqq⟩ : ∃ q, c / 16 = q := ⟨_, rfl⟩
                    obtain ⟨m, hmm⟩ : ∃ m, c % 16 = m := ⟨_, rfl⟩
                    have hq1 : c.tdiv 16 = q := by rw [Int.tdiv_eq_ediv_of_nonneg q0, hqq]
                    have hm1 : c.tmod 16 = m := by rw [Int.tmod_eq_emod_of_nonneg q0, hmm]
                    have hq2 : IntKind.u8.wrap q = q := by rw [IntKind.wrap_u8]; omega
                    have hm2 : IntKind.u8.wrap m = m := by rw [IntKind.wrap_u8]; omega
                    have hx := run_hex q (by omega) (by omega)
                    have hy := run_hex m (by omega) (by omega)
                    rw [hqq, hmm] at hzs2
                    obtain ⟨x, hxx⟩ : ∃ x, hxd q = x := ⟨_, rfl⟩
                    obtain ⟨y, hyy⟩ : ∃ y, hxd m = y := ⟨_, rfl⟩
                    simp only [hxx, hyy] at hx hy hzs2
                    clear he hxx hyy hqq hmm
                    by_cases h34 : c = 34
                    · have n1 : (c == 34) = true := by simp [h34]
                      clear h34 hesc
                      go_wp2_with fail
                      refine wp_region_any (by kernel_rfl) ?_
                      refine wpAny_take (i := 0) (v := _) rfl (by kernel_rfl) (by kernel_rfl) (by kernel_rfl) (fun _ _ _ h => h) (Or.inl ⟨by rfl, fun w => by go_simp; try with_reducible rfl⟩) ?_
                      refine wpAny_take (i := 1) (v := _) rfl (by kernel_rfl) (by kernel_rfl) (by kernel_rfl) (fun _ _ _ h => h) (Or.inl ⟨by rfl, fun w => by go_simp; try with_reducible rfl⟩) ?_
                      refine wpAny_take (i := 2) (v := _) rfl (by kernel_rfl) (by kernel_rfl) (by kernel_rfl) (fun _ _ _ h => h) (Or.inl ⟨by rfl, fun w => by go_simp; try with_reducible rfl⟩) ?_
                      refine wpAny_take (i := 3) (v := _) rfl (by kernel_rfl) (by kernel_rfl) (by kernel_rfl) (fun _ _ _ h => h) (Or.inl ⟨by rfl, fun w => by go_simp; try with_reducible rfl⟩) ?_
                      refine wpAny_take (i := 4) (v := _) rfl (by kernel_rfl) (by kernel_rfl) (by kernel_rfl) (fun _ _ _ h => h) (Or.inl ⟨by rfl, fun w => by go_simp; try with_reducible rfl⟩) ?_
                      refine wpAny_take (i := 5) (v := _) rfl (by kernel_rfl) (by kernel_rfl) (by kernel_rfl) (fun _ _ _ h => h) (Or.inl ⟨by rfl, fun w => by go_simp; try with_reducible rfl⟩) ?_
                      refine wpAny_take (i := 6) (v := _) rfl (by kernel_rfl) (by kernel_rfl) (by kernel_rfl) (fun _ _ _ h => h) (Or.inl ⟨by rfl, fun w => by go_simp; try with_reducible rfl⟩) ?_
                      refine wpAny_take (i := 7) (v := _) rfl (by kernel_rfl) (by kernel_rfl) (by kernel_rfl) (fun _ _ _ h => h) (Or.inl ⟨by rfl, fun w => by go_simp; try with_reducible rfl⟩) ?_
                      refine wpAny_take (i := 8) (v := _) rfl (by kernel_rfl) (by kernel_rfl) (by kernel_rfl) (fun _ _ _ h => h) (Or.inl ⟨by rfl, fun w => by go_simp; try with_reducible rfl⟩) ?_
                      refine wpAny_take (i := 9) (v := _) rfl (by kernel_rfl) (by kernel_rfl) (by kernel_rfl) (fun _ _ _ h => h) (Or.inl ⟨by rfl, fun w => by go_simp; try with_reducible rfl⟩) ?_
                      refine wpAny_take (i := 10) (v := _) rfl (by kernel_rfl) (by kernel_rfl) (by kernel_rfl) (fun _ _ _ h => h) (Or.inl ⟨by rfl, fun w => by go_simp; try with_reducible rfl⟩) ?_
                      refine wpAny_ready (rs := [11]) (by kernel_rfl) (by simp) ?_
                      refine AllReady.cons rfl (fun K hK => ?_) AllReady.nil
                      go_simp
                      refine hK _ _ ?_
                      clear hK K
                      refine wpAny_ready (rs := [12]) (by kernel_rfl) (by simp) ?_
                      refine AllReady.cons rfl (fun K hK => ?_) AllReady.nil
                      have hq5 := hb5.alloc hb5.size (.cells #[.int .u8 34, .int .u8 40, .int .u8 x, .int .u8 y, .int .u8 41] 5)
                      refine step_append_rd (k := .u8) rfl _ _ 44 rfl w.heap.size 5 i0 1 Tryd.underlying44 hi0 hz0 hz1 hz2 _ zs rfl (World.ownsRow.alloc (show Own8 w.heap.size wr.drew _ zs from ho5) (.cells #[.int .u8 34, .int .u8 40, .int .u8 x, .int .u8 y, .int .u8 41] 5)) _ [34, 40, x, y, 41] rfl (rd_lit _ [34, 40, x, y, 41] 5 (Nat.succ_pos _) (by unfold maxLen; simp only [List.length_cons, List.length_nil]; omega)) (by unfold maxLen; simp only [List.length_cons, List.length_nil]; omega) (by simp only [List.length_cons, List.length_nil]; omega) (by exact hq5.size) ?_
                      intro v6 w6 ho6 hg6
                      have hb6 : Below w.heap.size w w6 := below_grown (show Below w.heap.size w (World.drew _) from below_drewN hq5 1) hg6 (fun k hk => (World.ownsRow.lt ho5 k hk).1)
                      refine hK _ _ ?_
                      clear hK K
                      refine wpAny_take (i := 13) (v := _) rfl (by kernel_rfl) (by kernel_rfl) (by kernel_rfl) (fun _ _ _ h => h) (Or.inl ⟨by rfl, fun w => by go_simp; try with_reducible rfl⟩) ?_
                      refine wpAny_done (by kernel_rfl) ?_ _
                      go_wp2_with fail
                      go_roundw
                      case rel => exact ⟨j + 1, zs ++ [34, 40, x, y, 41], by omega, by go_num, hzs2, by simp; omega, ho6, hb6⟩
                      case measure => simp [intOf]; omega
                    · have n1 : (c == 34) = false := by simp [h34]
                      rcases (show c < 32 ∨ 126 < c by omega) with n2 | n2
                      · clear h34 hesc
                        go_wp2_with fail
                        refine wp_region_any (by kernel_rfl) ?_
                        refine wpAny_take (i := 0) (v := _) rfl (by kernel_rfl) (by kernel_rfl) (by kernel_rfl) (fun _ _ _ h => h) (Or.inl ⟨by rfl, fun w => by go_simp; try with_reducible rfl⟩) ?_
                        refine wpAny_take (i := 1) (v := _) rfl (by kernel_rfl) (by kernel_rfl) (by kernel_rfl) (fun _ _ _ h => h) (Or.inl ⟨by rfl, fun w => by go_simp; try with_reducible rfl⟩) ?_
                        refine wpAny_take (i := 2) (v := _) rfl (by kernel_rfl) (by kernel_rfl) (by kernel_rfl) (fun _ _ _ h => h) (Or.inl ⟨by rfl, fun w => by go_simp; try with_reducible rfl⟩) ?_
                        refine wpAny_take (i := 3) (v := _) rfl (by kernel_rfl) (by kernel_rfl) (by kernel_rfl) (fun _ _ _ h => h) (Or.inl ⟨by rfl, fun w => by go_simp; try with_reducible rfl⟩) ?_
                        refine wpAny_take (i := 4) (v := _) rfl (by kernel_rfl) (by kernel_rfl) (by kernel_rfl) (fun _ _ _ h => h) (Or.inl ⟨by rfl, fun w => by go_simp; try with_reducible rfl⟩) ?_
                        refine wpAny_take (i := 5) (v := _) rfl (by kernel_rfl) (by kernel_rfl) (by kernel_rfl) (fun _ _ _ h => h) (Or.inl ⟨by rfl, fun w => by go_simp; try with_reducible rfl⟩) ?_
                        refine wpAny_take (i := 6) (v := _) rfl (by kernel_rfl) (by kernel_rfl) (by kernel_rfl) (fun _ _ _ h => h) (Or.inl ⟨by rfl, fun w => by go_simp; try with_reducible rfl⟩) ?_
                        refine wpAny_take (i := 7) (v := _) rfl (by kernel_rfl) (by kernel_rfl) (by kernel_rfl) (fun _ _ _ h => h) (Or.inl ⟨by rfl, fun w => by go_simp; try with_reducible rfl⟩) ?_
                        refine wpAny_take (i := 8) (v := _) rfl (by kernel_rfl) (by kernel_rfl) (by kernel_rfl) (fun _ _ _ h => h) (Or.inl ⟨by rfl, fun w => by go_simp; try with_reducible rfl⟩) ?_
                        refine wpAny_take (i := 9) (v := _) rfl (by kernel_rfl) (by kernel_rfl) (by kernel_rfl) (fun _ _ _ h => h) (Or.inl ⟨by rfl, fun w => by go_simp; try with_reducible rfl⟩) ?_
                        refine wpAny_take (i := 10) (v := _) rfl (by kernel_rfl) (by kernel_rfl) (by kernel_rfl) (fun _ _ _ h => h) (Or.inl ⟨by rfl, fun w => by go_simp; try with_reducible rfl⟩) ?_
                        refine wpAny_ready (rs := [11]) (by kernel_rfl) (by simp) ?_
                        refine AllReady.cons rfl (fun K hK => ?_) AllReady.nil
                        go_simp
                        refine hK _ _ ?_
                        clear hK K
                        refine wpAny_ready (rs := [12]) (by kernel_rfl) (by simp) ?_
                        refine AllReady.cons rfl (fun K hK => ?_) AllReady.nil
                        have hq5 := hb5.alloc hb5.size (.cells #[.int .u8 34, .int .u8 40, .int .u8 x, .int .u8 y, .int .u8 41] 5)
                        refine step_append_rd (k := .u8) rfl _ _ 44 rfl w.heap.size 5 i0 1 Tryd.underlying44 hi0 hz0 hz1 hz2 _ zs rfl (World.ownsRow.alloc (show Own8 w.heap.size wr.drew _ zs from ho5) (.cells #[.int .u8 34, .int .u8 40, .int .u8 x, .int .u8 y, .int .u8 41] 5)) _ [34, 40, x, y, 41] rfl (rd_lit _ [34, 40, x, y, 41] 5 (Nat.succ_pos _) (by unfold maxLen; simp only [List.length_cons, List.length_nil]; omega)) (by unfold maxLen; simp only [List.length_cons, List.length_nil]; omega) (by simp only [List.length_cons, List.length_nil]; omega) (by exact hq5.size) ?_
                        intro v6 w6 ho6 hg6
                        have hb6 : Below w.heap.size w w6 := below_grown (show Below w.heap.size w (World.drew _) from below_drewN hq5 1) hg6 (fun k hk => (World.ownsRow.lt ho5 k hk).1)
                        refine hK _ _ ?_
                        clear hK K
                        refine wpAny_take (i := 13) (v := _) rfl (by kernel_rfl) (by kernel_rfl) (by kernel_rfl) (fun _ _ _ h => h) (Or.inl ⟨by rfl, fun w => by go_simp; try with_reducible rfl⟩) ?_
                        refine wpAny_done (by kernel_rfl) ?_ _
                        go_wp2_with fail
                        go_roundw
                        case rel => exact ⟨j + 1, zs ++ [34, 40, x, y, 41], by omega, by go_num, hzs2, by simp; omega, ho6, hb6⟩
                        case measure => simp [intOf]; omega
                      · clear h34 hesc
                        have n3 : ¬ c < 32 := by omega
                        go_wp2_with fail
                        refine wp_region_any (by kernel_rfl) ?_
                        refine wpAny_take (i := 0) (v := _) rfl (by kernel_rfl) (by kernel_rfl) (by kernel_rfl) (fun _ _ _ h => h) (Or.inl ⟨by rfl, fun w => by go_simp; try with_reducible rfl⟩) ?_
                        refine wpAny_take (i := 1) (v := _) rfl (by kernel_rfl) (by kernel_rfl) (by kernel_rfl) (fun _ _ _ h => h) (Or.inl ⟨by rfl, fun w => by go_simp; try with_reducible rfl⟩) ?_
                        refine wpAny_take (i := 2) (v := _) rfl (by kernel_rfl) (by kernel_rfl) (by kernel_rfl) (fun _ _ _ h => h) (Or.inl ⟨by rfl, fun w => by go_simp; try with_reducible rfl⟩) ?_
                        refine wpAny_take (i := 3) (v := _) rfl (by kernel_rfl) (by kernel_rfl) (by kernel_rfl) (fun _ _ _ h => h) (Or.inl ⟨by rfl, fun w => by go_simp; try with_reducible rfl⟩) ?_
                        refine wpAny_take (i := 4) (v := _) rfl (by kernel_rfl) (by kernel_rfl) (by kernel_rfl) (fun _ _ _ h => h) (Or.inl ⟨by rfl, fun w => by go_simp; try with_reducible rfl⟩) ?_
                        refine wpAny_take (i := 5) (v := _) rfl (by kernel_rfl) (by kernel_rfl) (by kernel_rfl) (fun _ _ _ h => h) (Or.inl ⟨by rfl, fun w => by go_simp; try with_reducible rfl⟩) ?_
                        refine wpAny_take (i := 6) (v := _) rfl (by kernel_rfl) (by kernel_rfl) (by kernel_rfl) (fun _ _ _ h => h) (Or.inl ⟨by rfl, fun w => by go_simp; try with_reducible rfl⟩) ?_
                        refine wpAny_take (i := 7) (v := _) rfl (by kernel_rfl) (by kernel_rfl) (by kernel_rfl) (fun _ _ _ h => h) (Or.inl ⟨by rfl, fun w => by go_simp; try with_reducible rfl⟩) ?_
                        refine wpAny_take (i := 8) (v := _) rfl (by kernel_rfl) (by kernel_rfl) (by kernel_rfl) (fun _ _ _ h => h) (Or.inl ⟨by rfl, fun w => by go_simp; try with_reducible rfl⟩) ?_
                        refine wpAny_take (i := 9) (v := _) rfl (by kernel_rfl) (by kernel_rfl) (by kernel_rfl) (fun _ _ _ h => h) (Or.inl ⟨by rfl, fun w => by go_simp; try with_reducible rfl⟩) ?_
                        refine wpAny_take (i := 10) (v := _) rfl (by kernel_rfl) (by kernel_rfl) (by kernel_rfl) (fun _ _ _ h => h) (Or.inl ⟨by rfl, fun w => by go_simp; try with_reducible rfl⟩) ?_
                        refine wpAny_ready (rs := [11]) (by kernel_rfl) (by simp) ?_
                        refine AllReady.cons rfl (fun K hK => ?_) AllReady.nil
                        go_simp
                        refine hK _ _ ?_
                        clear hK K
                        refine wpAny_ready (rs := [12]) (by kernel_rfl) (by simp) ?_
                        refine AllReady.cons rfl (fun K hK => ?_) AllReady.nil
                        have hq5 := hb5.alloc hb5.size (.cells #[.int .u8 34, .int .u8 40, .int .u8 x, .int .u8 y, .int .u8 41] 5)
                        refine step_append_rd (k := .u8) rfl _ _ 44 rfl w.heap.size 5 i0 1 Tryd.underlying44 hi0 hz0 hz1 hz2 _ zs rfl (World.ownsRow.alloc (show Own8 w.heap.size wr.drew _ zs from ho5) (.cells #[.int .u8 34, .int .u8 40, .int .u8 x, .int .u8 y, .int .u8 41] 5)) _ [34, 40, x, y, 41] rfl (rd_lit _ [34, 40, x, y, 41] 5 (Nat.succ_pos _) (by unfold maxLen; simp only [List.length_cons, List.length_nil]; omega)) (by unfold maxLen; simp only [List.length_cons, List.length_nil]; omega) (by simp only [List.length_cons, List.length_nil]; omega) (by exact hq5.size) ?_
                        intro v6 w6 ho6 hg6
                        have hb6 : Below w.heap.size w w6 := below_grown (show Below w.heap.size w (World.drew _) from below_drewN hq5 1) hg6 (fun k hk => (World.ownsRow.lt ho5 k hk).1)
                        refine hK _ _ ?_
                        clear hK K
                        refine wpAny_take (i := 13) (v := _) rfl (by kernel_rfl) (by kernel_rfl) (by kernel_rfl) (fun _ _ _ h => h) (Or.inl ⟨by rfl, fun w => by go_simp; try with_reducible rfl⟩) ?_
                        refine wpAny_done (by kernel_rfl) ?_ _
                        go_wp2_with fail
                        go_roundw
                        case rel => exact ⟨j + 1, zs ++ [34, 40, x, y, 41], by omega, by go_num, hzs2, by simp; omega, ho6, hb6⟩
                        case measure => simp [intOf]; omega
                  · have he : esc c = [c] := by unfold esc; rw [if_neg hesc]
                    rw [he] at hzs2
                    have n1 : (c == 34) = false := by simp; omega
                    have n2 : ¬ c < 32 := by omega
                    have n3 : ¬ 126 < c := by omega
                    clear he hesc
                    go_wp2_with ((at_builtin; refine wpList_append_rd (k := .u8) rfl _ _ 44 rfl w.heap.size 5 i0 1 Tryd.underlying44 hi0 hz0 hz1 hz2 _ zs rfl (World.ownsRow.alloc ho5 (.cells #[.int .u8 c] 5)) _ [c] rfl (rd_lit _ [c] 5 (Nat.succ_pos _) (by unfold maxLen; simp only [List.length_cons, List.length_nil]; omega)) (by unfold maxLen; simp only [List.length_cons, List.length_nil, List.length_append]; omega) (by simp only [List.length_cons, List.length_nil, List.length_append]; omega) (hb5.alloc hb5.size (.cells #[.int .u8 c] 5)).size ?_; intro v6 w6 ho6 hg6))
                    have hb6 := below_grown (hb5.alloc hb5.size (.cells #[.int .u8 c] 5)) hg6 (fun k hk => (World.ownsRow.lt ho5 k hk).1)
                    go_roundw
                    case rel => exact ⟨j + 1, zs ++ [c], by omega, by go_num, hzs2, by simp; omega, ho6, hb6⟩
                    case measure => simp [intOf]; omega
                · have hF3 : Hid (zs ++ [34] = (shwT ((xs.map pr).take (i + 1))).drop 1) := by
                    show _ = _
                    rw [hF2.out, hzs.out, List.take_of_length_le (by rw [L_len]; omega)]
                    simp
                  go_wp2_with ((at_builtin; refine wpList_append_rd (k := .u8) rfl _ _ 44 rfl w.heap.size 5 i0 1 Tryd.underlying44 hi0 hz0 hz1 hz2 _ zs rfl (World.ownsRow.alloc ho5 (.cells #[.int .u8 34] 5)) _ [34] rfl (rd_lit _ [34] 5 (Nat.succ_pos _) (by unfold maxLen; simp only [List.length_cons, List.length_nil]; omega)) (by unfold maxLen; simp only [List.length_cons, List.length_nil, List.length_append]; omega) (by simp only [List.length_cons, List.length_nil, List.length_append]; omega) (hb5.alloc hb5.size (.cells #[.int .u8 34] 5)).size ?_; intro v6 w6 ho6 hg6))
                  have hb6 := below_grown (hb5.alloc hb5.size (.cells #[.int .u8 34] 5)) hg6 (fun k hk => (World.ownsRow.lt ho5 k hk).1)
                  go_roundw
                  case rel => exact ⟨i + 1, zs ++ [34], by omega, by go_num, hF3, hall2, ho6, hb6⟩
                  case measure => simp [intOf]; omega
            · skip
              go_upto_region 14 with ((at_builtin; refine wpList_append_rd (k := .u8) rfl _ _ 44 rfl w.heap.size 5 i0 1 Tryd.underlying44 hi0 hz0 hz1 hz2 _ Y rfl (World.ownsRow.alloc ho2 (.cells #[.int .u8 46] 5)) _ [46] rfl (rd_lit _ [46] 5 (Nat.succ_pos _) (by unfold maxLen; simp only [List.length_cons, List.length_nil]; omega)) (by unfold maxLen; simp only [List.length_cons, List.length_nil, List.length_append]; omega) (by simp only [List.length_cons, List.length_nil, List.length_append]; omega) (hb2.alloc hb2.size (.cells #[.int .u8 46] 5)).size ?_; intro v3 w3 ho3 hg3))
              have hb3 := below_grown (hb2.alloc hb2.size (.cells #[.int .u8 46] 5)) hg3 (fun k hk => (World.ownsRow.lt ho2 k hk).1)
              obtain ⟨Z, hZ⟩ : ∃ Z, Y ++ [46] = Z := ⟨_, rfl⟩
              rw [hZ] at ho3
              have hZl : (Z.length : Int) = Y.length + 1 := by rw [← hZ]; simp
              have hF2 : Hid ((shwT ((xs.map pr).take (i + 1))).drop 1 = (Z ++ [34, 32]) ++ ((L T).flatMap esc ++ [34])) := by show _ = _; rw [hF.out, ← hZ]; simp [tokT]
              clear hF hZ
              go_upto_region 15 with ((at_builtin; refine wpList_append_rd (k := .u8) rfl _ _ 44 rfl w.heap.size 5 i0 1 Tryd.underlying44 hi0 hz0 hz1 hz2 _ Z rfl (World.ownsRow.alloc ho3 (.cells #[.int .u8 34, .int .u8 32] 5)) _ [34, 32] rfl (rd_lit _ [34, 32] 5 (Nat.succ_pos _) (by unfold maxLen; simp only [List.length_cons, List.length_nil]; omega)) (by unfold maxLen; simp only [List.length_cons, List.length_nil, List.length_append]; omega) (by simp only [List.length_cons, List.length_nil, List.length_append]; omega) (hb3.alloc hb3.size (.cells #[.int .u8 34, .int .u8 32] 5)).size ?_; intro v4 w4 ho4 hg4))
              have hb4 := below_grown (hb3.alloc hb3.size (.cells #[.int .u8 34, .int .u8 32] 5)) hg4 (fun k hk => (World.ownsRow.lt ho3 k hk).1)
              obtain ⟨Q, hQ⟩ : ∃ Q, Z ++ [34, 32] = Q := ⟨_, rfl⟩
              have hQl : (Q.length : Int) = Z.length + 2 := by rw [← hQ]; simp
              rw [hQ] at ho4 hF2
              clear hQ
              go_wp2_with fail
              go_loopw [4, 7] (fun U K wx => ∃ (j : Nat) (zs : List Int), (j : Int) ≤ T.size ∧ K = .int .i64 j ∧ Hid (zs = Q ++ ((L T).take j).flatMap esc) ∧ (zs.length : Int) ≤ Q.length + 5 * j ∧ Own8 w.heap.size wx U zs ∧ Below w.heap.size w wx) (fun _ K _ => (T.size - intOf K).toNat)
              case atStart => exact ⟨0, Q, by omega, rfl, hid (by simp), by omega, ho4, hb4⟩
              case round =>
                obtain ⟨j, zs, hj, rfl, hzs, hzl, ho5, hb5⟩ := hrel
                by_cases hjt : (j : Int) < T.size
                · obtain ⟨c, hr, q0, q1, hc, _⟩ := str_byte T j (by omega) (by unfold maxLen; omega)
                  have hzs2 : Hid (zs ++ esc c = Q ++ ((L T).take (j + 1)).flatMap esc) := by
                    show _ = _
                    rw [List.take_succ_eq_append_getElem (by rw [L_len]; omega), hc, List.flatMap_append, hzs.out]
                    simp
                  clear hc
                  by_cases hesc : c = 34 ∨ c < 32 ∨ 126 < c
                  · have he : esc c = [34, 40, hxd (c / 16), hxd (c % 16), 41] := by unfold esc; rw [if_pos hesc]
                    rw [he] at hzs2
                    obtain ⟨q, hqq⟩ : ∃ q, c / 16 = q := ⟨_, rfl⟩
                    obtain ⟨m, hmm⟩ : ∃ m, c % 16 = m := ⟨_, rfl⟩
                    have hq1 : c.tdiv 16 = q := by rw [Int.tdiv_eq_ediv_of_nonneg q0, hqq]
                    have hm1 : c.tmod 16 = m := by rw [Int.tmod_eq_emod_of_nonneg q0, hmm]
                    have hq2 : IntKind.u8.wrap q = q := by rw [IntKind.wrap_u8]; omega
                    have hm2 : IntKind.u8.wrap m = m := by rw [IntKind.wrap_u8]; omega
                    have hx := run_hex q (by omega) (by omega)
                    have hy := run_hex m (by omega) (by omega)
                    rw [hqq, hmm] at hzs2
                    obtain ⟨x, hxx⟩ : ∃ x, hxd q = x := ⟨_, rfl⟩
                    obtain ⟨y, hyy⟩ : ∃ y, hxd m = y := ⟨_, rfl⟩
                    simp only [hxx, hyy] at hx hy hzs2
                    clear he hxx hyy hqq hmm
                    by_cases h34 : c = 34
                    · have n1 : (c == 34) = true := by simp [h34]
                      clear h34 hesc
                      go_wp2_with fail
                      refine wp_region_any (by kernel_rfl) ?_
                      refine wpAny_take (i := 0) (v := _) rfl (by kernel_rfl) (by kernel_rfl) (by kernel_rfl) (fun _ _ _ h => h) (Or.inl ⟨by rfl, fun w => by go_simp; try with_reducible rfl⟩) ?_
                      refine wpAny_take (i := 1) (v := _) rfl (by kernel_rfl) (by kernel_rfl) (by kernel_rfl) (fun _ _ _ h => h) (Or.inl ⟨by rfl, fun w => by go_simp; try with_reducible rfl⟩) ?_
                      refine wpAny_take (i := 2) (v := _) rfl (by kernel_rfl) (by kernel_rfl) (by kernel_rfl) (fun _ _ _ h => h) (Or.inl ⟨by rfl, fun w => by go_simp; try with_reducible rfl⟩) ?_
                      refine wpAny_take (i := 3) (v := _) rfl (by kernel_rfl) (by kernel_rfl) (by kernel_rfl) (fun _ _ _ h => h) (Or.inl ⟨by rfl, fun w => by go_simp; try with_reducible rfl⟩) ?_
                      refine wpAny_take (i := 4) (v := _) rfl (by kernel_rfl) (by kernel_rfl) (by kernel_rfl) (fun _ _ _ h => h) (Or.inl ⟨by rfl, fun w => by go_simp; try with_reducible rfl⟩) ?_
                      refine wpAny_take (i := 5) (v := _) rfl (by kernel_rfl) (by kernel_rfl) (by kernel_rfl) (fun _ _ _ h => h) (Or.inl ⟨by rfl, fun w => by go_simp; try with_reducible rfl⟩) ?_
                      refine wpAny_take (i := 6) (v := _) rfl (by kernel_rfl) (by kernel_rfl) (by kernel_rfl) (fun _ _ _ h => h) (Or.inl ⟨by rfl, fun w => by go_simp; try with_reducible rfl⟩) ?_
                      refine wpAny_take (i := 7) (v := _) rfl (by kernel_rfl) (by kernel_rfl) (by kernel_rfl) (fun _ _ _ h => h) (Or.inl ⟨by rfl, fun w => by go_simp; try with_reducible rfl⟩) ?_
                      refine wpAny_take (i := 8) (v := _) rfl (by kernel_rfl) (by kernel_rfl) (by kernel_rfl) (fun _ _ _ h => h) (Or.inl ⟨by rfl, fun w => by go_simp; try with_reducible rfl⟩) ?_
                      refine wpAny_take (i := 9) (v := _) rfl (by kernel_rfl) (by kernel_rfl) (by kernel_rfl) (fun _ _ _ h => h) (Or.inl ⟨by rfl, fun w => by go_simp; try with_reducible rfl⟩) ?_
                      refine wpAny_take (i := 10) (v := _) rfl (by kernel_rfl) (by kernel_rfl) (by kernel_rfl) (fun _ _ _ h => h) (Or.inl ⟨by rfl, fun w => by go_simp; try with_reducible rfl⟩) ?_
                      refine wpAny_ready (rs := [11]) (by kernel_rfl) (by simp) ?_
                      refine AllReady.cons rfl (fun K hK => ?_) AllReady.nil
                      go_simp
                      refine hK _ _ ?_
                      clear hK K
                      refine wpAny_ready (rs := [12]) (by kernel_rfl) (by simp) ?_
                      refine AllReady.cons rfl (fun K hK => ?_) AllReady.nil
                      have hq5 := hb5.alloc hb5.size (.cells #[.int .u8 34, .int .u8 40, .int .u8 x, .int .u8 y, .int .u8 41] 5)
                      refine step_append_rd (k := .u8) rfl _ _ 44 rfl w.heap.size 5 i0 1 Tryd.underlying44 hi0 hz0 hz1 hz2 _ zs rfl (World.ownsRow.alloc (show Own8 w.heap.size wr.drew _ zs from ho5) (.cells #[.int .u8 34, .int .u8 40, .int .u8 x, .int .u8 y, .int .u8 41] 5)) _ [34, 40, x, y, 41] rfl (rd_lit _ [34, 40, x, y, 41] 5 (Nat.succ_pos _) (by unfold maxLen; simp only [List.length_cons, List.length_nil]; omega)) (by unfold maxLen; simp only [List.length_cons, List.length_nil]; omega) (by simp only [List.length_cons, List.length_nil]; omega) (by exact hq5.size) ?_
                      intro v6 w6 ho6 hg6
                      have hb6 : Below w.heap.size w w6 := below_grown (show Below w.heap.size w (World.drew _) from below_drewN hq5 1) hg6 (fun k hk => (World.ownsRow.lt ho5 k hk).1)
                      refine hK _ _ ?_
                      clear hK K
                      refine wpAny_take (i := 13) (v := _) rfl (by kernel_rfl) (by kernel_rfl) (by kernel_rfl) (fun _ _ _ h => h) (Or.inl ⟨by rfl, fun w => by go_simp; try with_reducible rfl⟩) ?_
                      refine wpAny_done (by kernel_rfl) ?_ _
                      go_wp2_with fail
                      go_roundw
                      case rel => exact ⟨j + 1, zs ++ [34, 40, x, y, 41], by omega, by go_num, hzs2, by simp; omega, ho6, hb6⟩
                      case measure => simp [intOf]; omega
                    · have n1 : (c == 34) = false := by simp [h34]
                      rcases (show c < 32 ∨ 126 < c by omega) with n2 | n2
                      · clear h34 hesc
                        go_wp2_with fail
                        refine wp_region_any (by kernel_rfl) ?_
                        refine wpAny_take (i := 0) (v := _) rfl (by kernel_rfl) (by kernel_rfl) (by kernel_rfl) (fun _ _ _ h => h) (Or.inl ⟨by rfl, fun w => by go_simp; try with_reducible rfl⟩) ?_
                        refine wpAny_take (i := 1) (v := _) rfl (by kernel_rfl) (by kernel_rfl) (by kernel_rfl) (fun _ _ _ h => h) (Or.inl ⟨by rfl, fun w => by go_simp; try with_reducible rfl⟩) ?_
                        refine wpAny_take (i := 2) (v := _) rfl (by kernel_rfl) (by kernel_rfl) (by kernel_rfl) (fun _ _ _ h => h) (Or.inl ⟨by rfl, fun w => by go_simp; try with_reducible rfl⟩) ?_
                        refine wpAny_take (i := 3) (v := _) rfl (by kernel_rfl) (by kernel_rfl) (by kernel_rfl) (fun _ _ _ h => h) (Or.inl ⟨by rfl, fun w => by go_simp; try with_reducible rfl⟩) ?_
                        refine wpAny_take (i := 4) (v := _) rfl (by kernel_rfl) (by kernel_rfl) (by kernel_rfl) (fun _ _ _ h => h) (Or.inl ⟨by rfl, fun w => by go_simp; try with_reducible rfl⟩) ?_
                        refine wpAny_take (i := 5) (v := _) rfl (by kernel_rfl) (by kernel_rfl) (by kernel_rfl) (fun _ _ _ h => h) (Or.inl ⟨by rfl, fun w => by go_simp; try with_reducible rfl⟩) ?_
                        refine wpAny_take (i := 6) (v := _) rfl (by kernel_rfl) (by kernel_rfl) (by kernel_rfl) (fun _ _ _ h => h) (Or.inl ⟨by rfl, fun w => by go_simp; try with_reducible rfl⟩) ?_
                        refine wpAny_take (i := 7) (v := _) rfl (by kernel_rfl) (by kernel_rfl) (by kernel_rfl) (fun _ _ _ h => h) (Or.inl ⟨by rfl, fun w => by go_simp; try with_reducible rfl⟩) ?_
                        refine wpAny_take (i := 8) (v := _) rfl (by kernel_rfl) (by kernel_rfl) (by kernel_rfl) (fun _ _ _ h => h) (Or.inl ⟨by rfl, fun w => by go_simp; try with_reducible rfl⟩) ?_
                        refine wpAny_take (i := 9) (v := _) rfl (by kernel_rfl) (by kernel_rfl) (by kernel_rfl) (fun _ _ _ h => h) (Or.inl ⟨by rfl, fun w => by go_simp; try with_reducible rfl⟩) ?_
                        refine wpAny_take (i := 10) (v := _) rfl (by kernel_rfl) (by kernel_rfl) (by kernel_rfl) (fun _ _ _ h => h) (Or.inl ⟨by rfl, fun w => by go_simp; try with_reducible rfl⟩) ?_
                        refine wpAny_ready (rs := [11]) (by kernel_rfl) (by simp) ?_
                        refine AllReady.cons rfl (fun K hK => ?_) AllReady.nil
                        go_simp
                        refine hK _ _ ?_
                        clear hK K
                        refine wpAny_ready (rs := [12]) (by kernel_rfl) (by simp) ?_
                        refine AllReady.cons rfl (fun K hK => ?_) AllReady.nil
                        have hq5 := hb5.alloc hb5.size (.cells #[.int .u8 34, .int .u8 40, .int .u8 x, .int .u8 y, .int .u8 41] 5)
                        refine step_append_rd (k := .u8) rfl _ _ 44 rfl w.heap.size 5 i0 1 Tryd.underlying44 hi0 hz0 hz1 hz2 _ zs rfl (World.ownsRow.alloc (show Own8 w.heap.size wr.drew _ zs from ho5) (.cells #[.int .u8 34, .int .u8 40, .int .u8 x, .int .u8 y, .int .u8 41] 5)) _ [34, 40, x, y, 41] rfl (rd_lit _ [34, 40, x, y, 41] 5 (Nat.succ_pos _) (by unfold maxLen; simp only [List.length_cons, List.length_nil]; omega)) (by unfold maxLen; simp only [List.length_cons, List.length_nil]; omega) (by simp only [List.length_cons, List.length_nil]; omega) (by exact hq5.size) ?_
                        intro v6 w6 ho6 hg6
                        have hb6 : Below w.heap.size w w6 := below_grown (show Below w.heap.size w (World.drew _) from below_drewN hq5 1) hg6 (fun k hk => (World.ownsRow.lt ho5 k hk).1)
                        refine hK _ _ ?_
                        clear hK K
                        refine wpAny_take (i := 13) (v := _) rfl (by kernel_rfl) (by kernel_rfl) (by kernel_rfl) (fun _ _ _ h => h) (Or.inl ⟨by rfl, fun w => by go_simp; try with_reducible rfl⟩) ?_
                        refine wpAny_done (by kernel_rfl) ?_ _
                        go_wp2_with fail
                        go_roundw
                        case rel => exact ⟨j + 1, zs ++ [34, 40, x, y, 41], by omega, by go_num, hzs2, by simp; omega, ho6, hb6⟩
                        case measure => simp [intOf]; omega
                      · clear h34 hesc
                        have n3 : ¬ c < 32 := by omega
                        go_wp2_with fail
                        refine wp_region_any (by kernel_rfl) ?_
                        refine wpAny_take (i := 0) (v := _) rfl (by kernel_rfl) (by kernel_rfl) (by kernel_rfl) (fun _ _ _ h => h) (Or.inl ⟨by rfl, fun w => by go_simp; try with_reducible rfl⟩) ?_
                        refine wpAny_take (i := 1) (v := _) rfl (by kernel_rfl) (by kernel_rfl) (by kernel_rfl) (fun _ _ _ h => h) (Or.inl ⟨by rfl, fun w => by go_simp; try with_reducible rfl⟩) ?_
                        refine wpAny_take (i := 2) (v := _) rfl (by kernel_rfl) (by kernel_rfl) (by kernel_rfl) (fun _ _ _ h => h) (Or.inl ⟨by rfl, fun w => by go_simp; try with_reducible rfl⟩) ?_
                        refine wpAny_take (i := 3) (v := _) rfl (by kernel_rfl) (by kernel_rfl) (by kernel_rfl) (fun _ _ _ h => h) (Or.inl ⟨by rfl, fun w => by go_simp; try with_reducible rfl⟩) ?_
                        refine wpAny_take (i := 4) (v := _) rfl (by kernel_rfl) (by kernel_rfl) (by kernel_rfl) (fun _ _ _ h => h) (Or.inl ⟨by rfl, fun w => by go_simp; try with_reducible rfl⟩) ?_
                        refine wpAny_take (i := 5) (v := _) rfl (by kernel_rfl) (by kernel_rfl) (by kernel_rfl) (fun _ _ _ h => h) (Or.inl ⟨by rfl, fun w => by go_simp; try with_reducible rfl⟩) ?_
                        refine wpAny_take (i := 6) (v := _) rfl (by kernel_rfl) (by kernel_rfl) (by kernel_rfl) (fun _ _ _ h => h) (Or.inl ⟨by rfl, fun w => by go_simp; try with_reducible rfl⟩) ?_
                        refine wpAny_take (i := 7) (v := _) rfl (by kernel_rfl) (by kernel_rfl) (by kernel_rfl) (fun _ _ _ h => h) (Or.inl ⟨by rfl, fun w => by go_simp; try with_reducible rfl⟩) ?_
                        refine wpAny_take (i := 8) (v := _) rfl (by kernel_rfl) (by kernel_rfl) (by kernel_rfl) (fun _ _ _ h => h) (Or.inl ⟨by rfl, fun w => by go_simp; try with_reducible rfl⟩) ?_
                        refine wpAny_take (i := 9) (v := _) rfl (by kernel_rfl) (by kernel_rfl) (by kernel_rfl) (fun _ _ _ h => h) (Or.inl ⟨by rfl, fun w => by go_simp; try with_reducible rfl⟩) ?_
                        refine wpAny_take (i := 10) (v := _) rfl (by kernel_rfl) (by kernel_rfl) (by kernel_rfl) (fun _ _ _ h => h) (Or.inl ⟨by rfl, fun w => by go_simp; try with_reducible rfl⟩) ?_
                        refine wpAny_ready (rs := [11]) (by kernel_rfl) (by simp) ?_
                        refine AllReady.cons rfl (fun K hK => ?_) AllReady.nil
                        go_simp
                        refine hK _ _ ?_
                        clear hK K
                        refine wpAny_ready (rs := [12]) (by kernel_rfl) (by simp) ?_
                        refine AllReady.cons rfl (fun K hK => ?_) AllReady.nil
                        have hq5 := hb5.alloc hb5.size (.cells #[.int .u8 34, .int .u8 40, .int .u8 x, .int .u8 y, .int .u8 41] 5)
                        refine step_append_rd (k := .u8) rfl _ _ 44 rfl w.heap.size 5 i0 1 Tryd.underlying44 hi0 hz0 hz1 hz2 _ zs rfl (World.ownsRow.alloc (show Own8 w.heap.size wr.drew _ zs from ho5) (.cells #[.int .u8 34, .int .u8 40, .int .u8 x, .int .u8 y, .int .u8 41] 5)) _ [34, 40, x, y, 41] rfl (rd_lit _ [34, 40, x, y, 41] 5 (Nat.succ_pos _) (by unfold maxLen; simp only [List.length_cons, List.length_nil]; omega)) (by unfold maxLen; simp only [List.length_cons, List.length_nil]; omega) (by simp only [List.length_cons, List.length_nil]; omega) (by exact hq5.size) ?_
                        intro v6 w6 ho6 hg6
                        have hb6 : Below w.heap.size w w6 := below_grown (show Below w.heap.size w (World.drew _) from below_drewN hq5 1) hg6 (fun k hk => (World.ownsRow.lt ho5 k hk).1)
                        refine hK _ _ ?_
                        clear hK K
                        refine wpAny_take (i := 13) (v := _) rfl (by kernel_rfl) (by kernel_rfl) (by kernel_rfl) (fun _ _ _ h => h) (Or.inl ⟨by rfl, fun w => by go_simp; try with_reducible rfl⟩) ?_
                        refine wpAny_done (by kernel_rfl) ?_ _
                        go_wp2_with fail
                        go_roundw
                        case rel => exact ⟨j + 1, zs ++ [34, 40, x, y, 41], by omega, by go_num, hzs2, by simp; omega, ho6, hb6⟩
                        case measure => simp [intOf]; omega
                  · have he : esc c = [c] := by unfold esc; rw [if_neg hesc]
                    rw [he] at hzs2
                    have n1 : (c == 34) = false := by simp; omega
                    have n2 : ¬ c < 32 := by omega
                    have n3 : ¬ 126 < c := by omega
                    clear he hesc
                    go_wp2_with ((at_builtin; refine wpList_append_rd (k := .u8) rfl _ _ 44 rfl w.heap.size 5 i0 1 Tryd.underlying44 hi0 hz0 hz1 hz2 _ zs rfl (World.ownsRow.alloc ho5 (.cells #[.int .u8 c] 5)) _ [c] rfl (rd_lit _ [c] 5 (Nat.succ_pos _) (by unfold maxLen; simp only [List.length_cons, List.length_nil]; omega)) (by unfold maxLen; simp only [List.length_cons, List.length_nil, List.length_append]; omega) (by simp only [List.length_cons, List.length_nil, List.length_append]; omega) (hb5.alloc hb5.size (.cells #[.int .u8 c] 5)).size ?_; intro v6 w6 ho6 hg6))
                    have hb6 := below_grown (hb5.alloc hb5.size (.cells #[.int .u8 c] 5)) hg6 (fun k hk => (World.ownsRow.lt ho5 k hk).1)
                    go_roundw
                    case rel => exact ⟨j + 1, zs ++ [c], by omega, by go_num, hzs2, by simp; omega, ho6, hb6⟩
                    case measure => simp [intOf]; omega
                · have hF3 : Hid (zs ++ [34] = (shwT ((xs.map pr).take (i + 1))).drop 1) := by
                    show _ = _
                    rw [hF2.out, hzs.out, List.take_of_length_le (by rw [L_len]; omega)]
                    simp
                  go_wp2_with ((at_builtin; refine wpList_append_rd (k := .u8) rfl _ _ 44 rfl w.heap.size 5 i0 1 Tryd.underlying44 hi0 hz0 hz1 hz2 _ zs rfl (World.ownsRow.alloc ho5 (.cells #[.int .u8 34] 5)) _ [34] rfl (rd_lit _ [34] 5 (Nat.succ_pos _) (by unfold maxLen; simp only [List.length_cons, List.length_nil]; omega)) (by unfold maxLen; simp only [List.length_cons, List.length_nil, List.length_append]; omega) (by simp only [List.length_cons, List.length_nil, List.length_append]; omega) (hb5.alloc hb5.size (.cells #[.int .u8 34] 5)).size ?_; intro v6 w6 ho6 hg6))
                  have hb6 := below_grown (hb5.alloc hb5.size (.cells #[.int .u8 34] 5)) hg6 (fun k hk => (World.ownsRow.lt ho5 k hk).1)
                  go_roundw
                  case rel => exact ⟨i + 1, zs ++ [34], by omega, by go_num, hF3, hall2, ho6, hb6⟩
                  case measure => simp [intOf]; omega
        · have hip : (0 : Int) < i := by omega
          go_upto_region 9 with (first | (go_at_call 24; refine cg.mono ?_; rintro e w1 ⟨rfl, b1⟩; have ho1 := own_below ho b1; have hb1 := below_trans hb b1; have m0 := below_cell hb1 a0; have m1 := below_cell hb1 a1) | (at_builtin; refine wpList_append_rd (k := .u8) rfl _ _ 44 rfl w.heap.size 5 i0 1 Tryd.underlying44 hi0 hz0 hz1 hz2 _ ys rfl (World.ownsRow.alloc ho1 (.cells #[.int .u8 32] 5)) _ [32] rfl (rd_lit _ [32] 5 (Nat.succ_pos _) (by unfold maxLen; simp only [List.length_cons, List.length_nil]; omega)) (by unfold maxLen; simp only [List.length_cons, List.length_nil, List.length_append]; omega) (by simp only [List.length_cons, List.length_nil, List.length_append]; omega) (hb1.alloc hb1.size (.cells #[.int .u8 32] 5)).size ?_; intro v2 w2 ho2 hg2))
          have hb2 := below_grown (hb1.alloc hb1.size (.cells #[.int .u8 32] 5)) hg2 (fun k hk => (World.ownsRow.lt ho1 k hk).1)
          obtain ⟨Y, hY⟩ : ∃ Y, ys ++ [32] = Y := ⟨_, rfl⟩
          rw [hY] at ho2
          have hF : Hid ((shwT ((xs.map pr).take (i + 1))).drop 1 = Y ++ tokT k (L T)) := by
            show _ = _
            rw [List.take_succ_eq_append_getElem (by simpa using hil), hgm]
            rw [shwD_snoc _ _ (by intro h; have := congrArg List.length h; rw [List.length_take, List.length_nil, List.length_map] at this; omega), ← hys.out, hY]
          have hYl : (Y.length : Int) ≤ ys.length + 1 := by rw [← hY]; simp
          have m0' := below_cell hb2 a0
          have m1' := below_cell hb2 a1
          clear hY
          by_cases k1 : k = 1
          · subst k1
            have hF2 : Hid (Y ++ LB T = (shwT ((xs.map pr).take (i + 1))).drop 1) := by show _ = _; rw [hF.out]; simp [tokT, L_LB]
            clear hF
            go_wp2_with (at_builtin; refine wpList_append_rds rfl _ _ 44 9 rfl w.heap.size 5 i0 Tryd.underlying44 Tryd.underlying9 hi0 hz0 hz1 hz2 _ Y rfl ho2 T rfl (by unfold maxLen; omega) (by omega) hb2.size ?_; intro v3 w3 ho3 hg3)
            go_roundw
            case rel => exact ⟨i + 1, Y ++ LB T, by omega, by go_num, hF2, hall2, ho3, below_grown hb2 hg3 (fun k hk => (World.ownsRow.lt ho2 k hk).1)⟩
            case measure => simp [intOf]; omega
          · have hk1 : (k == 1) = false := by simp [k1]
            have hk23 : k = 2 ∨ k = 3 := hk123 k1
            rcases hk23 with rfl | rfl
            · skip
              go_upto_region 14 with (fail)
              have hb3 := hb2
              have ho3 := ho2
              obtain ⟨w3, hw3⟩ : ∃ w3, w3 = w2 := ⟨_, rfl⟩
              subst hw3
              obtain ⟨Z, hZ⟩ : ∃ Z, Y = Z := ⟨_, rfl⟩
              rw [hZ] at ho3
              have hZl : (Z.length : Int) ≤ Y.length + 1 := by rw [← hZ]; omega
              have hF2 : Hid ((shwT ((xs.map pr).take (i + 1))).drop 1 = (Z ++ [34, 32]) ++ ((L T).flatMap esc ++ [34])) := by show _ = _; rw [hF.out, ← hZ]; simp [tokT]
              clear hF hZ
              go_upto_region 15 with ((at_builtin; refine wpList_append_rd (k := .u8) rfl _ _ 44 rfl w.heap.size 5 i0 1 Tryd.underlying44 hi0 hz0 hz1 hz2 _ Z rfl (World.ownsRow.alloc ho3 (.cells #[.int .u8 34, .int .u8 32] 5)) _ [34, 32] rfl (rd_lit _ [34, 32] 5 (Nat.succ_pos _) (by unfold maxLen; simp only [List.length_cons, List.length_nil]; omega)) (by unfold maxLen; simp only [List.length_cons, List.length_nil, List.length_append]; omega) (by simp only [List.length_cons, List.length_nil, List.length_append]; omega) (hb3.alloc hb3.size (.cells #[.int .u8 34, .int .u8 32] 5)).size ?_; intro v4 w4 ho4 hg4))
              have hb4 := below_grown (hb3.alloc hb3.size (.cells #[.int .u8 34, .int .u8 32] 5)) hg4 (fun k hk => (World.ownsRow.lt ho3 k hk).1)
              obtain ⟨Q, hQ⟩ : ∃ Q, Z ++ [34, 32] = Q := ⟨_, rfl⟩
              have hQl : (Q.length : Int) = Z.length + 2 := by rw [← hQ]; simp
              rw [hQ] at ho4 hF2
              clear hQ
              go_wp2_with fail
              go_loopw [4, 7] (fun U K wx => ∃ (j : Nat) (zs : List Int), (j : Int) ≤ T.size ∧ K = .int .i64 j ∧ Hid (zs = Q ++ ((L T).take j).flatMap esc) ∧ (zs.length : Int) ≤ Q.length + 5 * j ∧ Own8 w.heap.size wx U zs ∧ Below w.heap.size w wx) (fun _ K _ => (T.size - intOf K).toNat)
              case atStart => exact ⟨0, Q, by omega, rfl, hid (by simp), by omega, ho4, hb4⟩
              case round =>
                obtain ⟨j, zs, hj, rfl, hzs, hzl, ho5, hb5⟩ := hrel
                by_cases hjt : (j : Int) < T.size
                · obtain ⟨c, hr, q0, q1, hc, _⟩ := str_byte T j (by omega) (by unfold maxLen; omega)
                  have hzs2 : Hid (zs ++ esc c = Q ++ ((L T).take (j + 1)).flatMap esc) := by
                    show _ = _
                    rw [List.take_succ_eq_append_getElem (by rw [L_len]; omega), hc, List.flatMap_append, hzs.out]
                    simp
                  clear hc
                  by_cases hesc : c = 34 ∨ c < 32 ∨ 126 < c
                  · have he : esc c = [34, 40, hxd (c / 16), hxd (c % 16), 41] := by unfold esc; rw [if_pos hesc]
                    rw [he] at hzs2
                    obtain ⟨q, hqq⟩ : ∃ q, c / 16 = q := ⟨_, rfl⟩
                    obtain ⟨m, hmm⟩ : ∃ m, c % 16 = m := ⟨_, rfl⟩
                    have hq1 : c.tdiv 16 = q := by rw [Int.tdiv_eq_ediv_of_nonneg q0, hqq]
                    have hm1 : c.tmod 16 = m := by rw [Int.tmod_eq_emod_of_nonneg q0, hmm]
                    have hq2 : IntKind.u8.wrap q = q := by rw [IntKind.wrap_u8]; omega
                    have hm2 : IntKind.u8.wrap m = m := by rw [IntKind.wrap_u8]; omega
                    have hx := run_hex q (by omega) (by omega)
                    have hy := run_hex m (by omega) (by omega)
                    rw [hqq, hmm] at hzs2
                    obtain ⟨x, hxx⟩ : ∃ x, hxd q = x := ⟨_, rfl⟩
                    obtain ⟨y, hyy⟩ : ∃ y, hxd m = y := ⟨_, rfl⟩
                    simp only [hxx, hyy] at hx hy hzs2
                    clear he hxx hyy hqq hmm
                    by_cases h34 : c = 34
                    · have n1 : (c == 34) = true := by simp [h34]
                      clear h34 hesc
                      go_wp2_with fail
                      refine wp_region_any (by kernel_rfl) ?_
                      refine wpAny_take (i := 0) (v := _) rfl (by kernel_rfl) (by kernel_rfl) (by kernel_rfl) (fun _ _ _ h => h) (Or.inl ⟨by rfl, fun w => by go_simp; try with_reducible rfl⟩) ?_
                      refine wpAny_take (i := 1) (v := _) rfl (by kernel_rfl) (by kernel_rfl) (by kernel_rfl) (fun _ _ _ h => h) (Or.inl ⟨by rfl, fun w => by go_simp; try with_reducible rfl⟩) ?_
                      refine wpAny_take (i := 2) (v := _) rfl (by kernel_rfl) (by kernel_rfl) (by kernel_rfl) (fun _ _ _ h => h) (Or.inl ⟨by rfl, fun w => by go_simp; try with_reducible rfl⟩) ?_
                      refine wpAny_take (i := 3) (v := _) rfl (by kernel_rfl) (by kernel_rfl) (by kernel_rfl) (fun _ _ _ h => h) (Or.inl ⟨by rfl, fun w => by go_simp; try with_reducible rfl⟩) ?_
                      refine wpAny_take (i := 4) (v := _) rfl (by kernel_rfl) (by kernel_rfl) (by kernel_rfl) (fun _ _ _ h => h) (Or.inl ⟨by rfl, fun w => by go_simp; try with_reducible rfl⟩) ?_
                      refine wpAny_take (i := 5) (v := _) rfl (by kernel_rfl) (by kernel_rfl) (by kernel_rfl) (fun _ _ _ h => h) (Or.inl ⟨by rfl, fun w => by go_simp; try with_reducible rfl⟩) ?_
                      refine wpAny_take (i := 6) (v := _) rfl (by kernel_rfl) (by kernel_rfl) (by kernel_rfl) (fun _ _ _ h => h) (Or.inl ⟨by rfl, fun w => by go_simp; try with_reducible rfl⟩) ?_
                      refine wpAny_take (i := 7) (v := _) rfl (by kernel_rfl) (by kernel_rfl) (by kernel_rfl) (fun _ _ _ h => h) (Or.inl ⟨by rfl, fun w => by go_simp; try with_reducible rfl⟩) ?_
                      refine wpAny_take (i := 8) (v := _) rfl (by kernel_rfl) (by kernel_rfl) (by kernel_rfl) (fun _ _ _ h => h) (Or.inl ⟨by rfl, fun w => by go_simp; try with_reducible rfl⟩) ?_
                      refine wpAny_take (i := 9) (v := _) rfl (by kernel_rfl) (by kernel_rfl) (by kernel_rfl) (fun _ _ _ h => h) (Or.inl ⟨by rfl, fun w => by go_simp; try with_reducible rfl⟩) ?_
                      refine wpAny_take (i := 10) (v := _) rfl (by kernel_rfl) (by kernel_rfl) (by kernel_rfl) (fun _ _ _ h => h) (Or.inl ⟨by rfl, fun w => by go_simp; try with_reducible rfl⟩) ?_
                      refine wpAny_ready (rs := [11]) (by kernel_rfl) (by simp) ?_
                      refine AllReady.cons rfl (fun K hK => ?_) AllReady.nil
                      go_simp
                      refine hK _ _ ?_
                      clear hK K
                      refine wpAny_ready (rs := [12]) (by kernel_rfl) (by simp) ?_
                      refine AllReady.cons rfl (fun K hK => ?_) AllReady.nil
                      have hq5 := hb5.alloc hb5.size (.cells #[.int .u8 34, .int .u8 40, .int .u8 x, .int .u8 y, .int .u8 41] 5)
                      refine step_append_rd (k := .u8) rfl _ _ 44 rfl w.heap.size 5 i0 1 Tryd.underlying44 hi0 hz0 hz1 hz2 _ zs rfl (World.ownsRow.alloc (show Own8 w.heap.size wr.drew _ zs from ho5) (.cells #[.int .u8 34, .int .u8 40, .int .u8 x, .int .u8 y, .int .u8 41] 5)) _ [34, 40, x, y, 41] rfl (rd_lit _ [34, 40, x, y, 41] 5 (Nat.succ_pos _) (by unfold maxLen; simp only [List.length_cons, List.length_nil]; omega)) (by unfold maxLen; simp only [List.length_cons, List.length_nil]; omega) (by simp only [List.length_cons, List.length_nil]; omega) (by exact hq5.size) ?_
                      intro v6 w6 ho6 hg6
                      have hb6 : Below w.heap.size w w6 := below_grown (show Below w.heap.size w (World.drew _) from below_drewN hq5 1) hg6 (fun k hk => (World.ownsRow.lt ho5 k hk).1)
                      refine hK _ _ ?_
                      clear hK K
                      refine wpAny_take (i := 13) (v := _) rfl (by kernel_rfl) (by kernel_rfl) (by kernel_rfl) (fun _ _ _ h => h) (Or.inl ⟨by rfl, fun w => by go_simp; try with_reducible rfl⟩) ?_
                      refine wpAny_done (by kernel_rfl) ?_ _
                      go_wp2_with fail
                      go_roundw
                      case rel => exact ⟨j + 1, zs ++ [34, 40, x, y, 41], by omega, by go_num, hzs2, by simp; omega, ho6, hb6⟩
                      case measure => simp [intOf]; omega
                    · have n1 : (c == 34) = false := by simp [h34]
                      rcases (show c < 32 ∨ 126 < c by omega) with n2 | n2
                      · clear h34 hesc
                        go_wp2_with fail
                        refine wp_region_any (by kernel_rfl) ?_
                        refine wpAny_take (i := 0) (v := _) rfl (by kernel_rfl) (by kernel_rfl) (by kernel_rfl) (fun _ _ _ h => h) (Or.inl ⟨by rfl, fun w => by go_simp; try with_reducible rfl⟩) ?_
                        refine wpAny_take (i := 1) (v := _) rfl (by kernel_rfl) (by kernel_rfl) (by kernel_rfl) (fun _ _ _ h => h) (Or.inl ⟨by rfl, fun w => by go_simp; try with_reducible rfl⟩) ?_
                        refine wpAny_take (i := 2) (v := _) rfl (by kernel_rfl) (by kernel_rfl) (by kernel_rfl) (fun _ _ _ h => h) (Or.inl ⟨by rfl, fun w => by go_simp; try with_reducible rfl⟩) ?_
                        refine wpAny_take (i := 3) (v := _) rfl (by kernel_rfl) (by kernel_rfl) (by kernel_rfl) (fun _ _ _ h => h) (Or.inl ⟨by rfl, fun w => by go_simp; try with_reducible rfl⟩) ?_
                        refine wpAny_take (i := 4) (v := _) rfl (by kernel_rfl) (by kernel_rfl) (by kernel_rfl) (fun _ _ _ h => h) (Or.inl ⟨by rfl, fun w => by go_simp; try with_reducible rfl⟩) ?_
                        refine wpAny_take (i := 5) (v := _) rfl (by kernel_rfl) (by kernel_rfl) (by kernel_rfl) (fun _ _ _ h => h) (Or.inl ⟨by rfl, fun w => by go_simp; try with_reducible rfl⟩) ?_
                        refine wpAny_take (i := 6) (v := _) rfl (by kernel_rfl) (by kernel_rfl) (by kernel_rfl) (fun _ _ _ h => h) (Or.inl ⟨by rfl, fun w => by go_simp; try with_reducible rfl⟩) ?_
                        refine wpAny_take (i := 7) (v := _) rfl (by kernel_rfl) (by kernel_rfl) (by kernel_rfl) (fun _ _ _ h => h) (Or.inl ⟨by rfl, fun w => by go_simp; try with_reducible rfl⟩) ?_
                        refine wpAny_take (i := 8) (v := _) rfl (by kernel_rfl) (by kernel_rfl) (by kernel_rfl) (fun _ _ _ h => h) (Or.inl ⟨by rfl, fun w => by go_simp; try with_reducible rfl⟩) ?_
                        refine wpAny_take (i := 9) (v := _) rfl (by kernel_rfl) (by kernel_rfl) (by kernel_rfl) (fun _ _ _ h => h) (Or.inl ⟨by rfl, fun w => by go_simp; try with_reducible rfl⟩) ?_
                        refine wpAny_take (i := 10) (v := _) rfl (by kernel_rfl) (by kernel_rfl) (by kernel_rfl) (fun _ _ _ h => h) (Or.inl ⟨by rfl, fun w => by go_simp; try with_reducible rfl⟩) ?_
                        refine wpAny_ready (rs := [11]) (by kernel_rfl) (by simp) ?_
                        refine AllReady.cons rfl (fun K hK => ?_) AllReady.nil
                        go_simp
                        refine hK _ _ ?_
                        clear hK K
                        refine wpAny_ready (rs := [12]) (by kernel_rfl) (by simp) ?_
                        refine AllReady.cons rfl (fun K hK => ?_) AllReady.nil
                        have hq5 := hb5.alloc hb5.size (.cells #[.int .u8 34, .int .u8 40, .int .u8 x, .int .u8 y, .int .u8 41] 5)
                        refine step_append_rd (k := .u8) rfl _ _ 44 rfl w.heap.size 5 i0 1 Tryd.underlying44 hi0 hz0 hz1 hz2 _ zs rfl (World.ownsRow.alloc (show Own8 w.heap.size wr.drew _ zs from ho5) (.cells #[.int .u8 34, .int .u8 40, .int .u8 x, .int .u8 y, .int .u8 41] 5)) _ [34, 40, x, y, 41] rfl (rd_lit _ [34, 40, x, y, 41] 5 (Nat.succ_pos _) (by unfold maxLen; simp only [List.length_cons, List.length_nil]; omega)) (by unfold maxLen; simp only [List.length_cons, List.length_nil]; omega) (by simp only [List.length_cons, List.length_nil]; omega) (by exact hq5.size) ?_
                        intro v6 w6 ho6 hg6
                        have hb6 : Below w.heap.size w w6 := below_grown (show Below w.heap.size w (World.drew _) from below_drewN hq5 1) hg6 (fun k hk => (World.ownsRow.lt ho5 k hk).1)
                        refine hK _ _ ?_
                        clear hK K
                        refine wpAny_take (i := 13) (v := _) rfl (by kernel_rfl) (by kernel_rfl) (by kernel_rfl) (fun _ _ _ h => h) (Or.inl ⟨by rfl, fun w => by go_simp; try with_reducible rfl⟩) ?_
                        refine wpAny_done (by kernel_rfl) ?_ _
                        go_wp2_with fail
                        go_roundw
                        case rel => exact ⟨j + 1, zs ++ [34, 40, x, y, 41], by omega, by go_num, hzs2, by simp; omega, ho6, hb6⟩
                        case measure => simp [intOf]; omega
                      · clear h34 hesc
                        have n3 : ¬ c < 32 := by omega
                        go_wp2_with fail
                        refine wp_region_any (by kernel_rfl) ?_
                        refine wpAny_take (i := 0) (v := _) rfl (by kernel_rfl) (by kernel_rfl) (by kernel_rfl) (fun _ _ _ h => h) (Or.inl ⟨by rfl, fun w => by go_simp; try with_reducible rfl⟩) ?_
                        refine wpAny_take (i := 1) (v := _) rfl (by kernel_rfl) (by kernel_rfl) (by kernel_rfl) (fun _ _ _ h => h) (Or.inl ⟨by rfl, fun w => by go_simp; try with_reducible rfl⟩) ?_
                        refine wpAny_take (i := 2) (v := _) rfl (by kernel_rfl) (by kernel_rfl) (by kernel_rfl) (fun _ _ _ h => h) (Or.inl ⟨by rfl, fun w => by go_simp; try with_reducible rfl⟩) ?_
                        refine wpAny_take (i := 3) (v := _) rfl (by kernel_rfl) (by kernel_rfl) (by kernel_rfl) (fun _ _ _ h => h) (Or.inl ⟨by rfl, fun w => by go_simp; try with_reducible rfl⟩) ?_
                        refine wpAny_take (i := 4) (v := _) rfl (by kernel_rfl) (by kernel_rfl) (by kernel_rfl) (fun _ _ _ h => h) (Or.inl ⟨by rfl, fun w => by go_simp; try with_reducible rfl⟩) ?_
                        refine wpAny_take (i := 5) (v := _) rfl (by kernel_rfl) (by kernel_rfl) (by kernel_rfl) (fun _ _ _ h => h) (Or.inl ⟨by rfl, fun w => by go_simp; try with_reducible rfl⟩) ?_
                        refine wpAny_take (i := 6) (v := _) rfl (by kernel_rfl) (by kernel_rfl) (by kernel_rfl) (fun _ _ _ h => h) (Or.inl ⟨by rfl, fun w => by go_simp; try with_reducible rfl⟩) ?_
                        refine wpAny_take (i := 7) (v := _) rfl (by kernel_rfl) (by kernel_rfl) (by kernel_rfl) (fun _ _ _ h => h) (Or.inl ⟨by rfl, fun w => by go_simp; try with_reducible rfl⟩) ?_
                        refine wpAny_take (i := 8) (v := _) rfl (by kernel_rfl) (by kernel_rfl) (by kernel_rfl) (fun _ _ _ h => h) (Or.inl ⟨by rfl, fun w => by go_simp; try with_reducible rfl⟩) ?_
                        refine wpAny_take (i := 9) (v := _) rfl (by kernel_rfl) (by kernel_rfl) (by kernel_rfl) (fun _ _ _ h => h) (Or.inl ⟨by rfl, fun w => by go_simp; try with_reducible rfl⟩) ?_
                        refine wpAny_take (i := 10) (v := _) rfl (by kernel_rfl) (by kernel_rfl) (by kernel_rfl) (fun _ _ _ h => h) (Or.inl ⟨by rfl, fun w => by go_simp; try with_reducible rfl⟩) ?_
                        refine wpAny_ready (rs := [11]) (by kernel_rfl) (by simp) ?_
                        refine AllReady.cons rfl (fun K hK => ?_) AllReady.nil
                        go_simp
                        refine hK _ _ ?_
                        clear hK K
                        refine wpAny_ready (rs := [12]) (by kernel_rfl) (by simp) ?_
                        refine AllReady.cons rfl (fun K hK => ?_) AllReady.nil
                        have hq5 := hb5.alloc hb5.size (.cells #[.int .u8 34, .int .u8 40, .int .u8 x, .int .u8 y, .int .u8 41] 5)
                        refine step_append_rd (k := .u8) rfl _ _ 44 rfl w.heap.size 5 i0 1 Tryd.underlying44 hi0 hz0 hz1 hz2 _ zs rfl (World.ownsRow.alloc (show Own8 w.heap.size wr.drew _ zs from ho5) (.cells #[.int .u8 34, .int .u8 40, .int .u8 x, .int .u8 y, .int .u8 41] 5)) _ [34, 40, x, y, 41] rfl (rd_lit _ [34, 40, x, y, 41] 5 (Nat.succ_pos _) (by unfold maxLen; simp only [List.length_cons, List.length_nil]; omega)) (by unfold maxLen; simp only [List.length_cons, List.length_nil]; omega) (by simp only [List.length_cons, List.length_nil]; omega) (by exact hq5.size) ?_
                        intro v6 w6 ho6 hg6
                        have hb6 : Below w.heap.size w w6 := below_grown (show Below w.heap.size w (World.drew _) from below_drewN hq5 1) hg6 (fun k hk => (World.ownsRow.lt ho5 k hk).1)
                        refine hK _ _ ?_
                        clear hK K
                        refine wpAny_take (i := 13) (v := _) rfl (by kernel_rfl) (by kernel_rfl) (by kernel_rfl) (fun _ _ _ h => h) (Or.inl ⟨by rfl, fun w => by go_simp; try with_reducible rfl⟩) ?_
                        refine wpAny_done (by kernel_rfl) ?_ _
                        go_wp2_with fail
                        go_roundw
                        case rel => exact ⟨j + 1, zs ++ [34, 40, x, y, 41], by omega, by go_num, hzs2, by simp; omega, ho6, hb6⟩
                        case measure => simp [intOf]; omega
                  · have he : esc c = [c] := by unfold esc; rw [if_neg hesc]
                    rw [he] at hzs2
                    have n1 : (c == 34) = false := by simp; omega
                    have n2 : ¬ c < 32 := by omega
                    have n3 : ¬ 126 < c := by omega
                    clear he hesc
                    go_wp2_with ((at_builtin; refine wpList_append_rd (k := .u8) rfl _ _ 44 rfl w.heap.size 5 i0 1 Tryd.underlying44 hi0 hz0 hz1 hz2 _ zs rfl (World.ownsRow.alloc ho5 (.cells #[.int .u8 c] 5)) _ [c] rfl (rd_lit _ [c] 5 (Nat.succ_pos _) (by unfold maxLen; simp only [List.length_cons, List.length_nil]; omega)) (by unfold maxLen; simp only [List.length_cons, List.length_nil, List.length_append]; omega) (by simp only [List.length_cons, List.length_nil, List.length_append]; omega) (hb5.alloc hb5.size (.cells #[.int .u8 c] 5)).size ?_; intro v6 w6 ho6 hg6))
                    have hb6 := below_grown (hb5.alloc hb5.size (.cells #[.int .u8 c] 5)) hg6 (fun k hk => (World.ownsRow.lt ho5 k hk).1)
                    go_roundw
                    case rel => exact ⟨j + 1, zs ++ [c], by omega, by go_num, hzs2, by simp; omega, ho6, hb6⟩
                    case measure => simp [intOf]; omega
                · have hF3 : Hid (zs ++ [34] = (shwT ((xs.map pr).take (i + 1))).drop 1) := by
                    show _ = _
                    rw [hF2.out, hzs.out, List.take_of_length_le (by rw [L_len]; omega)]
                    simp
                  go_wp2_with ((at_builtin; refine wpList_append_rd (k := .u8) rfl _ _ 44 rfl w.heap.size 5 i0 1 Tryd.underlying44 hi0 hz0 hz1 hz2 _ zs rfl (World.ownsRow.alloc ho5 (.cells #[.int .u8 34] 5)) _ [34] rfl (rd_lit _ [34] 5 (Nat.succ_pos _) (by unfold maxLen; simp only [List.length_cons, List.length_nil]; omega)) (by unfold maxLen; simp only [List.length_cons, List.length_nil, List.length_append]; omega) (by simp only [List.length_cons, List.length_nil, List.length_append]; omega) (hb5.alloc hb5.size (.cells #[.int .u8 34] 5)).size ?_; intro v6 w6 ho6 hg6))
                  have hb6 := below_grown (hb5.alloc hb5.size (.cells #[.int .u8 34] 5)) hg6 (fun k hk => (World.ownsRow.lt ho5 k hk).1)
                  go_roundw
                  case rel => exact ⟨i + 1, zs ++ [34], by omega, by go_num, hF3, hall2, ho6, hb6⟩
                  case measure => simp [intOf]; omega
            · skip
              go_upto_region 14 with ((at_builtin; refine wpList_append_rd (k := .u8) rfl _ _ 44 rfl w.heap.size 5 i0 1 Tryd.underlying44 hi0 hz0 hz1 hz2 _ Y rfl (World.ownsRow.alloc ho2 (.cells #[.int .u8 46] 5)) _ [46] rfl (rd_lit _ [46] 5 (Nat.succ_pos _) (by unfold maxLen; simp only [List.length_cons, List.length_nil]; omega)) (by unfold maxLen; simp only [List.length_cons, List.length_nil, List.length_append]; omega) (by simp only [List.length_cons, List.length_nil, List.length_append]; omega) (hb2.alloc hb2.size (.cells #[.int .u8 46] 5)).size ?_; intro v3 w3 ho3 hg3))
              have hb3 := below_grown (hb2.alloc hb2.size (.cells #[.int .u8 46] 5)) hg3 (fun k hk => (World.ownsRow.lt ho2 k hk).1)
              obtain ⟨Z, hZ⟩ : ∃ Z, Y ++ [46] = Z := ⟨_, rfl⟩
              rw [hZ] at ho3
              have hZl : (Z.length : Int) = Y.length + 1 := by rw [← hZ]; simp
              have hF2 : Hid ((shwT ((xs.map pr).take (i + 1))).drop 1 = (Z ++ [34, 32]) ++ ((L T).flatMap esc ++ [34])) := by show _ = _; rw [hF.out, ← hZ]; simp [tokT]
              clear hF hZ
              go_upto_region 15 with ((at_builtin; refine wpList_append_rd (k := .u8) rfl _ _ 44 rfl w.heap.size 5 i0 1 Tryd.underlying44 hi0 hz0 hz1 hz2 _ Z rfl (World.ownsRow.alloc ho3 (.cells #[.int .u8 34, .int .u8 32] 5)) _ [34, 32] rfl (rd_lit _ [34, 32] 5 (Nat.succ_pos _) (by unfold maxLen; simp only [List.length_cons, List.length_nil]; omega)) (by unfold maxLen; simp only [List.length_cons, List.length_nil, List.length_append]; omega) (by simp only [List.length_cons, List.length_nil, List.length_append]; omega) (hb3.alloc hb3.size (.cells #[.int .u8 34, .int .u8 32] 5)).size ?_; intro v4 w4 ho4 hg4))
              have hb4 := below_grown (hb3.alloc hb3.size (.cells #[.int .u8 34, .int .u8 32] 5)) hg4 (fun k hk => (World.ownsRow.lt ho3 k hk).1)
              obtain ⟨Q, hQ⟩ : ∃ Q, Z ++ [34, 32] = Q := ⟨_, rfl⟩
              have hQl : (Q.length : Int) = Z.length + 2 := by rw [← hQ]; simp
              rw [hQ] at ho4 hF2
              clear hQ
              go_wp2_with fail
              go_loopw [4, 7] (fun U K wx => ∃ (j : Nat) (zs : List Int), (j : Int) ≤ T.size ∧ K = .int .i64 j ∧ Hid (zs = Q ++ ((L T).take j).flatMap esc) ∧ (zs.length : Int) ≤ Q.length + 5 * j ∧ Own8 w.heap.size wx U zs ∧ Below w.heap.size w wx) (fun _ K _ => (T.size - intOf K).toNat)
              case atStart => exact ⟨0, Q, by omega, rfl, hid (by simp), by omega, ho4, hb4⟩
              case round =>
                obtain ⟨j, zs, hj, rfl, hzs, hzl, ho5, hb5⟩ := hrel
                by_cases hjt : (j : Int) < T.size
                · obtain ⟨c, hr, q0, q1, hc, _⟩ := str_byte T j (by omega) (by unfold maxLen; omega)
                  have hzs2 : Hid (zs ++ esc c = Q ++ ((L T).take (j + 1)).flatMap esc) := by
                    show _ = _
                    rw [List.take_succ_eq_append_getElem (by rw [L_len]; omega), hc, List.flatMap_append, hzs.out]
                    simp
                  clear hc
                  by_cases hesc : c = 34 ∨ c < 32 ∨ 126 < c
                  · have he : esc c = [34, 40, hxd (c / 16), hxd (c % 16), 41] := by unfold esc; rw [if_pos hesc]
                    rw [he] at hzs2
                    obtain ⟨q, hqq⟩ : ∃ q, c / 16 = q := ⟨_, rfl⟩
                    obtain ⟨m, hmm⟩ : ∃ m, c % 16 = m := ⟨_, rfl⟩
                    have hq1 : c.tdiv 16 = q := by rw [Int.tdiv_eq_ediv_of_nonneg q0, hqq]
                    have hm1 : c.tmod 16 = m := by rw [Int.tmod_eq_emod_of_nonneg q0, hmm]
                    have hq2 : IntKind.u8.wrap q = q := by rw [IntKind.wrap_u8]; omega
                    have hm2 : IntKind.u8.wrap m = m := by rw [IntKind.wrap_u8]; omega
                    have hx := run_hex q (by omega) (by omega)
                    have hy := run_hex m (by omega) (by omega)
                    rw [hqq, hmm] at hzs2
                    obtain ⟨x, hxx⟩ : ∃ x, hxd q = x := ⟨_, rfl⟩
                    obtain ⟨y, hyy⟩ : ∃ y, hxd m = y := ⟨_, rfl⟩
                    simp only [hxx, hyy] at hx hy hzs2
                    clear he hxx hyy hqq hmm
                    by_cases h34 : c = 34
                    · have n1 : (c == 34) = true := by simp [h34]
                      clear h34 hesc
                      go_wp2_with fail
                      refine wp_region_any (by kernel_rfl) ?_
                      refine wpAny_take (i := 0) (v := _) rfl (by kernel_rfl) (by kernel_rfl) (by kernel_rfl) (fun _ _ _ h => h) (Or.inl ⟨by rfl, fun w => by go_simp; try with_reducible rfl⟩) ?_
                      refine wpAny_take (i := 1) (v := _) rfl (by kernel_rfl) (by kernel_rfl) (by kernel_rfl) (fun _ _ _ h => h) (Or.inl ⟨by rfl, fun w => by go_simp; try with_reducible rfl⟩) ?_
                      refine wpAny_take (i := 2) (v := _) rfl (by kernel_rfl) (by kernel_rfl) (by kernel_rfl) (fun _ _ _ h => h) (Or.inl ⟨by rfl, fun w => by go_simp; try with_reducible rfl⟩) ?_
                      refine wpAny_take (i := 3) (v := _) rfl (by kernel_rfl) (by kernel_rfl) (by kernel_rfl) (fun _ _ _ h => h) (Or.inl ⟨by rfl, fun w => by go_simp; try with_reducible rfl⟩) ?_
                      refine wpAny_take (i := 4) (v := _) rfl (by kernel_rfl) (by kernel_rfl) (by kernel_rfl) (fun _ _ _ h => h) (Or.inl ⟨by rfl, fun w => by go_simp; try with_reducible rfl⟩) ?_
                      refine wpAny_take (i := 5) (v := _) rfl (by kernel_rfl) (by kernel_rfl) (by kernel_rfl) (fun _ _ _ h => h) (Or.inl ⟨by rfl, fun w => by go_simp; try with_reducible rfl⟩) ?_
                      refine wpAny_take (i := 6) (v := _) rfl (by kernel_rfl) (by kernel_rfl) (by kernel_rfl) (fun _ _ _ h => h) (Or.inl ⟨by rfl, fun w => by go_simp; try with_reducible rfl⟩) ?_
                      refine wpAny_take (i := 7) (v := _) rfl (by kernel_rfl) (by kernel_rfl) (by kernel_rfl) (fun _ _ _ h => h) (Or.inl ⟨by rfl, fun w => by go_simp; try with_reducible rfl⟩) ?_
                      refine wpAny_take (i := 8) (v := _) rfl (by kernel_rfl) (by kernel_rfl) (by kernel_rfl) (fun _ _ _ h => h) (Or.inl ⟨by rfl, fun w => by go_simp; try with_reducible rfl⟩) ?_
                      refine wpAny_take (i := 9) (v := _) rfl (by kernel_rfl) (by kernel_rfl) (by kernel_rfl) (fun _ _ _ h => h) (Or.inl ⟨by rfl, fun w => by go_simp; try with_reducible rfl⟩) ?_
                      refine wpAny_take (i := 10) (v := _) rfl (by kernel_rfl) (by kernel_rfl) (by kernel_rfl) (fun _ _ _ h => h) (Or.inl ⟨by rfl, fun w => by go_simp; try with_reducible rfl⟩) ?_
                      refine wpAny_ready (rs := [11]) (by kernel_rfl) (by simp) ?_
                      refine AllReady.cons rfl (fun K hK => ?_) AllReady.nil
                      go_simp
                      refine hK _ _ ?_
                      clear hK K
                      refine wpAny_ready (rs := [12]) (by kernel_rfl) (by simp) ?_
                      refine AllReady.cons rfl (fun K hK => ?_) AllReady.nil
                      have hq5 := hb5.alloc hb5.size (.cells #[.int .u8 34, .int .u8 40, .int .u8 x, .int .u8 y, .int .u8 41] 5)
                      refine step_append_rd (k := .u8) rfl _ _ 44 rfl w.heap.size 5 i0 1 Tryd.underlying44 hi0 hz0 hz1 hz2 _ zs rfl (World.ownsRow.alloc (show Own8 w.heap.size wr.drew _ zs from ho5) (.cells #[.int .u8 34, .int .u8 40, .int .u8 x, .int .u8 y, .int .u8 41] 5)) _ [34, 40, x, y, 41] rfl (rd_lit _ [34, 40, x, y, 41] 5 (Nat.succ_pos _) (by unfold maxLen; simp only [List.length_cons, List.length_nil]; omega)) (by unfold maxLen; simp only [List.length_cons, List.length_nil]; omega) (by simp only [List.length_cons, List.length_nil]; omega) (by exact hq5.size) ?_
                      intro v6 w6 ho6 hg6
                      have hb6 : Below w.heap.size w w6 := below_grown (show Below w.heap.size w (World.drew _) from below_drewN hq5 1) hg6 (fun k hk => (World.ownsRow.lt ho5 k hk).1)
                      refine hK _ _ ?_
                      clear hK K
                      refine wpAny_take (i := 13) (v := _) rfl (by kernel_rfl) (by kernel_rfl) (by kernel_rfl) (fun _ _ _ h => h) (Or.inl ⟨by rfl, fun w => by go_simp; try with_reducible rfl⟩) ?_
                      refine wpAny_done (by kernel_rfl) ?_ _
                      go_wp2_with fail
                      go_roundw
                      case rel => exact ⟨j + 1, zs ++ [34, 40, x, y, 41], by omega, by go_num, hzs2, by simp; omega, ho6, hb6⟩
                      case measure => simp [intOf]; omega
                    · have n1 : (c == 34) = false := by simp [h34]
                      rcases (show c < 32 ∨ 126 < c by omega) with n2 | n2
                      · clear h34 hesc
                        go_wp2_with fail
                        refine wp_region_any (by kernel_rfl) ?_
                        refine wpAny_take (i := 0) (v := _) rfl (by kernel_rfl) (by kernel_rfl) (by kernel_rfl) (fun _ _ _ h => h) (Or.inl ⟨by rfl, fun w => by go_simp; try with_reducible rfl⟩) ?_
                        refine wpAny_take (i := 1) (v := _) rfl (by kernel_rfl) (by kernel_rfl) (by kernel_rfl) (fun _ _ _ h => h) (Or.inl ⟨by rfl, fun w => by go_simp; try with_reducible rfl⟩) ?_
                        refine wpAny_take (i := 2) (v := _) rfl (by kernel_rfl) (by kernel_rfl) (by kernel_rfl) (fun _ _ _ h => h) (Or.inl ⟨by rfl, fun w => by go_simp; try with_reducible rfl⟩) ?_
                        refine wpAny_take (i := 3) (v := _) rfl (by kernel_rfl) (by kernel_rfl) (by kernel_rfl) (fun _ _ _ h => h) (Or.inl ⟨by rfl, fun w => by go_simp; try with_reducible rfl⟩) ?_
                        refine wpAny_take (i := 4) (v := _) rfl (by kernel_rfl) (by kernel_rfl) (by kernel_rfl) (fun _ _ _ h => h) (Or.inl ⟨by rfl, fun w => by go_simp; try with_reducible rfl⟩) ?_
                        refine wpAny_take (i := 5) (v := _) rfl (by kernel_rfl) (by kernel_rfl) (by kernel_rfl) (fun _ _ _ h => h) (Or.inl ⟨by rfl, fun w => by go_simp; try with_reducible rfl⟩) ?_
                        refine wpAny_take (i := 6) (v := _) rfl (by kernel_rfl) (by kernel_rfl) (by kernel_rfl) (fun _ _ _ h => h) (Or.inl ⟨by rfl, fun w => by go_simp; try with_reducible rfl⟩) ?_
                        refine wpAny_take (i := 7) (v := _) rfl (by kernel_rfl) (by kernel_rfl) (by kernel_rfl) (fun _ _ _ h => h) (Or.inl ⟨by rfl, fun w => by go_simp; try with_reducible rfl⟩) ?_
                        refine wpAny_take (i := 8) (v := _) rfl (by kernel_rfl) (by kernel_rfl) (by kernel_rfl) (fun _ _ _ h => h) (Or.inl ⟨by rfl, fun w => by go_simp; try with_reducible rfl⟩) ?_
                        refine wpAny_take (i := 9) (v := _) rfl (by kernel_rfl) (by kernel_rfl) (by kernel_rfl) (fun _ _ _ h => h) (Or.inl ⟨by rfl, fun w => by go_simp; try with_reducible rfl⟩) ?_
                        refine wpAny_take (i := 10) (v := _) rfl (by kernel_rfl) (by kernel_rfl) (by kernel_rfl) (fun _ _ _ h => h) (Or.inl ⟨by rfl, fun w => by go_simp; try with_reducible rfl⟩) ?_
                        refine wpAny_ready (rs := [11]) (by kernel_rfl) (by simp) ?_
                        refine AllReady.cons rfl (fun K hK => ?_) AllReady.nil
                        go_simp
                        refine hK _ _ ?_
                        clear hK K
                        refine wpAny_ready (rs := [12]) (by kernel_rfl) (by simp) ?_
                        refine AllReady.cons rfl (fun K hK => ?_) AllReady.nil
                        have hq5 := hb5.alloc hb5.size (.cells #[.int .u8 34, .int .u8 40, .int .u8 x, .int .u8 y, .int .u8 41] 5)
                        refine step_append_rd (k := .u8) rfl _ _ 44 rfl w.heap.size 5 i0 1 Tryd.underlying44 hi0 hz0 hz1 hz2 _ zs rfl (World.ownsRow.alloc (show Own8 w.heap.size wr.drew _ zs from ho5) (.cells #[.int .u8 34, .int .u8 40, .int .u8 x, .int .u8 y, .int .u8 41] 5)) _ [34, 40, x, y, 41] rfl (rd_lit _ [34, 40, x, y, 41] 5 (Nat.succ_pos _) (by unfold maxLen; simp only [List.length_cons, List.length_nil]; omega)) (by unfold maxLen; simp only [List.length_cons, List.length_nil]; omega) (by simp only [List.length_cons, List.length_nil]; omega) (by exact hq5.size) ?_
                        intro v6 w6 ho6 hg6
                        have hb6 : Below w.heap.size w w6 := below_grown (show Below w.heap.size w (World.drew _) from below_drewN hq5 1) hg6 (fun k hk => (World.ownsRow.lt ho5 k hk).1)
                        refine hK _ _ ?_
                        clear hK K
                        refine wpAny_take (i := 13) (v := _) rfl (by kernel_rfl) (by kernel_rfl) (by kernel_rfl) (fun _ _ _ h => h) (Or.inl ⟨by rfl, fun w => by go_simp; try with_reducible rfl⟩) ?_
                        refine wpAny_done (by kernel_rfl) ?_ _
                        go_wp2_with fail
                        go_roundw
                        case rel => exact ⟨j + 1, zs ++ [34, 40, x, y, 41], by omega, by go_num, hzs2, by simp; omega, ho6, hb6⟩
                        case measure => simp [intOf]; omega
                      · clear h34 hesc
                        have n3 : ¬ c < 32 := by omega
                        go_wp2_with fail
                        refine wp_region_any (by kernel_rfl) ?_
                        refine wpAny_take (i := 0) (v := _) rfl (by kernel_rfl) (by kernel_rfl) (by kernel_rfl) (fun _ _ _ h => h) (Or.inl ⟨by rfl, fun w => by go_simp; try with_reducible rfl⟩) ?_
                        refine wpAny_take (i := 1) (v := _) rfl (by kernel_rfl) (by kernel_rfl) (by kernel_rfl) (fun _ _ _ h => h) (Or.inl ⟨by rfl, fun w => by go_simp; try with_reducible rfl⟩) ?_
                        refine wpAny_take (i := 2) (v := _) rfl (by kernel_rfl) (by kernel_rfl) (by kernel_rfl) (fun _ _ _ h => h) (Or.inl ⟨by rfl, fun w => by go_simp; try with_reducible rfl⟩) ?_
                        refine wpAny_take (i := 3) (v := _) rfl (by kernel_rfl) (by kernel_rfl) (by kernel_rfl) (fun _ _ _ h => h) (Or.inl ⟨by rfl, fun w => by go_simp; try with_reducible rfl⟩) ?_
                        refine wpAny_take (i := 4) (v := _) rfl (by kernel_rfl) (by kernel_rfl) (by kernel_rfl) (fun _ _ _ h => h) (Or.inl ⟨by rfl, fun w => by go_simp; try with_reducible rfl⟩) ?_
                        refine wpAny_take (i := 5) (v := _) rfl (by kernel_rfl) (by kernel_rfl) (by kernel_rfl) (fun _ _ _ h => h) (Or.inl ⟨by rfl, fun w => by go_simp; try with_reducible rfl⟩) ?_
                        refine wpAny_take (i := 6) (v := _) rfl (by kernel_rfl) (by kernel_rfl) (by kernel_rfl) (fun _ _ _ h => h) (Or.inl ⟨by rfl, fun w => by go_simp; try with_reducible rfl⟩) ?_
                        refine wpAny_take (i := 7) (v := _) rfl (by kernel_rfl) (by kernel_rfl) (by kernel_rfl) (fun _ _ _ h => h) (Or.inl ⟨by rfl, fun w => by go_simp; try with_reducible rfl⟩) ?_
                        refine wpAny_take (i := 8) (v := _) rfl (by kernel_rfl) (by kernel_rfl) (by kernel_rfl) (fun _ _ _ h => h) (Or.inl ⟨by rfl, fun w => by go_simp; try with_reducible rfl⟩) ?_
                        refine wpAny_take (i := 9) (v := _) rfl (by kernel_rfl) (by kernel_rfl) (by kernel_rfl) (fun _ _ _ h => h) (Or.inl ⟨by rfl, fun w => by go_simp; try with_reducible rfl⟩) ?_
                        refine wpAny_take (i := 10) (v := _) rfl (by kernel_rfl) (by kernel_rfl) (by kernel_rfl) (fun _ _ _ h => h) (Or.inl ⟨by rfl, fun w => by go_simp; try with_reducible rfl⟩) ?_
                        refine wpAny_ready (rs := [11]) (by kernel_rfl) (by simp) ?_
                        refine AllReady.cons rfl (fun K hK => ?_) AllReady.nil
                        go_simp
                        refine hK _ _ ?_
                        clear hK K
                        refine wpAny_ready (rs := [12]) (by kernel_rfl) (by simp) ?_
                        refine AllReady.cons rfl (fun K hK => ?_) AllReady.nil
                        have hq5 := hb5.alloc hb5.size (.cells #[.int .u8 34, .int .u8 40, .int .u8 x, .int .u8 y, .int .u8 41] 5)
                        refine step_append_rd (k := .u8) rfl _ _ 44 rfl w.heap.size 5 i0 1 Tryd.underlying44 hi0 hz0 hz1 hz2 _ zs rfl (World.ownsRow.alloc (show Own8 w.heap.size wr.drew _ zs from ho5) (.cells #[.int .u8 34, .int .u8 40, .int .u8 x, .int .u8 y, .int .u8 41] 5)) _ [34, 40, x, y, 41] rfl (rd_lit _ [34, 40, x, y, 41] 5 (Nat.succ_pos _) (by unfold maxLen; simp only [List.length_cons, List.length_nil]; omega)) (by unfold maxLen; simp only [List.length_cons, List.length_nil]; omega) (by simp only [List.length_cons, List.length_nil]; omega) (by exact hq5.size) ?_
                        intro v6 w6 ho6 hg6
                        have hb6 : Below w.heap.size w w6 := below_grown (show Below w.heap.size w (World.drew _) from below_drewN hq5 1) hg6 (fun k hk => (World.ownsRow.lt ho5 k hk).1)
                        refine hK _ _ ?_
                        clear hK K
                        refine wpAny_take (i := 13) (v := _) rfl (by kernel_rfl) (by kernel_rfl) (by kernel_rfl) (fun _ _ _ h => h) (Or.inl ⟨by rfl, fun w => by go_simp; try with_reducible rfl⟩) ?_
                        refine wpAny_done (by kernel_rfl) ?_ _
                        go_wp2_with fail
                        go_roundw
                        case rel => exact ⟨j + 1, zs ++ [34, 40, x, y, 41], by omega, by go_num, hzs2, by simp; omega, ho6, hb6⟩
                        case measure => simp [intOf]; omega
                  · have he : esc c = [c] := by unfold esc; rw [if_neg hesc]
                    rw [he] at hzs2
                    have n1 : (c == 34) = false := by simp; omega
                    have n2 : ¬ c < 32 := by omega
                    have n3 : ¬ 126 < c := by omega
                    clear he hesc
                    go_wp2_with ((at_builtin; refine wpList_append_rd (k := .u8) rfl _ _ 44 rfl w.heap.size 5 i0 1 Tryd.underlying44 hi0 hz0 hz1 hz2 _ zs rfl (World.ownsRow.alloc ho5 (.cells #[.int .u8 c] 5)) _ [c] rfl (rd_lit _ [c] 5 (Nat.succ_pos _) (by unfold maxLen; simp only [List.length_cons, List.length_nil]; omega)) (by unfold maxLen; simp only [List.length_cons, List.length_nil, List.length_append]; omega) (by simp only [List.length_cons, List.length_nil, List.length_append]; omega) (hb5.alloc hb5.size (.cells #[.int .u8 c] 5)).size ?_; intro v6 w6 ho6 hg6))
                    have hb6 := below_grown (hb5.alloc hb5.size (.cells #[.int .u8 c] 5)) hg6 (fun k hk => (World.ownsRow.lt ho5 k hk).1)
                    go_roundw
                    case rel => exact ⟨j + 1, zs ++ [c], by omega, by go_num, hzs2, by simp; omega, ho6, hb6⟩
                    case measure => simp [intOf]; omega
                · have hF3 : Hid (zs ++ [34] = (shwT ((xs.map pr).take (i + 1))).drop 1) := by
                    show _ = _
                    rw [hF2.out, hzs.out, List.take_of_length_le (by rw [L_len]; omega)]
                    simp
                  go_wp2_with ((at_builtin; refine wpList_append_rd (k := .u8) rfl _ _ 44 rfl w.heap.size 5 i0 1 Tryd.underlying44 hi0 hz0 hz1 hz2 _ zs rfl (World.ownsRow.alloc ho5 (.cells #[.int .u8 34] 5)) _ [34] rfl (rd_lit _ [34] 5 (Nat.succ_pos _) (by unfold maxLen; simp only [List.length_cons, List.length_nil]; omega)) (by unfold maxLen; simp only [List.length_cons, List.length_nil, List.length_append]; omega) (by simp only [List.length_cons, List.length_nil, List.length_append]; omega) (hb5.alloc hb5.size (.cells #[.int .u8 34] 5)).size ?_; intro v6 w6 ho6 hg6))
                  have hb6 := below_grown (hb5.alloc hb5.size (.cells #[.int .u8 34] 5)) hg6 (fun k hk => (World.ownsRow.lt ho5 k hk).1)
                  go_roundw
                  case rel => exact ⟨i + 1, zs ++ [34], by omega, by go_num, hF3, hall2, ho6, hb6⟩
                  case measure => simp [intOf]; omega
    · have e : Hid (shwF (xs.map pr) = (ys, 0)) := by
        show _ = _
        have h1 : (xs.map pr).take i = xs.map pr := List.take_of_length_le (by simp; omega)
        rw [hys.out, h1]
        have := hall.out
        rw [h1] at this
        exact shw_ok _ this
      have cs := rd_strT (Rd_own ho).1
      go_wp2_with fail
      go_ret2
      obtain ⟨rfl, rfl⟩ := Prod.mk.inj (HAE.out.symm.trans e.out)
      exact ⟨rfl, hb⟩
end Go.Proofs.YtpjkjkjoaapdiaaDoor
