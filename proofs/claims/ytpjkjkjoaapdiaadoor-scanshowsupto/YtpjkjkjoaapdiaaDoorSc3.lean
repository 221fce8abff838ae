/-
  Digits and quoted texts, as package scan reads them.
-/
import Derived.Test.YtpjkjkjoaapdiaaDoorSc2
namespace Go.Proofs.YtpjkjkjoaapdiaaDoor
open Go.ChangeShapes Go.WideShapes Go.ChangeAt Go.RowKit
set_option linter.unusedVariables false
set_option linter.unusedSimpArgs false

theorem cutL_two (X : List Int) (i : Nat) (h : i + 1 < X.length) : cutL X i (i + 2) = [X[i]'(by omega), X[i + 1]] := by
  rw [cutL_app X i (i + 1) (i + 2) (by omega) (by omega), cutL_one X i (by omega), cutL_one X (i + 1) h]
  rfl
theorem num_ab (a b : Int) : num 16 [a, b] = vl a 16 * 16 + vl b 16 := by simp [num]
theorem allD_ab (a b : Int) : allD 16 [a, b] = (isD a 16 && isD b 16) := by simp [allD]

set_option maxHeartbeats 2000000 in
set_option maxRecDepth 100000 in
theorem w_decode (s : ByteArray) (w : World) (hs : s.size ≤ 140737488355328) (hT : Tab w) :
    Calls Tryd.prog 43 #[.string s] w fun e w' => ∃ v E, e = .returned (.tuple #[v, .int .i64 E]) ∧ (E = 15 ∧ hexG none (L s) = none ∨ E = 0 ∧ ∃ b, hexG none (L s) = some b ∧ Rd .u8 w' v b ∧ b.length ≤ s.size) ∧ Below w.heap.size w w' := by
  obtain ⟨i0, hi, hz0, hz1, hz2⟩ := info_parts infoU8
  have cw := w_noblanks s w hs
  have hfb := filB_bytes (LB_bytes s)
  have hfl := filB_len (L s)
  rw [L_len] at hfl
  have hhx := (hex_pair (L s)).1
  rw [hhx]
  obtain ⟨D, hD⟩ : ∃ D, strOfNums (filB (L s)) = D := ⟨_, rfl⟩
  have hDL : L D = filB (L s) := by rw [← hD]; exact LB_nums _ hfb
  rw [hD] at cw
  rw [← hDL] at hfl ⊢
  rw [L_len] at hfl
  clear hD hDL hfb hhx
  have hmD : D.size ≤ maxLen := by unfold maxLen; omega
  obtain ⟨n, hn⟩ : ∃ n, D.size / 2 = n := ⟨_, rfl⟩
  have hq : (D.size : Int).tdiv 2 = n := by rw [Int.tdiv_eq_ediv_of_nonneg (by omega)]; omega
  by_cases hodd : D.size % 2 = 1
  · have e := hid (pair_odd (L D) (by rw [L_len]; exact hodd))
    have hr : (D.size : Int).tmod 2 = 1 := by rw [Int.tmod_eq_emod_of_nonneg (by omega)]; omega
    clear hodd hq
    go_enter Tryd.func43, Tryd.ntmps43
    go_wp2_with (go_at_call 45; refine cw.mono ?_; rintro e w1 ⟨rfl, b1⟩)
    go_ret2
    exact ⟨_, _, rfl, Or.inl ⟨rfl, e.out⟩, b1⟩
  · have hr : (D.size : Int).tmod 2 = 0 := by rw [Int.tmod_eq_emod_of_nonneg (by omega)]; omega
    have hDn : D.size = 2 * n := by omega
    obtain ⟨O, hO⟩ : ∃ O, pairF (L D) = O := ⟨_, rfl⟩
    rw [hO]
    have HO := hid hO
    clear hodd hO
    go_enter Tryd.func43, Tryd.ntmps43
    go_wp2_with (go_at_call 45; refine cw.mono ?_; rintro e w1 ⟨rfl, b1⟩)
    go_loopw [4, 17] (fun U I wx => ∃ (k : Nat) (ys : List Int), (k : Int) ≤ n ∧ I = .int .i64 k ∧ Hid (O = (pairF ((L D).drop (2 * k))).map (ys ++ ·)) ∧ (ys.length : Int) = k ∧ Own8 w.heap.size wx U ys ∧ Below w.heap.size w wx) (fun _ I _ => (n - intOf I).toNat)
    case atStart => exact ⟨0, [], by omega, rfl, hid (by rw [← HO.out]; simp), rfl, World.ownsRow_nil _ _ _ _, b1⟩
    case round =>
      obtain ⟨k, ys, hk, rfl, hin, hyl, ho, hb⟩ := hrel
      by_cases hlt : (k : Int) < n
      · have hTb := hT.below hb
        have hkl : 2 * k + 1 < (L D).length := by rw [L_len]; omega
        obtain ⟨C, hC0, hCL, hCs⟩ := str_part D (2 * k) (2 * k + 2) (by omega) (by omega)
        have hC : ∀ w, (Instr.slice 9 (.string D) (some (.int .i64 (2 * (k : Int)))) (some (.int .i64 (2 * (k : Int) + 2))) none).run Tryd.prog w = .ok (.string C) w := hC0
        have hp := pair_at (L D) k hkl
        have hC2 : C.size = 2 := by omega
        have hbd := num_two (L C) (LB_bytes C) (by rw [L_len]; omega)
        have hall : allD 16 (L C) = (isD ((L D)[2 * k]'(by omega)) 16 && isD (L D)[2 * k + 1] 16) := by rw [hCL, cutL_two (L D) (2 * k) hkl, allD_ab]
        have hnum : num 16 (L C) = vl ((L D)[2 * k]'(by omega)) 16 * 16 + vl (L D)[2 * k + 1] 16 := by rw [hCL, cutL_two (L D) (2 * k) hkl, num_ab]
        rw [← hall, ← hnum] at hp
        clear hC0 hCL hall hnum
        cases hok : allD 16 (L C)
        · have c := fun w hT => w_spu_no C w hC2 hok hT
          have e : Hid (O = none) := by show _ = _; rw [hin.out, hp, hok]; simp
          clear hok hp hbd
          go_wp2_with (go_at_call 46; refine (c _ hTb).mono ?_; rintro e w2 ⟨Tt, pp, rfl, b2⟩)
          go_ret2
          exact ⟨_, _, rfl, Or.inl ⟨rfl, e.out⟩, below_trans hb b2⟩
        · have c := fun w => w_spu_ok C w hC2 hok
          obtain ⟨x, hx⟩ : ∃ x, num 16 (L C) = x := ⟨_, rfl⟩
          simp only [hx] at c hbd hp
          obtain ⟨x0, x1⟩ := hbd
          have hin2 : Hid (O = (pairF ((L D).drop (2 * (k + 1)))).map ((ys ++ [x]) ++ ·)) := by
            show _ = _
            rw [hin.out, hp, hok]
            simp [Function.comp_def]
          clear hok hp hx
          go_wp2_with (first
            | (go_at_call 46; refine (c _).mono ?_; rintro e w2 ⟨rfl, b2⟩; have ho2 := own_below ho b2; have hb2 := below_trans hb b2; have ho3 := World.ownsRow.alloc ho2 (.cells #[.int .u8 x] 5); have hb3 := hb2.alloc hb2.size (.cells #[.int .u8 x] 5))
            | (at_builtin; refine wpList_append_rd (k := .u8) rfl _ _ 44 rfl w.heap.size 5 i0 1 Tryd.underlying44 hi hz0 hz1 hz2 _ ys rfl ho3 _ [x] rfl (rd_one _ x 5) (by unfold maxLen; simp only [List.length_cons, List.length_nil]; omega) (by simp only [List.length_cons, List.length_nil]; omega) hb3.size ?_; intro v4 w4 ho4 hg4))
          go_roundw
          case rel => exact ⟨k + 1, ys ++ [x], by omega, by go_num, hin2, by simp; omega, ho4, below_grown hb3 hg4 (fun k hk => (World.ownsRow.lt ho2 k hk).1)⟩
          case measure => simp [intOf]; omega
      · have e : Hid (O = some ys) := by
          show _ = _
          rw [hin.out, List.drop_of_length_le (by rw [L_len]; omega)]
          simp [pairF]
        go_wp2_with fail
        go_ret2
        exact ⟨_, _, rfl, Or.inr ⟨rfl, ys, e.out, (Rd_own ho).1, by omega⟩, hb⟩

set_option maxHeartbeats 4000000 in
set_option maxRecDepth 100000 in
theorem w_unquote (s : ByteArray) (i : Nat) (w : World) (hs : s.size ≤ 140737488355328) (hi : i ≤ s.size) (hT : Tab w) :
    Calls Tryd.prog 37 #[.string s, .int .i64 i] w fun e w' => ∃ (v : Value) (j : Nat) (E : Int), e = .returned (.tuple #[v, .int .i64 j, .int .i64 E]) ∧ (E = 15 ∧ QE (L s) i 15 ∨ E = 0 ∧ ∃ ys, QQ (L s) i j ys ∧ bytesL ys ∧ Rd .u8 w' v ys) ∧ Below w.heap.size w w' := by
  have hm : s.size ≤ maxLen := by unfold maxLen; omega
  obtain ⟨i0, hi0, hz0, hz1, hz2⟩ := info_parts infoU8
  go_enter Tryd.func37, Tryd.ntmps37
  go_wp2_with fail
  go_loopw [1, 7] (fun I U wx => ∃ (j : Nat) (ys : List Int), (j : Int) ≤ s.size ∧ I = .int .i64 j ∧ Hid (QS (L s) i j ys) ∧ Hid (bytesL ys) ∧ (ys.length : Int) ≤ j ∧ Own8 w.heap.size wx U ys ∧ Below w.heap.size w wx) (fun I _ _ => (s.size + 1 - intOf I).toNat)
  case atStart => exact ⟨i, [], by omega, rfl, hid (QS_start (L s) i (by rw [L_len]; exact hi)), hid (fun x hx => by simp at hx), by simp, World.ownsRow_nil _ _ _ _, Below.refl _ _⟩
  case round =>
    obtain ⟨j, ys, hj, rfl, hQ, hyb, hyl, ho, hb⟩ := hrel
    have hTb := hT.below hb
    obtain ⟨T0, hT0, hT0L, hT0s⟩ := str_tail s j (by omega)
    have ci := fun w => w_sib T0 34 w (by decide) (by decide)
    rw [hT0L] at ci
    clear hT0L
    go_wp2_with (go_at_call 35; refine (ci _).mono ?_; rintro e w1 ⟨n, rfl, hn, rfl⟩; refine Hid.out ?_)
    have hnx := at_nx hn (by rw [L_len]; omega)
    rw [L_len] at hnx
    clear hn ci
    rcases hnx with ⟨rfl, h2⟩ | ⟨k, rfl, h2, h3⟩
    · have e := hid (QS_open hQ.out (by rw [h2, L_len]))
      clear h2
      refine hid ?_
      go_wp2_with fail
      go_ret3
      exact ⟨_, 0, 15, rfl, Or.inl ⟨rfl, e.out⟩, hb⟩
    · have HK := hid h2
      clear h2
      obtain ⟨T, hT1, hTL, hTs⟩ := str_part s j (j + k) (by omega) (by omega)
      have hTr : ∀ w, (Instr.slice 9 (.string s) (some (.int .i64 (j : Int))) (some (.int .i64 ((j : Int) + k))) none).run Tryd.prog w = .ok (.string T) w := hT1
      have hys2 : Hid (ys ++ LB T = ys ++ cutL (L s) j (j + k)) := by show _ = _; rw [← hTL]; rfl
      clear hTL hT1
      obtain ⟨Y, hY⟩ : ∃ Y, ys ++ LB T = Y := ⟨_, rfl⟩
      have hYl : (Y.length : Int) = ys.length + T.size := by rw [← hY, List.length_append, LB_len]; omega
      have hYb : Hid (bytesL Y) := by show bytesL Y; rw [← hY]; exact bytes_join hyb.out (LB_bytes T)
      rw [hY] at hys2
      have HY := hid hY
      clear hY
      have hkI : (j : Int) + k < s.size := by omega
      by_cases hlast : (j : Int) + (k + 1) < s.size
      · obtain ⟨c, hr, c0, c1, hc, _⟩ := str_byte s (j + k + 1) (by omega) hm
        have hr' : ∀ w, (Instr.index 9 (.string s) (.int .i64 ((j : Int) + ((k : Int) + 1)))).run Tryd.prog w = .ok (.int .u8 c) w := hr
        have hnx : j + k + 1 < (L s).length := by rw [L_len]; omega
        have hne : ((j : Int) + ((k : Int) + 1) == s.size) = false := by simp; omega
        by_cases h40 : c = 40
        · subst h40
          have cc : ∀ w, Calls Tryd.prog 27 #[.string s, .int .i64 ((j : Int) + ((k : Int) + 1) + 1)] w _ := fun w => w_closed s (j + k + 2) w hm (by omega)
          have hhx := nx_hex HK.out hnx hc
          refine hid ?_
          go_wp2_with (first
            | (at_builtin; refine wpList_append_rds rfl _ _ 44 9 rfl w.heap.size 5 i0 Tryd.underlying44 Tryd.underlying9 hi0 hz0 hz1 hz2 _ ys rfl ho T rfl (by unfold maxLen; omega) (by omega) hb.size ?_; intro v2 w2 ho2 hg2; have hb2 := below_grown hb hg2 (fun k hk => (ho.lt k hk).1); rw [HY.out] at ho2)
            | (go_at_call 27; refine (cc _).mono ?_; rintro e w3 ⟨D, bb, E, rfl, hcl, rfl⟩; refine Hid.out ?_))
          rcases hcl with ⟨rfl, h1⟩ | ⟨rfl, m, rfl, h1, h2, hml, hDL, hDs⟩
          · have e := hid (QK_hopen hQ.out HK.out hnx hc (by rw [hhx, h1, L_len]))
            refine hid ?_
            clear h1 hc hr hhx
            go_wp2_with fail
            go_ret3
            exact ⟨_, 0, 15, rfl, Or.inl ⟨rfl, e.out⟩, hb2⟩
          · rw [h1] at hhx
            have cd := fun w hT => w_decode D w (by omega) hT
            rw [hDL] at cd
            have EB := fun h3 => hid (QK_hbad hQ.out HK.out hnx hc hhx (by rw [L_len]; omega) h3)
            have EC := fun b h3 => hid (QK_hon (b := b) hQ.out HK.out hnx hc hhx (by rw [L_len]; omega) h3)
            have hTb2 := hT.below hb2
            have hDb := LB_bytes D
            refine hid ?_
            clear h1 hc hr hhx
            have HDL := hid hDL
            clear hDL
            go_wp2_with (go_at_call 43; refine (cd _ hTb2).mono ?_; rintro e w4 ⟨v4, E4, rfl, h4, b4⟩; refine Hid.out ?_)
            rcases h4 with ⟨rfl, h4⟩ | ⟨rfl, b, h4, r4, hbl⟩
            · have e := EB h4
              refine hid ?_
              clear EB EC h4 cd
              go_wp2_with fail
              go_ret3
              exact ⟨_, 0, 15, rfl, Or.inl ⟨rfl, e.out⟩, below_trans hb2 b4⟩
            · have e := EC b h4
              have hys3 : Hid (QS (L s) i (m + 1) (Y ++ b)) := by show QS _ _ _ _; rw [hys2.out]; exact e.out
              have hb5 : Hid (bytesL (Y ++ b)) := bytes_join hYb.out (hexG_bytes _ none b (by rw [← HDL.out]; exact hDb) (fun n hn => by cases hn) h4)
              have ho4 := own_below ho2 b4
              have hb4 := below_trans hb2 b4
              refine hid ?_
              clear EB EC h4 cd e
              go_wp2_with (at_builtin; refine wpList_append_rd (k := .u8) rfl _ _ 44 rfl w.heap.size 5 i0 1 Tryd.underlying44 hi0 hz0 hz1 hz2 _ Y rfl ho4 _ b rfl r4 (by unfold maxLen; omega) (by omega) hb4.size ?_; intro v5 w5 ho5 hg5)
              go_roundw
              case rel => exact ⟨m + 1, Y ++ b, by omega, by go_num, hys3, hb5, by rw [List.length_append]; omega, ho5, below_grown hb4 hg5 (fun k hk => (ho4.lt k hk).1)⟩
              case measure => simp [intOf]; omega
        · have hcb : (c != 40) = true := by simp [h40]
          have e := hid (QQ_of hQ.out HK.out (by rw [L_len]; omega) (fun g => by rw [hc]; exact h40))
          refine hid ?_
          clear hc hr
          go_wp2_with (at_builtin; refine wpList_append_rds rfl _ _ 44 9 rfl w.heap.size 5 i0 Tryd.underlying44 Tryd.underlying9 hi0 hz0 hz1 hz2 _ ys rfl ho T rfl (by unfold maxLen; omega) (by omega) hb.size ?_; intro v2 w2 ho2 hg2; have hb2 := below_grown hb hg2 (fun k hk => (ho.lt k hk).1); rw [HY.out] at ho2)
          go_ret3
          refine ⟨_, j + k + 1, 0, rfl, Or.inr ⟨rfl, Y, ?_, hYb.out, (Rd_own ho2).1⟩, hb2⟩
          rw [hys2.out]
          exact e.out
      · have hne : ((j : Int) + ((k : Int) + 1) == s.size) = true := by simp; omega
        have e := hid (QQ_of hQ.out HK.out (by rw [L_len]; omega) (fun g => absurd g (by rw [L_len]; omega)))
        refine hid ?_
        go_wp2_with (at_builtin; refine wpList_append_rds rfl _ _ 44 9 rfl w.heap.size 5 i0 Tryd.underlying44 Tryd.underlying9 hi0 hz0 hz1 hz2 _ ys rfl ho T rfl (by unfold maxLen; omega) (by omega) hb.size ?_; intro v2 w2 ho2 hg2; have hb2 := below_grown hb hg2 (fun k hk => (ho.lt k hk).1); rw [HY.out] at ho2)
        go_ret3
        refine ⟨_, j + k + 1, 0, rfl, Or.inr ⟨rfl, Y, ?_, hYb.out, (Rd_own ho2).1⟩, hb2⟩
        rw [hys2.out]
        exact e.out

set_option maxHeartbeats 2000000 in
set_option maxRecDepth 100000 in
theorem w_quoted (s : ByteArray) (i : Nat) (w : World) (hs : s.size ≤ 140737488355328) (hi : i ≤ s.size) (hT : Tab w) :
    Calls Tryd.prog 29 #[.string s, .int .i64 i] w fun e w' => ∃ (T : ByteArray) (b : Nat) (E : Int), e = .returned (.tuple #[.string T, .int .i64 b, .int .i64 E]) ∧ (E = 15 ∧ i = s.size ∨ i < s.size ∧ ((E = 3 ∨ E = 15) ∧ (∃ F, (E = F ∨ E = 3 ∧ F = 15) ∧ QE (L s) (i + 1) F) ∨ E = 0 ∧ QO (L s) (i + 1) b (L T))) ∧ Below w.heap.size w w' := by
  have hm : s.size ≤ maxLen := by unfold maxLen; omega
  by_cases he : i = s.size
  · have heb : ((i : Int) == s.size) = true := by simp; omega
    have HE := hid he
    clear he
    go_enter Tryd.func29, Tryd.ntmps29
    go_wp2_with fail
    go_ret3
    exact ⟨_, 0, _, rfl, Or.inl ⟨rfl, HE.out⟩, Below.refl _ _⟩
  · have heb : ((i : Int) == s.size) = false := by simp; omega
    have hil : i < s.size := by omega
    have cc : ∀ w, Tab w → Calls Tryd.prog 37 #[.string s, .int .i64 ((i : Int) + 1)] w _ := fun w hT => w_unquote s (i + 1) w hs (by omega) hT
    go_enter Tryd.func29, Tryd.ntmps29
    go_wp2_with (go_at_call 37; refine (cc _ hT).mono ?_; rintro e w1 ⟨v, j, E, rfl, hq, b1⟩; refine Hid.out ?_)
    rcases hq with ⟨rfl, h1⟩ | ⟨rfl, ys, h1, hyb, r1⟩
    · refine hid ?_
      have H1 := hid h1
      clear h1
      go_wp2_with fail
      go_ret3
      exact ⟨_, 0, _, rfl, Or.inr ⟨hil, Or.inl ⟨Or.inr rfl, 15, Or.inl rfl, H1.out⟩⟩, b1⟩
    · have hjl : j ≤ s.size := by have := h1.2.1; rw [L_len] at this; exact this
      have hlo := rd_len r1 uB (P := Tryd.prog)
      have cs := rd_strT r1
      have hns : L (strOfNums ys) = ys := LB_nums ys hyb
      obtain ⟨Y, hY⟩ : ∃ Y, strOfNums ys = Y := ⟨_, rfl⟩
      rw [hY] at cs hns
      have H1 := hid h1
      have HN := hid hns
      clear h1 hY hns
      refine hid ?_
      by_cases h255 : (255 : Int) < ys.length
      · have e := hid (QQ_err H1.out (by omega))
        go_wp2_with fail
        go_ret3
        obtain ⟨F, hF, hE⟩ := e.out
        exact ⟨_, 0, _, rfl, Or.inr ⟨hil, Or.inl ⟨Or.inl rfl, F, by omega, hE⟩⟩, b1⟩
      · by_cases hjs : (j : Int) < s.size
        · obtain ⟨c, hr, c0, c1, hc, _⟩ := str_byte s j (by omega) hm
          have cb := fun w => w_blank c w c0 c1
          have hg : j < (L s).length := by rw [L_len]; omega
          by_cases h32 : c ≤ 32
          · have hbl : blC c = true := by simp [blC, h32]
            rw [hbl] at cb
            have e := hid (QQ_done H1.out (by omega) (fun g => by rw [hc]; exact h32))
            clear hc hbl
            go_wp2_with (go_at_call 25; refine (cb _).mono ?_; rintro e w2 ⟨rfl, rfl⟩)
            go_ret3
            exact ⟨Y, j, _, rfl, Or.inr ⟨hil, Or.inr ⟨rfl, by rw [HN.out]; exact e.out⟩⟩, b1⟩
          · have hbl : blC c = false := by simp [blC]; omega
            rw [hbl] at cb
            have e := hid (QQ_wrong H1.out hg (by rw [hc]; exact h32))
            clear hc hbl
            go_wp2_with (go_at_call 25; refine (cb _).mono ?_; rintro e w2 ⟨rfl, rfl⟩)
            go_ret3
            exact ⟨_, 0, _, rfl, Or.inr ⟨hil, Or.inl ⟨Or.inr rfl, 15, Or.inl rfl, e.out⟩⟩, b1⟩
        · have e := hid (QQ_done H1.out (by omega) (fun g => absurd g (by rw [L_len]; omega)))
          go_wp2_with fail
          go_ret3
          have q : QO (L s) (i + 1) j (L Y) := by rw [HN.out]; exact e.out
          first
            | exact ⟨Y, j, _, rfl, Or.inr ⟨hil, Or.inr ⟨rfl, q⟩⟩, b1⟩
            | exact ⟨Y, j, 0, rfl, Or.inr ⟨hil, Or.inr ⟨rfl, q⟩⟩, b1⟩
            | exact ⟨Y, j, 0, rfl, Or.inr (Or.inr ⟨rfl, q⟩), b1⟩
            | exact ⟨Y, j, 0, rfl, Or.inr ⟨rfl, q⟩, b1⟩
end Go.Proofs.YtpjkjkjoaapdiaaDoor
