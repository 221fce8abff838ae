/-
  Texts of one proof, laid one behind the other: Dp1 Rnq.
-/
import Derived.Test.YtfljcfpcokimcaaB10
namespace Go.Proofs.Ytfljcfpcokimcaa
open Go.ChangeShapes Go.WideShapes Go.ChangeAt Go.RowKit
set_option linter.unusedVariables false
set_option linter.unusedSimpArgs false

/-
  Package dict's Prims, Named, below, noneOrBelow, opSound and Sound.
-/
set_option maxHeartbeats 20000000 in
set_option maxRecDepth 1000000 in
theorem w_p9primsO (w : World) :
    Calls Try.prog 13 #[] w fun e w' => ∃ v, e = .returned v ∧ OwnR 37 2 prmR w.heap.size w' v prmL ∧ Below w.heap.size w w' := by
  go_enter Try.func13, Try.ntmps13
  refine wp_seq (wp_region_list (wpList_runL _ _ _ _ _ rfl ?_))
  simp only [Exit.then]
  refine wp_seq (wp_region_runL (t := 0) (v := .slice (some ⟨w.heap.size, 0, none⟩) 111 111) (w' := w.alloc (.cells (prmL.map prmV).flatten.toArray 37)) (by kernel_rfl) ?_)
  intro a' h1 h2
  simp only [Exit.then]
  refine wp_ret ?_
  refine bodyPost_ret (results_tmp rfl _ _ _) h2 ?_
  rw [h1]
  exact ⟨_, rfl, prm_own w, box_below w _⟩

set_option maxHeartbeats 1000000 in
theorem w_pbelow (X c : Int) (w : World) (h0 : 0 ≤ X) (h1 : X < 4294967296) :
    Calls Try.prog 84 #[.int .u32 X, .int .i64 c] w fun e w' => e = .returned (.bool (decide (X < c))) ∧ w' = w := by
  have hw := u32_i64 X h0 h1
  go_enter Try.func84, Try.ntmps84
  go_wp2_with fail
  go_ret
  exact ⟨rfl, rfl⟩

set_option maxHeartbeats 1000000 in
theorem w_pnob (n c : Int) (w : World) :
    Calls Try.prog 41 #[.int .i64 n, .int .i64 c] w fun e w' => e = .returned (.bool (decide (-1 ≤ n ∧ n < c))) ∧ w' = w := by
  by_cases h : -1 ≤ n
  · have e : decide (-1 ≤ n ∧ n < c) = decide (n < c) := by rw [decide_eq_decide]; omega
    rw [e]
    clear e
    go_enter Try.func41, Try.ntmps41
    go_wp2_with fail
    go_ret
    exact ⟨rfl, rfl⟩
  · have e : decide (-1 ≤ n ∧ n < c) = false := by rw [decide_eq_false_iff_not]; omega
    rw [e]
    clear e
    go_enter Try.func41, Try.ntmps41
    go_wp2_with fail
    go_ret
    exact ⟨rfl, rfl⟩

set_option maxHeartbeats 2000000 in
set_option maxRecDepth 100000 in
theorem w_p9named' (s : ByteArray) (w : World) (hs : s.size ≤ maxLen) :
    Calls Try.prog 17 #[.string s] w fun e w' => e = .returned (.bool (namF (L s))) ∧ w' = w := by
  have hs2 := hs
  unfold maxLen at hs2
  by_cases h0 : s = ⟨#[]⟩
  · have hf : Hid (namF (L s) = false) := by show _ = _; subst h0; decide +kernel
    have q0 : (s.toList == (⟨#[]⟩ : ByteArray).toList) = true := by subst h0; decide +kernel
    have q1 : s.toList.isEmpty = true := by subst h0; decide +kernel
    clear h0
    go_enter Try.func17, Try.ntmps17
    go_wp2_with fail
    go_ret
    exact ⟨ret_b hf.out.symm, rfl⟩
  · have q0 : (s.toList == (⟨#[]⟩ : ByteArray).toList) = false := by rw [str_beq]; exact decide_eq_false h0
    have q1 : s.toList.isEmpty = false := emp_no h0
    by_cases h31 : (31 : Int) < s.size
    · have hf : Hid (namF (L s) = false) := by
        show _ = _
        unfold namF
        rw [L_len, Bool.and_eq_false_iff]
        right
        rw [decide_eq_false_iff_not]
        omega
      clear h0
      go_enter Try.func17, Try.ntmps17
      go_wp2_with fail
      go_ret
      exact ⟨ret_b hf.out.symm, rfl⟩
    · have hsz : Hid (1 ≤ s.size ∧ s.size ≤ 31) := by
        show _ ∧ _
        refine ⟨?_, by omega⟩
        apply Classical.byContradiction
        intro g
        apply h0
        apply ByteArray.ext
        apply Array.ext
        · show s.size = 0
          omega
        · intro i hi
          have : i < s.size := hi
          omega
      have h31b : decide ((31 : Int) < s.size) = false := decide_eq_false h31
      clear h0
      go_enter Try.func17, Try.ntmps17
      go_wp2_with fail
      go_loopw [14] (fun I wx => ∃ (k : Nat), (k : Int) ≤ s.size ∧ I = .int .i64 k ∧ Hid (((L s).take k).all okC = true) ∧ wx = w) (fun I _ => (s.size - intOf I).toNat)
      case atStart => exact ⟨0, by omega, rfl, hid rfl, rfl⟩
      case round =>
        obtain ⟨k, hk, rfl, ha, hb⟩ := hrel
        obtain rfl := hb.symm
        by_cases hlt : (k : Int) < s.size
        · have hkk : k < s.size := by omega
          obtain ⟨c, hc⟩ : ∃ c, (s[k].toNat : Int) = c := ⟨_, rfl⟩
          have hcb := L_bd s k hkk
          rw [hc] at hcb
          obtain ⟨c0, c1⟩ := hcb
          have hLt : Hid ((L s).take (k + 1) = (L s).take k ++ [c]) := by show _ = _; rw [← hc]; exact L_take s k hkk
          have hLd : Hid (L s = (L s).take k ++ c :: (L s).drop (k + 1)) := by
            show _ = _
            rw [← hc, ← L_drop s k hkk, List.take_append_drop]
          have hrun := fun W => run_at (w := W) s k hkk hs
          simp only [hc] at hrun
          cases hcc : okC c
          · have hf : Hid (namF (L s) = false) := by
              show _ = _
              unfold namF
              rw [hLd.out, List.all_append, List.all_cons, hcc]
              simp
            have hcs : c < 33 ∨ 126 < c ∨ (65 ≤ c ∧ c ≤ 90) := by simp [okC] at hcc; omega
            clear hcc hLd hLt hc
            rcases hcs with h | h | h
            · go_wp2_with fail
              go_ret
              exact ⟨ret_b hf.out.symm, rfl⟩
            · go_wp2_with fail
              go_ret
              exact ⟨ret_b hf.out.symm, rfl⟩
            · obtain ⟨h, h'⟩ := h
              go_wp2_with fail
              go_ret
              exact ⟨ret_b hf.out.symm, rfl⟩
          · have ha2 : Hid (((L s).take (k + 1)).all okC = true) := by
              show _ = _
              rw [hLt.out, List.all_append, ha.out]
              simp [hcc]
            have hcs : 33 ≤ c ∧ c ≤ 126 ∧ (c < 65 ∨ 90 < c) := by simp [okC] at hcc; omega
            obtain ⟨q1, q2, q3⟩ := hcs
            clear hcc hLd hLt hc
            rcases q3 with hq | hq
            all_goals go_wp2_with fail
            all_goals go_roundw
            case rel => exact ⟨k + 1, by omega, by go_num, ha2, trivial⟩
            case measure => simp [intOf]; omega
            case rel => exact ⟨k + 1, by omega, by go_num, ha2, trivial⟩
            case measure => simp [intOf]; omega
        · have hf : Hid (namF (L s) = true) := by
            show _ = _
            have := ha.out
            rw [List.take_of_length_le (by rw [L_len]; omega)] at this
            unfold namF
            rw [this, L_len, decide_eq_true hsz.out]
            rfl
          go_wp2_with fail
          go_ret
          exact ⟨ret_b hf.out.symm, rfl⟩

set_option maxHeartbeats 2000000 in
set_option maxRecDepth 100000 in
theorem w_popsound (K X words : Int) (n : Nat) (w : World) (u0 : 0 ≤ X) (u1 : X < 4294967296) (hn : n ≤ 256) :
    Calls Try.prog 58 #[.agg #[.int .i64 K, .int .u32 X], .int .i64 words, .int .i64 n] w fun e w' => e = .returned (.bool (okO n words (K, X))) ∧ Below w.heap.size w w' := by
  have hok : okO n words (K, X) = decide (K = 1 ∨ (K = 2 ∨ K = 13) ∧ X < words ∨ (K = 11 ∨ K = 12) ∧ X = 0 ∨ 3 ≤ K ∧ K ≤ 10 ∧ X ≤ n) := rfl
  have st := stands_new w #[.int .i64 K, .int .u32 X] 78
  have bx := box_below w (.cells #[.int .i64 K, .int .u32 X] 78)
  have z0 := st.cell 0 _ rfl
  have z1 := st.cell 1 _ rfl
  have cw := fun W => w_pbelow X words W u0 u1
  have cn := fun W => w_pbelow X ((n : Int) + 1) W u0 u1
  have hcs : K = 1 ∨ K = 2 ∨ K = 3 ∨ K = 4 ∨ K = 5 ∨ K = 6 ∨ K = 7 ∨ K = 8 ∨ K = 9 ∨ K = 10 ∨ K = 11 ∨ K = 12 ∨ K = 13 ∨ K < 1 ∨ 13 < K := by omega
  rcases hcs with rfl | rfl | rfl | rfl | rfl | rfl | rfl | rfl | rfl | rfl | rfl | rfl | rfl | hcs
  · skip
    have hf : Hid (okO n words (1, X) = true) := by show _ = _; rw [hok]; simp
    clear hok
    go_enter Try.func58, Try.ntmps58
    go_wp2_with fail
    go_ret
    exact ⟨ret_b hf.out.symm, bx⟩
  · skip
    have hf : Hid (okO n words (2, X) = decide (X < words)) := by show _ = _; rw [hok, decide_eq_decide]; omega
    clear hok
    go_enter Try.func58, Try.ntmps58
    go_wp2_with (go_at_call 84; refine (cw _).mono ?_; rintro e w1 ⟨rfl, hw1⟩; obtain rfl := hw1.symm)
    go_ret
    exact ⟨ret_b hf.out.symm, bx⟩
  · skip
    have hf : Hid (okO n words (3, X) = decide (X < (n : Int) + 1)) := by show _ = _; rw [hok, decide_eq_decide]; omega
    clear hok
    go_enter Try.func58, Try.ntmps58
    go_wp2_with (go_at_call 84; refine (cn _).mono ?_; rintro e w1 ⟨rfl, hw1⟩; obtain rfl := hw1.symm)
    go_ret
    exact ⟨ret_b hf.out.symm, bx⟩
  · skip
    have hf : Hid (okO n words (4, X) = decide (X < (n : Int) + 1)) := by show _ = _; rw [hok, decide_eq_decide]; omega
    clear hok
    go_enter Try.func58, Try.ntmps58
    go_wp2_with (go_at_call 84; refine (cn _).mono ?_; rintro e w1 ⟨rfl, hw1⟩; obtain rfl := hw1.symm)
    go_ret
    exact ⟨ret_b hf.out.symm, bx⟩
  · skip
    have hf : Hid (okO n words (5, X) = decide (X < (n : Int) + 1)) := by show _ = _; rw [hok, decide_eq_decide]; omega
    clear hok
    go_enter Try.func58, Try.ntmps58
    go_wp2_with (go_at_call 84; refine (cn _).mono ?_; rintro e w1 ⟨rfl, hw1⟩; obtain rfl := hw1.symm)
    go_ret
    exact ⟨ret_b hf.out.symm, bx⟩
  · skip
    have hf : Hid (okO n words (6, X) = decide (X < (n : Int) + 1)) := by show _ = _; rw [hok, decide_eq_decide]; omega
    clear hok
    go_enter Try.func58, Try.ntmps58
    go_wp2_with (go_at_call 84; refine (cn _).mono ?_; rintro e w1 ⟨rfl, hw1⟩; obtain rfl := hw1.symm)
    go_ret
    exact ⟨ret_b hf.out.symm, bx⟩
  · skip
    have hf : Hid (okO n words (7, X) = decide (X < (n : Int) + 1)) := by show _ = _; rw [hok, decide_eq_decide]; omega
    clear hok
    go_enter Try.func58, Try.ntmps58
    go_wp2_with (go_at_call 84; refine (cn _).mono ?_; rintro e w1 ⟨rfl, hw1⟩; obtain rfl := hw1.symm)
    go_ret
    exact ⟨ret_b hf.out.symm, bx⟩
  · skip
    have hf : Hid (okO n words (8, X) = decide (X < (n : Int) + 1)) := by show _ = _; rw [hok, decide_eq_decide]; omega
    clear hok
    go_enter Try.func58, Try.ntmps58
    go_wp2_with (go_at_call 84; refine (cn _).mono ?_; rintro e w1 ⟨rfl, hw1⟩; obtain rfl := hw1.symm)
    go_ret
    exact ⟨ret_b hf.out.symm, bx⟩
  · skip
    have hf : Hid (okO n words (9, X) = decide (X < (n : Int) + 1)) := by show _ = _; rw [hok, decide_eq_decide]; omega
    clear hok
    go_enter Try.func58, Try.ntmps58
    go_wp2_with (go_at_call 84; refine (cn _).mono ?_; rintro e w1 ⟨rfl, hw1⟩; obtain rfl := hw1.symm)
    go_ret
    exact ⟨ret_b hf.out.symm, bx⟩
  · skip
    have hf : Hid (okO n words (10, X) = decide (X < (n : Int) + 1)) := by show _ = _; rw [hok, decide_eq_decide]; omega
    clear hok
    go_enter Try.func58, Try.ntmps58
    go_wp2_with (go_at_call 84; refine (cn _).mono ?_; rintro e w1 ⟨rfl, hw1⟩; obtain rfl := hw1.symm)
    go_ret
    exact ⟨ret_b hf.out.symm, bx⟩
  · skip
    have hf : Hid (okO n words (11, X) = (X == 0)) := by show _ = _; rw [hok, Bool.eq_iff_iff, decide_eq_true_eq, beq_iff_eq]; omega
    clear hok
    go_enter Try.func58, Try.ntmps58
    go_wp2_with fail
    go_ret
    exact ⟨ret_b hf.out.symm, bx⟩
  · skip
    have hf : Hid (okO n words (12, X) = (X == 0)) := by show _ = _; rw [hok, Bool.eq_iff_iff, decide_eq_true_eq, beq_iff_eq]; omega
    clear hok
    go_enter Try.func58, Try.ntmps58
    go_wp2_with fail
    go_ret
    exact ⟨ret_b hf.out.symm, bx⟩
  · skip
    have hf : Hid (okO n words (13, X) = decide (X < words)) := by show _ = _; rw [hok, decide_eq_decide]; omega
    clear hok
    go_enter Try.func58, Try.ntmps58
    go_wp2_with (go_at_call 84; refine (cw _).mono ?_; rintro e w1 ⟨rfl, hw1⟩; obtain rfl := hw1.symm)
    go_ret
    exact ⟨ret_b hf.out.symm, bx⟩
  · skip
    have hf : Hid (okO n words (K, X) = false) := by show _ = _; rw [hok, decide_eq_false_iff_not]; omega
    have y1 : (K == 1) = false := by rw [beq_eq_false_iff_ne]; omega
    have y2 : (K == 2) = false := by rw [beq_eq_false_iff_ne]; omega
    have y3 : (K == 3) = false := by rw [beq_eq_false_iff_ne]; omega
    have y4 : (K == 4) = false := by rw [beq_eq_false_iff_ne]; omega
    have y5 : (K == 5) = false := by rw [beq_eq_false_iff_ne]; omega
    have y6 : (K == 6) = false := by rw [beq_eq_false_iff_ne]; omega
    have y7 : (K == 7) = false := by rw [beq_eq_false_iff_ne]; omega
    have y8 : (K == 8) = false := by rw [beq_eq_false_iff_ne]; omega
    have y9 : (K == 9) = false := by rw [beq_eq_false_iff_ne]; omega
    have y10 : (K == 10) = false := by rw [beq_eq_false_iff_ne]; omega
    have y11 : (K == 11) = false := by rw [beq_eq_false_iff_ne]; omega
    have y12 : (K == 12) = false := by rw [beq_eq_false_iff_ne]; omega
    have y13 : (K == 13) = false := by rw [beq_eq_false_iff_ne]; omega
    clear hok hcs
    go_enter Try.func58, Try.ntmps58
    go_wp2_with fail
    go_ret
    exact ⟨ret_b hf.out.symm, bx⟩

set_option maxHeartbeats 2000000 in
set_option maxRecDepth 100000 in
theorem w_p9sound' (v : Value) (l : List Opd) (words : Int) (w : World) (h : RdO w v l) (hu : ∀ x ∈ l, 0 ≤ x.2 ∧ x.2 < 4294967296) :
    Calls Try.prog 21 #[v, .int .i64 words] w fun e w' => e = .returned (.bool (sndF l words)) ∧ Below w.heap.size w w' := by
  have hla := slr_len h uO (P := Try.prog)
  have hm := slr_max h
  unfold maxLen at hm
  by_cases h256 : (256 : Int) < l.length
  · have hf : Hid (sndF l words = false) := by show _ = _; unfold sndF; rw [decide_eq_false (by omega)]; simp
    go_enter Try.func21, Try.ntmps21
    go_wp2_with fail
    go_ret
    exact ⟨ret_b hf.out.symm, Below.refl _ _⟩
  · go_enter Try.func21, Try.ntmps21
    go_wp2_with fail
    go_loopw [12] (fun I wx => ∃ (k : Nat), (k : Int) ≤ l.length ∧ I = .int .i64 k ∧ Hid ((l.take k).all (okO l.length words) = true) ∧ Below w.heap.size w wx) (fun I _ => (l.length - intOf I).toNat)
    case atStart => exact ⟨0, by omega, rfl, hid rfl, Below.refl _ _⟩
    case round =>
      obtain ⟨k, hk, rfl, ha, hb⟩ := hrel
      by_cases hlt : (k : Int) < l.length
      · have hkl : k < l.length := by omega
        obtain ⟨b1, o1, r1, f0, f1⟩ := op_at (RdO.below h hb) k hkl
        have hub := hu _ (List.getElem_mem hkl)
        have yes := fun hx => snd_step (words := words) hkl ha.out hx
        have no := fun hx => snd_no (l := l) (words := words) (k := k) hkl hx
        have hok : okO l.length words l[k] = okO l.length words (l[k].1, l[k].2) := rfl
        obtain ⟨K, hK⟩ : ∃ K, l[k].1 = K := ⟨_, rfl⟩
        obtain ⟨X, hX⟩ : ∃ X, l[k].2 = X := ⟨_, rfl⟩
        rw [hK, hX] at hok
        rw [hK] at f0
        rw [hX] at f1 hub
        obtain ⟨u0, u1⟩ := hub
        have bx := box_below wr (.cells #[.int .i64 K, .int .u32 X] 78)
        have co := fun W => w_popsound K X words l.length W u0 u1 (by omega)
        cases hc : okO l.length words (K, X)
        · have hf := hid (no (by rw [hok, hc]))
          simp only [hc] at co
          clear yes no hok hK hX ha hc
          go_wp2_with (go_at_call 58; refine (co _).mono ?_; rintro e w1 ⟨rfl, d1⟩)
          go_ret
          exact ⟨ret_b hf.out.symm, below_trans hb (below_trans bx d1)⟩
        · have hx := hid (yes (by rw [hok, hc]))
          simp only [hc] at co
          clear yes no hok hK hX ha hc
          go_wp2_with (go_at_call 58; refine (co _).mono ?_; rintro e w1 ⟨rfl, d1⟩)
          go_roundw
          case rel => exact ⟨k + 1, by omega, by go_num, hx, below_trans hb (below_trans bx d1)⟩
          case measure => simp [intOf]; omega
      · have hf : Hid (sndF l words = true) := by
          show _ = _
          have := ha.out
          rw [List.take_of_length_le (by omega)] at this
          unfold sndF
          rw [this, decide_eq_true (by omega)]
          rfl
        go_wp2_with fail
        go_ret
        exact ⟨ret_b hf.out.symm, hb⟩

/-
  Named of the document's answer for properties, that it only draws: for regions that draw their order.
-/
set_option maxHeartbeats 1000000 in
set_option maxRecDepth 100000 in
theorem w_rnamedQ (s : ByteArray) (w : World) (hs : s.size ≤ maxLen) :
    Calls Try.prog 78 #[.string s] w fun e w' => e = .returned (.bool (nmF (L s))) ∧ Dr w w' := by
  have hs2 := hs
  unfold maxLen at hs2
  have z0 := run_bad 0 (by omega)
  have z1 := run_bad 1 (by omega)
  have z2 := run_bad 2 (by omega)
  have z3 := run_bad 3 (by omega)
  have z4 := run_bad 4 (by omega)
  have z5 := run_bad 5 (by omega)
  simp only [List.getD_eq_getElem?_getD, List.getElem?_cons_zero, List.getElem?_cons_succ, Option.getD_some, Int.cast_ofNat_Int] at z0 z1 z2 z3 z4 z5
  by_cases h1 : 1 ≤ s.size ∧ s.size ≤ 31
  · obtain ⟨h1, h31⟩ := h1
    go_enter Try.func78, Try.ntmps78
    go_wp2_with fail
    go_loopw [3] (fun I wx => ∃ (k : Nat), (k : Int) ≤ s.size ∧ I = .int .i64 k ∧ Hid (((L s).take k).all nmC = true) ∧ Dr w wx) (fun I _ => (s.size - intOf I).toNat)
    case atStart => exact ⟨0, by omega, rfl, hid rfl, dr_refl _⟩
    case round =>
      obtain ⟨k, hk, rfl, ha, hb⟩ := hrel
      by_cases hlt : (k : Int) < s.size
      · have hkk : k < s.size := by omega
        obtain ⟨c, hc⟩ : ∃ c, (s[k].toNat : Int) = c := ⟨_, rfl⟩
        have hcb := L_bd s k hkk
        rw [hc] at hcb
        obtain ⟨c0, c1⟩ := hcb
        have hLd : Hid (L s = (L s).take k ++ c :: (L s).drop (k + 1)) := by
          show _ = _
          rw [← hc, ← L_drop s k hkk, List.take_append_drop]
        have hLt : Hid ((L s).take (k + 1) = (L s).take k ++ [c]) := by show _ = _; rw [← hc]; exact L_take s k hkk
        cases hcc : nmC c
        · have hf : Hid (nmF (L s) = false) := by show _ = _; rw [hLd.out]; exact nm_mid _ _ _ hcc
          have hcs : c < 33 ∨ 126 < c ∨ (65 ≤ c ∧ c ≤ 90) ∨ c = 47 ∨ c = 92 ∨ c = 58 ∨ c = 91 ∨ c = 93 ∨ c = 64 := by simp [nmC] at hcc; omega
          have hrun := run_at (w := wr) s k hkk hs
          rw [hc] at hrun
          clear hcc hLd hLt hc
          rcases hcs with h | h | h | h | h | h | h | h | h
          · go_wp2_with fail
            go_ret
            exact ⟨ret_b hf.out.symm, hb⟩
          · go_wp2_with fail
            go_ret
            exact ⟨ret_b hf.out.symm, hb⟩
          · obtain ⟨h, h'⟩ := h
            go_wp2_with fail
            go_ret
            exact ⟨ret_b hf.out.symm, hb⟩
          all_goals subst h
          all_goals go_wp2_with fail
          all_goals go_rounds 7
          all_goals go_ret
          all_goals exact ⟨ret_b hf.out.symm, hb⟩
        · have ha2 : Hid (((L s).take (k + 1)).all nmC = true) := by
            show _ = _
            rw [hLt.out, List.all_append, ha.out]
            simp [hcc]
          simp [nmC] at hcc
          have hrun := run_at (w := wr) s k hkk hs
          rw [hc] at hrun
          obtain ⟨q1, q2, q3, n1, n2, n3, n4, n5, n6⟩ := hcc
          clear hLd hLt hc
          rcases q3 with hq | hq
          all_goals go_wp2_with fail
          all_goals go_rounds 7
          all_goals go_roundw
          case rel => exact ⟨k + 1, by omega, by go_num, ha2, hb⟩
          case measure => simp [intOf]; omega
          case rel => exact ⟨k + 1, by omega, by go_num, ha2, hb⟩
          case measure => simp [intOf]; omega
      · have hf : Hid (nmF (L s) = true) := by
          show _ = _
          have := ha.out
          rw [List.take_of_length_le (by rw [L_len]; omega)] at this
          unfold nmF
          rw [this, L_len]
          simp
          omega
        go_wp2_with fail
        go_ret
        exact ⟨ret_b hf.out.symm, hb⟩
  · have hf : Hid (nmF (L s) = false) := by
      show _ = _
      unfold nmF
      rw [L_len]
      simp
      omega
    by_cases h0 : s.size < 1
    · go_enter Try.func78, Try.ntmps78
      go_wp2_with fail
      go_ret
      exact ⟨ret_b hf.out.symm, dr_refl _⟩
    · have h32 : (31 : Int) < s.size := by omega
      go_enter Try.func78, Try.ntmps78
      go_wp2_with fail
      go_ret
      exact ⟨ret_b hf.out.symm, dr_refl _⟩

end Go.Proofs.Ytfljcfpcokimcaa
