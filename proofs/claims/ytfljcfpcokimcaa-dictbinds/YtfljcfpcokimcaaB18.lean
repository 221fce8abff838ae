/-
  Texts of one proof, laid one behind the other: Rd5 Rd7.
-/
import Derived.Test.YtfljcfpcokimcaaB17
namespace Go.Proofs.Ytfljcfpcokimcaa
open Go.ChangeShapes Go.WideShapes Go.ChangeAt Go.RowKit
set_option linter.unusedVariables false
set_option linter.unusedSimpArgs false

/-
  Find and Method of the document's answer.
-/
set_option maxHeartbeats 2000000 in
set_option maxRecDepth 100000 in
theorem w_r9find (v : Mv) (m : Mc) (o s : ByteArray) (w : World) (h : RdW w v.vw m.words) (hby : ∀ x ∈ m.words, bytesL x.1) :
    Calls Try.prog 24 #[.agg (v.cs m o), .string s] w fun e w' => e = .returned (.tuple #[.int .i64 (fnI (fndF m.words (L s))), .bool (fndF m.words (L s)).isSome]) ∧ Below w.heap.size w w' := by
  have hla := slr_len h uW (P := Try.prog)
  have hm := slr_max h
  unfold maxLen at hm
  have s1 := stands_new w (v.cs m o) 32
  have bw := box_below w (.cells (v.cs m o) 32)
  have K := fun q (g : Below (w.alloc (.cells (v.cs m o) 32)).heap.size (w.alloc (.cells (v.cs m o) 32)) q) => (s1.below g).cell 2 v.vw rfl
  have k0 := s1.cell 2 v.vw rfl
  obtain ⟨F, hF⟩ : ∃ X, fndF m.words (L s) = X := ⟨_, rfl⟩
  rw [hF]
  by_cases h0 : s = ⟨#[]⟩
  · have q0 : (s.toList != (⟨#[]⟩ : ByteArray).toList) = false := by subst h0; decide +kernel
    have q1 : s.toList.isEmpty = true := by subst h0; decide +kernel
    have hF2 : F = none := by
      rw [← hF, h0]
      exact fnd_nil _
    subst hF2
    obtain ⟨U, hU⟩ : ∃ X, v.cs m o = X := ⟨_, rfl⟩
    rw [hU] at k0 bw ⊢
    clear h0 hF K s1 hU
    by_cases hz : (0 : Int) < m.words.length
    · have hz1 : (0 : Int) ≤ (m.words.length : Int) - 1 := by omega
      go_enter Try.func24, Try.ntmps24
      go_wp2_with fail
      go_rounds 1
      go_ret2
      exact ⟨rfl, bw⟩
    · have hz0 : (m.words.length : Int) = 0 := by omega
      rw [hz0] at hla
      go_enter Try.func24, Try.ntmps24
      go_wp2_with fail
      go_rounds 1
      go_ret2
      exact ⟨rfl, bw⟩
  · have q1 : (s.toList == (⟨#[]⟩ : ByteArray).toList) = false := by rw [str_beq]; exact decide_eq_false h0
    have q0 : s.toList.isEmpty = false := emp_no h0
    have hn : ¬ L s = [] := fun g => h0 (L_nil g)
    have hF2 : Hid (lstF (fun x : Wd => decide (x.1 = L s)) m.words = F) := by show _ = _; rw [← hF]; unfold fndF; rw [if_neg hn]
    obtain ⟨U, hU⟩ : ∃ X, v.cs m o = X := ⟨_, rfl⟩
    simp only [hU] at k0 bw K ⊢
    clear h0 hF s1 hU
    go_enter Try.func24, Try.ntmps24
    go_wp2_with fail
    go_loopw [6] (fun I wx => ∃ (k : Nat), (k : Int) ≤ m.words.length ∧ I = .int .i64 ((k : Int) - 1) ∧ Hid (lstF (fun x : Wd => decide (x.1 = L s)) (m.words.take k) = F) ∧ Below (w.alloc (.cells U 32)).heap.size (w.alloc (.cells U 32)) wx) (fun I _ => (intOf I + 1).toNat)
    case atStart => exact ⟨m.words.length, by omega, by go_num, hid (by rw [List.take_length]; exact hF2.out), Below.refl _ _⟩
    case round =>
      obtain ⟨k, hk, rfl, ht, hg⟩ := hrel
      have k2 := K _ hg
      cases k with
      | zero =>
        have hFn : F = none := by rw [← ht.out]; rfl
        subst hFn
        have hI : ((0 : Nat) : Int) - 1 = -1 := by omega
        rw [hI]
        clear ht
        go_wp2_with fail
        go_ret2
        exact ⟨rfl, below_trans bw hg⟩
      | succ j =>
        have hI : ((j + 1 : Nat) : Int) - 1 = (j : Int) := by omega
        rw [hI]
        have hjl : j < m.words.length := by omega
        have hj0 : (0 : Int) ≤ (j : Int) := by omega
        obtain ⟨b1, o1, nm, vc, r1, f0, f1, f2, f3, f4, e1, hc1⟩ := wrd_at (RdW.below h (below_trans bw hg)) j hjl
        have hq := str_eq8 nm s _ (L s) (hby _ (List.getElem_mem hjl)) (LB_bytes s) e1 (nums_LB s)
        by_cases hx : m.words[j].1 = L s
        · rw [decide_eq_true hx] at hq
          have hFj : F = some j := by
            rw [← ht.out]
            exact lst_hit _ _ j hjl (decide_eq_true hx)
          subst hFj
          clear hx ht e1 hI
          go_wp2_with fail
          go_ret2
          exact ⟨rfl, below_trans bw hg⟩
        · rw [decide_eq_false hx] at hq
          have ht2 : Hid (lstF (fun x : Wd => decide (x.1 = L s)) (m.words.take j) = F) := by
            show _ = _
            rw [← ht.out]
            exact (lst_take _ _ j hjl (decide_eq_false hx)).symm
          clear hx ht e1
          go_wp2_with fail
          go_roundw
          case rel => exact ⟨j, by omega, by go_num, ht2, hg⟩
          case measure => simp [intOf]

set_option maxHeartbeats 2000000 in
set_option maxRecDepth 100000 in
theorem w_r9method (v : Mv) (m : Mc) (o s : ByteArray) (n : Int) (w : World) (h : RdW w v.vw m.words) (hby : ∀ x ∈ m.words, bytesL x.1) :
    Calls Try.prog 26 #[.agg (v.cs m o), .int .i64 n, .string s] w fun e w' => e = .returned (.tuple #[.int .i64 (fnI (mthF m.words n (L s))), .bool (mthF m.words n (L s)).isSome]) ∧ Below w.heap.size w w' := by
  have hla := slr_len h uW (P := Try.prog)
  have hm := slr_max h
  unfold maxLen at hm
  have s1 := stands_new w (v.cs m o) 32
  have bw := box_below w (.cells (v.cs m o) 32)
  have K := fun q (g : Below (w.alloc (.cells (v.cs m o) 32)).heap.size (w.alloc (.cells (v.cs m o) 32)) q) => (s1.below g).cell 2 v.vw rfl
  have k0 := s1.cell 2 v.vw rfl
  obtain ⟨F, hF⟩ : ∃ X, mthF m.words n (L s) = X := ⟨_, rfl⟩
  rw [hF]
  by_cases h0 : s = ⟨#[]⟩ ∨ n < 0
  · have hF2 : F = none := by
      rw [← hF]
      unfold mthF
      rw [if_pos]
      rcases h0 with h0 | h0
      · left
        subst h0
        decide +kernel
      · exact Or.inr h0
    subst hF2
    obtain ⟨U, hU⟩ : ∃ X, v.cs m o = X := ⟨_, rfl⟩
    rw [hU] at k0 bw ⊢
    have hem : s.toList.isEmpty = true ∨ s.toList.isEmpty = false ∧ n < 0 := by
      cases g : s.toList.isEmpty
      · right
        refine ⟨rfl, ?_⟩
        rcases h0 with h0 | h0
        · subst h0
          exact absurd g (by decide +kernel)
        · exact h0
      · exact Or.inl rfl
    clear h0 hF K s1 hU
    by_cases hz : (0 : Int) < m.words.length
    · have hz1 : (0 : Int) ≤ (m.words.length : Int) - 1 := by omega
      rcases hem with q1 | ⟨q1, q2⟩
      · go_enter Try.func26, Try.ntmps26
        go_wp2_with fail
        go_rounds 1
        go_ret2
        exact ⟨rfl, bw⟩
      · go_enter Try.func26, Try.ntmps26
        go_wp2_with fail
        go_rounds 1
        go_ret2
        exact ⟨rfl, bw⟩
    · have hz0 : (m.words.length : Int) = 0 := by omega
      rw [hz0] at hla
      go_enter Try.func26, Try.ntmps26
      go_wp2_with fail
      go_rounds 1
      go_ret2
      exact ⟨rfl, bw⟩
  · have q0 : s.toList.isEmpty = false := emp_no (fun g => h0 (Or.inl g))
    have hn0 : 0 ≤ n := by omega
    have hn : ¬ (L s = [] ∨ n < 0) := fun g => h0 (g.imp L_nil id)
    have hF2 : Hid (lstF (fun x : Wd => decide (x.1 = L s) && decide (x.2.1 = n)) m.words = F) := by show _ = _; rw [← hF]; unfold mthF; rw [if_neg hn]
    obtain ⟨U, hU⟩ : ∃ X, v.cs m o = X := ⟨_, rfl⟩
    simp only [hU] at k0 bw K ⊢
    clear h0 hF s1 hU hn
    go_enter Try.func26, Try.ntmps26
    go_wp2_with fail
    go_loopw [8] (fun I wx => ∃ (k : Nat), (k : Int) ≤ m.words.length ∧ I = .int .i64 ((k : Int) - 1) ∧ Hid (lstF (fun x : Wd => decide (x.1 = L s) && decide (x.2.1 = n)) (m.words.take k) = F) ∧ Below (w.alloc (.cells U 32)).heap.size (w.alloc (.cells U 32)) wx) (fun I _ => (intOf I + 1).toNat)
    case atStart => exact ⟨m.words.length, by omega, by go_num, hid (by rw [List.take_length]; exact hF2.out), Below.refl _ _⟩
    case round =>
      obtain ⟨k, hk, rfl, ht, hg⟩ := hrel
      have k2 := K _ hg
      cases k with
      | zero =>
        have hFn : F = none := by rw [← ht.out]; rfl
        subst hFn
        have hI : ((0 : Nat) : Int) - 1 = -1 := by omega
        rw [hI]
        clear ht
        go_wp2_with fail
        go_ret2
        exact ⟨rfl, below_trans bw hg⟩
      | succ j =>
        have hI : ((j + 1 : Nat) : Int) - 1 = (j : Int) := by omega
        rw [hI]
        have hjl : j < m.words.length := by omega
        have hj0 : (0 : Int) ≤ (j : Int) := by omega
        obtain ⟨b1, o1, nm, vc, r1, f0, f1, f2, f3, f4, e1, hc1⟩ := wrd_at (RdW.below h (below_trans bw hg)) j hjl
        have hq := str_eq8 nm s _ (L s) (hby _ (List.getElem_mem hjl)) (LB_bytes s) e1 (nums_LB s)
        have hit := lst_hit (fun x : Wd => decide (x.1 = L s) && decide (x.2.1 = n)) m.words j hjl
        have miss := lst_take (fun x : Wd => decide (x.1 = L s) && decide (x.2.1 = n)) m.words j hjl
        obtain ⟨X, hX⟩ : ∃ X, m.words[j].2.1 = X := ⟨_, rfl⟩
        rw [hX] at f1 hit miss
        by_cases hx : m.words[j].1 = L s
        · rw [decide_eq_true hx] at hq
          by_cases hy : X = n
          · have q3 : (X == n) = true := by simp [hy]
            have hFj : F = some j := by
              rw [← ht.out]
              exact hit (by simp [hx, hy])
            subst hFj
            clear hx ht e1 hI hit miss hX
            go_wp2_with fail
            go_ret2
            exact ⟨rfl, below_trans bw hg⟩
          · have q3 : (X == n) = false := by simpa using hy
            have ht2 : Hid (lstF (fun x : Wd => decide (x.1 = L s) && decide (x.2.1 = n)) (m.words.take j) = F) := by
              show _ = _
              rw [← ht.out]
              exact (miss (by simp [hy])).symm
            clear hx ht e1 hit miss hX
            go_wp2_with fail
            go_roundw
            case rel => exact ⟨j, by omega, by go_num, ht2, hg⟩
            case measure => simp [intOf]
        · rw [decide_eq_false hx] at hq
          have ht2 : Hid (lstF (fun x : Wd => decide (x.1 = L s) && decide (x.2.1 = n)) (m.words.take j) = F) := by
            show _ = _
            rw [← ht.out]
            exact (miss (by simp [hx])).symm
          clear hx ht e1 hit miss hX
          go_wp2_with fail
          go_roundw
          case rel => exact ⟨j, by omega, by go_num, ht2, hg⟩
          case measure => simp [intOf]

/-
  Code of the document's answer.
-/
set_option maxHeartbeats 2000000 in
set_option maxRecDepth 100000 in
theorem w_r9code (v : Mv) (m : Mc) (o : ByteArray) (n : Int) (w : World) (h : Rd .i64 w v.vc m.codes) (hn : (Lit.int .i64 n).wf = true) :
    Calls Try.prog 27 #[.agg (v.cs m o), .int .i64 n] w fun e w' => e = .returned (.tuple #[.int .i64 (cdI (codF m.codes n)), .bool (codF m.codes n).isSome]) ∧ Below w.heap.size w w' := by
  have hn2 : -9223372036854775808 ≤ n ∧ n ≤ 9223372036854775807 := by
    simp [Lit.wf, IntKind.min, IntKind.max, IntKind.bits, IntKind.signed] at hn
    omega
  have bw := box_below w (.cells (v.cs m o) 32)
  have k3 := (stands_new w (v.cs m o) 32).cell 3 v.vc rfl
  obtain ⟨U, hU⟩ : ∃ X, v.cs m o = X := ⟨_, rfl⟩
  rw [hU] at k3 bw ⊢
  clear hU
  obtain ⟨F, hF⟩ : ∃ X, codF m.codes n = X := ⟨_, rfl⟩
  rw [hF]
  by_cases h0 : 2048 ≤ n
  · have hla := rd_len h uJ (P := Try.prog)
    unfold codF at hF
    rw [if_pos h0] at hF
    by_cases h1 : n - 2048 < (m.codes.length : Int)
    · obtain ⟨ad, r1, hc⟩ := rd_idx (h.below bw) uJ zJ (n - 2048) (by omega) h1
      have hi : (n - 2048).toNat < m.codes.length := by omega
      rw [List.getElem?_eq_getElem hi] at hF
      rw [List.getD_eq_getElem?_getD, List.getElem?_eq_getElem hi, Option.getD_some] at hc
      simp only at hF
      obtain ⟨X, hX⟩ : ∃ X, m.codes[(n - 2048).toNat] = X := ⟨_, rfl⟩
      rw [hX] at hF hc
      by_cases h2 : X = -1
      · rw [if_pos h2] at hF
        subst hF
        have q : (X != -1) = false := by simp [h2]
        clear h2 hX
        go_enter Try.func27, Try.ntmps27
        go_wp2_with fail
        go_ret2
        exact ⟨rfl, bw⟩
      · rw [if_neg h2] at hF
        subst hF
        have q : (X != -1) = true := by simpa using h2
        clear h2 hX
        go_enter Try.func27, Try.ntmps27
        go_wp2_with fail
        go_ret2
        exact ⟨rfl, bw⟩
    · rw [List.getElem?_eq_none (by omega)] at hF
      simp only at hF
      subst hF
      go_enter Try.func27, Try.ntmps27
      go_wp2_with fail
      go_ret2
      exact ⟨rfl, bw⟩
  · unfold codF at hF
    rw [if_neg h0] at hF
    have HF := hid hF
    clear hF
    have pl : (prmL.length : Int) = 111 := by rw [prm_len]; rfl
    go_enter Try.func27, Try.ntmps27
    go_wp2_with (go_at_call 14; refine (w_r9prims _).mono ?_; rintro e q1 ⟨u1, rfl, p1, b1⟩; have hla := slr_len p1 uM (P := Try.prog); rw [pl] at hla)
    go_loopw [7] (fun I wx => ∃ (k : Nat), (k : Int) ≤ 111 ∧ I = .int .i64 k ∧ Hid ((prmL.take k).findIdx? (fun p => decide (p.2 = n)) = none) ∧ Below q1.heap.size q1 wx) (fun I _ => (111 - intOf I).toNat)
    case atStart => exact ⟨0, by omega, rfl, hid rfl, Below.refl _ _⟩
    case round =>
      obtain ⟨k, hk, rfl, ht, hg⟩ := hrel
      by_cases hlt : (k : Int) < 111
      · have hkl : k < prmL.length := by omega
        obtain ⟨b2, o2, nm, r2, f0, f1, e1⟩ := prm_cell (p1.below hg (prmR_below hg)) k hkl
        have hit := fix_hit (fun p : List Int × Int => decide (p.2 = n)) prmL k hkl ht.out
        have miss := fix_take (fun p : List Int × Int => decide (p.2 = n)) prmL k hkl ht.out
        obtain ⟨X, hX⟩ : ∃ X, prmL[k].2 = X := ⟨_, rfl⟩
        rw [hX] at f1 hit miss
        by_cases hx : X = n
        · have q : (X == n) = true := by simp [hx]
          have hFk : F = some (k : Int) := by rw [← HF.out, hit (decide_eq_true hx)]; rfl
          subst hFk
          clear hx hit miss hX ht e1 HF
          go_wp2_with fail
          go_ret2
          exact ⟨rfl, below_trans (below_trans bw b1) hg⟩
        · have q : (X == n) = false := by simpa using hx
          have ht2 := hid (miss (decide_eq_false hx))
          clear hx hit miss hX ht e1
          go_wp2_with fail
          go_roundw
          case rel => exact ⟨k + 1, by omega, by go_num, ht2, hg⟩
          case measure => simp [intOf]; omega
      · have hFn : F = none := by
          rw [← HF.out]
          have := ht.out
          rw [List.take_of_length_le (by omega)] at this
          rw [this]
          rfl
        subst hFn
        clear ht HF
        go_wp2_with fail
        go_ret2
        exact ⟨rfl, below_trans (below_trans bw b1) hg⟩

end Go.Proofs.Ytfljcfpcokimcaa
