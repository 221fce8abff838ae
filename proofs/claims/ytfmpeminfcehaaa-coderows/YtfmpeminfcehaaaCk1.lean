/-
  What the landed package code asks of kinds: Index, Contains, among, is, are.
-/
import Derived.Test.YtfmpeminfcehaaaRk2
namespace Go.Proofs.Ytfmpeminfcehaaa
open Go.ChangeShapes Go.WideShapes Go.ChangeAt Go.RowKit
set_option linter.unusedVariables false
set_option linter.unusedSimpArgs false

theorem rd_maxJ {k : IntKind} {w : World} {v : Value} {xs : List Int} (h : Rd k w v xs) : xs.length ≤ maxLen := by
  rcases h with ⟨_, _, _, _, e⟩ | ⟨_, _, _, _, _, g1, g2, _⟩
  · rw [e]; simp
  · omega
theorem has_at {xs : List Int} {k : Nat} {a : Int} (h : k < xs.length) (e : xs.getD k 0 = a) : xs.contains a = true := by
  rw [List.getD_eq_getElem?_getD, List.getElem?_eq_getElem h] at e
  have e2 : xs[k] = a := e
  rw [List.contains_iff_mem, ← e2]
  exact List.getElem_mem h
theorem has_no {xs : List Int} {k : Nat} {a : Int} (hk : xs.length ≤ k) (h : ∀ i, i < k → ¬ xs.getD i 0 = a) : xs.contains a = false := by
  rw [Bool.eq_false_iff]
  intro g
  rw [List.contains_iff_mem] at g
  obtain ⟨i, hi, e⟩ := List.getElem_of_mem g
  refine h i (by omega) ?_
  rw [List.getD_eq_getElem?_getD, List.getElem?_eq_getElem hi]
  exact e
def hasK (xs : List Int) (a : Int) : Bool := xs.contains a

set_option maxHeartbeats 1000000 in
theorem w_p10index (v : Value) (xs : List Int) (a : Int) (w : World) (h : Rd .i64 w v xs) :
    Calls Try.prog 54 #[v, .int .i64 a] w fun e w' => ∃ i : Int, e = .returned (.int .i64 i) ∧ Hid (decide (0 ≤ i) = hasK xs a) ∧ w' = w := by
  have hla := rd_len h uJ (P := Try.prog)
  have hm := rd_maxJ h
  unfold maxLen at hm
  have HA := hid h
  clear h
  go_enter Try.func54, Try.ntmps54
  go_wp2_with fail
  go_loopw [8] (fun I wx => ∃ k : Nat, (k : Int) ≤ xs.length ∧ I = .int .i64 k ∧ Hid (∀ i, i < k → ¬ xs.getD i 0 = a) ∧ Hid (wx = w)) (fun I _ => (xs.length - intOf I).toNat)
  case atStart => exact ⟨0, by omega, rfl, hid (fun i hi => by omega), hid rfl⟩
  case round =>
    obtain ⟨k, hk, rfl, ht, hw⟩ := hrel
    have hw := hw.out
    subst hw
    by_cases hlt : (k : Int) < xs.length
    · obtain ⟨a1, i1, c1⟩ := rd_idx HA.out uJ zJ k (by omega) hlt
      simp only [Int.toNat_natCast] at c1
      obtain ⟨x, hx⟩ : ∃ x, xs.getD k 0 = x := ⟨_, rfl⟩
      rw [hx] at c1
      by_cases hxy : a = x
      · have hf : Hid (decide ((0 : Int) ≤ (k : Int)) = hasK xs a) := by
          show _ = _
          rw [show hasK xs a = true from has_at (by omega) (hx.trans hxy.symm)]
          exact decide_eq_true (by omega)
        have hb : (a == x) = true := by simp [hxy]
        clear hx hxy
        go_wp2_with fail
        go_ret
        exact ⟨k, rfl, hf, rfl⟩
      · have ht2 : Hid (∀ i, i < k + 1 → ¬ xs.getD i 0 = a) := by
          show ∀ i, _
          intro i hi
          by_cases e : i = k
          · subst e; rw [hx]; exact fun q => hxy q.symm
          · exact ht.out i (by omega)
        have hb : (a == x) = false := by simp [hxy]
        clear hx hxy
        go_wp2_with fail
        go_roundw
        case rel => exact ⟨k + 1, by omega, by go_num, ht2, hid trivial⟩
        case measure => simp [intOf]; omega
    · have hf : Hid (decide ((0 : Int) ≤ -1) = hasK xs a) := by
        show _ = _
        rw [show hasK xs a = false from has_no (by omega) ht.out]
        rfl
      go_wp2_with fail
      go_ret
      exact ⟨-1, rfl, hf, rfl⟩

theorem w_p10contains (v : Value) (xs : List Int) (a : Int) (w : World) (h : Rd .i64 w v xs) :
    Calls Try.prog 48 #[v, .int .i64 a] w fun e w' => e = .returned (.bool (hasK xs a)) ∧ w' = w := by
  have c := w_p10index v xs a w h
  go_enter Try.func48, Try.ntmps48
  go_wp2_with (go_at_call 54; refine c.mono ?_; rintro e w2 ⟨i, rfl, hi, hw⟩; obtain rfl := hw.symm; clear c)
  go_ret
  exact ⟨ret_b hi.out, rfl⟩

theorem w_p10among (v : Value) (xs : List Int) (a : Int) (w : World) (h : Rd .i64 w v xs) :
    Calls Try.prog 33 #[.int .i64 a, v] w fun e w' => e = .returned (.bool (hasK xs a)) ∧ w' = w := by
  have c := w_p10contains v xs a w h
  go_enter Try.func33, Try.ntmps33
  go_wp2_with (go_at_call 48; refine c.mono ?_; rintro e w2 ⟨rfl, hw⟩; obtain rfl := hw.symm; clear c)
  go_ret
  exact ⟨rfl, rfl⟩

/-- is it the number of an instruction of one of these kinds -/
def isK (c : List Opd) (ks : List Int) (n : Int) : Bool := hasK ks (kndF c n)

set_option maxHeartbeats 1000000 in
theorem w_p10is (vc v : Value) (c : List Opd) (ks : List Int) (n : Int) (w : World) (h : RdO w vc c) (hk : Rd .i64 w v ks) (h0 : hasK ks 0 = false) :
    Calls Try.prog 28 #[vc, .int .i64 n, v] w fun e w' => e = .returned (.bool (isK c ks n)) ∧ w' = w := by
  have hla := slr_len h uO (P := Try.prog)
  have ca := fun a => w_p10among v ks a w hk
  by_cases h1 : 0 ≤ n
  · have q0 : decide (0 ≤ n) = true := decide_eq_true h1
    by_cases h2 : n < (c.length : Int)
    · have q1 : decide (n < (c.length : Int)) = true := decide_eq_true h2
      obtain ⟨k, rfl⟩ : ∃ k : Nat, n = (k : Int) := ⟨n.toNat, by omega⟩
      have hkk : k < c.length := by omega
      obtain ⟨b1, o1, r1, j0, j1⟩ := op_at h k hkk
      have hf : kndF c k = c[k].1 := by
        rw [knd_at (by omega) (by omega), List.getD_eq_getElem?_getD, Int.toNat_natCast, List.getElem?_eq_getElem hkk]
        rfl
      unfold isK
      rw [hf]
      obtain ⟨A, hA⟩ : ∃ A, c[k].1 = A := ⟨_, rfl⟩
      rw [hA] at j0 ⊢
      clear hA hf
      go_enter Try.func28, Try.ntmps28
      go_wp2_with (go_at_call 33; refine (ca A).mono ?_; rintro e w2 ⟨rfl, hw⟩; obtain rfl := hw.symm; clear ca)
      go_ret
      exact ⟨rfl, rfl⟩
    · have q1 : decide (n < (c.length : Int)) = false := decide_eq_false h2
      have hf : Hid (isK c ks n = false) := by show _ = _; unfold isK kndF; rw [if_pos (Or.inr (by omega))]; exact h0
      go_enter Try.func28, Try.ntmps28
      go_wp2_with fail
      go_ret
      exact ⟨ret_b hf.out.symm, rfl⟩
  · have q0 : decide (0 ≤ n) = false := decide_eq_false h1
    have hf : Hid (isK c ks n = false) := by show _ = _; unfold isK kndF; rw [if_pos (Or.inl (by omega))]; exact h0
    go_enter Try.func28, Try.ntmps28
    go_wp2_with fail
    go_ret
    exact ⟨ret_b hf.out.symm, rfl⟩

theorem allK_no {α : Type} {p : α → Bool} {l : List α} {k : Nat} (h : k < l.length) (hp : p l[k] = false) : l.all p = false := by
  rw [Bool.eq_false_iff]
  intro g
  have := List.all_eq_true.1 g _ (List.getElem_mem h)
  rw [hp] at this
  cases this
theorem allK_step {α : Type} {p : α → Bool} {l : List α} {k : Nat} (h : k < l.length) (ht : (l.take k).all p = true) (hp : p l[k] = true) : (l.take (k + 1)).all p = true := by
  rw [List.take_succ_eq_append_getElem h, List.all_append, ht]
  simp [hp]
theorem allK_done {α : Type} {p : α → Bool} {l : List α} {k : Nat} (h : l.length ≤ k) (ht : (l.take k).all p = true) : l.all p = true := by
  rw [List.take_of_length_le h] at ht
  exact ht

set_option maxHeartbeats 1000000 in
theorem w_p10are (vc vl v : Value) (c : List Opd) (l ks : List Int) (w : World) (h : RdO w vc c) (hl : Rd .i64 w vl l) (hk : Rd .i64 w v ks) (h0 : hasK ks 0 = false) :
    Calls Try.prog 27 #[vc, vl, v] w fun e w' => e = .returned (.bool (l.all (isK c ks))) ∧ w' = w := by
  have hla := rd_len hl uJ (P := Try.prog)
  have hm := rd_maxJ hl
  unfold maxLen at hm
  have ci := fun n => w_p10is vc v c ks n w h hk h0
  have CI := hid ci
  have HL := hid hl
  clear hl h hk ci
  go_enter Try.func27, Try.ntmps27
  go_wp2_with fail
  go_loopw [11] (fun I wx => ∃ k : Nat, (k : Int) ≤ l.length ∧ I = .int .i64 k ∧ Hid ((l.take k).all (isK c ks) = true) ∧ Hid (wx = w)) (fun I _ => (l.length - intOf I).toNat)
  case atStart => exact ⟨0, by omega, rfl, hid rfl, hid rfl⟩
  case round =>
    obtain ⟨k, hk, rfl, ht, hw⟩ := hrel
    have hw := hw.out
    subst hw
    by_cases hlt : (k : Int) < l.length
    · have hkl : k < l.length := by omega
      obtain ⟨a1, i1, c1⟩ := rd_idx HL.out uJ zJ k (by omega) hlt
      simp only [Int.toNat_natCast] at c1
      rw [show l.getD k 0 = l[k] by rw [List.getD_eq_getElem?_getD, List.getElem?_eq_getElem hkl]; rfl] at c1
      have ci := CI.out l[k]
      cases hE : isK c ks l[k] with
      | true =>
        have ht2 : Hid ((l.take (k + 1)).all (isK c ks) = true) := allK_step hkl ht.out hE
        rw [hE] at ci
        obtain ⟨x, hx⟩ : ∃ x, l[k] = x := ⟨_, rfl⟩
        rw [hx] at c1 ci
        clear hx hE ht
        go_wp2_with (go_at_call 28; refine ci.mono ?_; rintro e w2 ⟨rfl, hw⟩; obtain rfl := hw.symm; clear ci)
        go_roundw
        case rel => exact ⟨k + 1, by omega, by go_num, ht2, hid trivial⟩
        case measure => simp [intOf]; omega
      | false =>
        have hf : Hid (l.all (isK c ks) = false) := allK_no hkl hE
        rw [hE] at ci
        obtain ⟨x, hx⟩ : ∃ x, l[k] = x := ⟨_, rfl⟩
        rw [hx] at c1 ci
        clear hx hE ht
        go_wp2_with (go_at_call 28; refine ci.mono ?_; rintro e w2 ⟨rfl, hw⟩; obtain rfl := hw.symm; clear ci)
        go_ret
        exact ⟨ret_b hf.out.symm, rfl⟩
    · have hf : Hid (l.all (isK c ks) = true) := allK_done (by omega) ht.out
      go_wp2_with fail
      go_ret
      exact ⟨ret_b hf.out.symm, rfl⟩
end Go.Proofs.Ytfmpeminfcehaaa
