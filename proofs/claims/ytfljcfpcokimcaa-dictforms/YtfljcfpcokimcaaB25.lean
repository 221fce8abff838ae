/-
  Texts of one proof, laid one behind the other: Dp5 Ps1.
-/
import Derived.Test.YtfljcfpcokimcaaB24
import Derived.Laws.BitsAllLaws
namespace Go.Proofs.Ytfljcfpcokimcaa
open Go.ChangeShapes Go.WideShapes Go.ChangeAt Go.RowKit
set_option linter.unusedVariables false
set_option linter.unusedSimpArgs false

/-
  Package dict's isFree, isAlive, noneOrAlive, grounded and instsFormed.
-/
theorem frI_parts (x : Iz) : frI x = (decide (x.1 = -1) && (decide (x.2.1 = -1) && (decide (x.2.2.1 = []) && decide (x.2.2.2 = [])))) := by
  unfold frI
  obtain ⟨a, b, c, d⟩ := x
  rw [Bool.eq_iff_iff]
  simp only [decide_eq_true_eq, Bool.and_eq_true, Prod.mk.injEq]
theorem emp_dec {s : ByteArray} {l : List Int} (h : L s = l) : decide (l = []) = s.toList.isEmpty := by
  by_cases g : s = ⟨#[]⟩
  · subst g
    have e1 : l = [] := by rw [← h]; decide +kernel
    rw [decide_eq_true e1]
    decide +kernel
  · rw [emp_no g, decide_eq_false_iff_not]
    intro e
    exact g (L_nil (by rw [h]; exact e))
theorem len_dec {α : Type} [DecidableEq α] (l : List α) (n : Nat) (h : l.length = n) : decide (l = []) = ((n : Int) == 0) := by
  subst h
  cases l with
  | nil => rfl
  | cons a r =>
    have : ((((a :: r).length : Nat) : Int) == 0) = false := by rw [beq_eq_false_iff_ne]; simp; omega
    rw [this]
    simp

set_option maxHeartbeats 2000000 in
set_option maxRecDepth 100000 in
theorem w_pisfree (x : Iz) (ar : ByteArray) (vc : Value) (w : World) (e1 : strOfNums x.2.2.1 = ar) (hc : Rd .u32 w vc x.2.2.2) (bx : bytesL x.2.2.1) :
    Calls Try.prog 75 #[.agg #[.int .i64 x.1, .int .i64 x.2.1, .string ar, vc]] w fun e w' => e = .returned (.bool (frI x)) ∧ Below w.heap.size w w' := by
  rw [frI_parts]
  obtain ⟨x1, x2, x3, x4⟩ := x
  simp only at e1 hc bx ⊢
  have hL : L ar = x3 := by rw [← e1]; exact LB_nums _ bx
  rw [emp_dec hL]
  have hla := rd_len hc uU (P := Try.prog)
  obtain ⟨ca, cq, rfl⟩ := rd_slice hc
  obtain ⟨n4, hn4⟩ : ∃ n, x4.length = n := ⟨_, rfl⟩
  rw [len_dec x4 n4 hn4]
  rw [hn4] at hla ⊢
  have bw := box_below w (.cells #[.int .i64 x1, .int .i64 x2, .string ar, .slice ca n4 cq] 83)
  have st := stands_new w #[.int .i64 x1, .int .i64 x2, .string ar, .slice ca n4 cq] 83
  have f0 := st.cell 0 _ rfl
  have f1 := st.cell 1 _ rfl
  have f2 := st.cell 2 _ rfl
  have f3 := st.cell 3 _ rfl
  clear hn4 hL e1 bx st hc
  by_cases h1 : x1 = -1
  · have q1 : (x1 == -1) = true := by simpa using h1
    rw [decide_eq_true h1, Bool.true_and]
    clear h1
    by_cases h2 : x2 = -1
    · have q2 : (x2 == -1) = true := by simpa using h2
      rw [decide_eq_true h2, Bool.true_and]
      clear h2
      cases q3 : ar.toList.isEmpty
      · rw [Bool.false_and]
        go_enter Try.func75, Try.ntmps75
        go_wp2_with fail
        go_ret
        exact ⟨rfl, bw⟩
      · rw [Bool.true_and]
        go_enter Try.func75, Try.ntmps75
        go_wp2_with fail
        go_ret
        exact ⟨rfl, bw⟩
    · have q2 : (x2 == -1) = false := by simpa using h2
      rw [decide_eq_false h2, Bool.false_and]
      clear h2
      go_enter Try.func75, Try.ntmps75
      go_wp2_with fail
      go_ret
      exact ⟨rfl, bw⟩
  · have q1 : (x1 == -1) = false := by simpa using h1
    rw [decide_eq_false h1, Bool.false_and]
    clear h1
    go_enter Try.func75, Try.ntmps75
    go_wp2_with fail
    go_ret
    exact ⟨rfl, bw⟩
theorem no_slash (l : List Int) : l.all (fun c => decide (¬ c = 47)) = decide (¬ (47 : Int) ∈ l) := by
  rw [Bool.eq_iff_iff, List.all_eq_true, decide_eq_true_eq]
  constructor
  · intro h g
    have := h 47 g
    simp at this
  · intro h x hx
    rw [decide_eq_true_eq]
    intro e
    exact h (by rw [← e]; exact hx)

set_option maxHeartbeats 2000000 in
set_option maxRecDepth 100000 in
theorem w_pisalive (x : Iz) (ar : ByteArray) (vc vt : Value) (t : List Nd) (w : World) (e1 : strOfNums x.2.2.1 = ar) (hc : Rd .u32 w vc x.2.2.2) (bx : bytesL x.2.2.1) (ht : RdT w vt t) :
    Calls Try.prog 76 #[.agg #[.int .i64 x.1, .int .i64 x.2.1, .string ar, vc], vt] w fun e w' => e = .returned (.bool (alI t x)) ∧ Below w.heap.size w w' := by
  obtain ⟨R, hR⟩ : ∃ R, alI t x = R := ⟨_, rfl⟩
  rw [hR]
  unfold alI at hR
  obtain ⟨x1, x2, x3, x4⟩ := x
  simp only at e1 hc bx hR ⊢
  have hL : L ar = x3 := by rw [← e1]; exact LB_nums _ bx
  have hsz : (x3.length : Int) = ar.size := by rw [← hL, L_len]
  have hla := rd_len hc uU (P := Try.prog)
  have hlt := slr_len ht uN (P := Try.prog)
  have cC := fun W => w_cont47 ar W
  rw [hL, no_slash] at cC
  obtain ⟨S, hS⟩ : ∃ S, decide (¬ (47 : Int) ∈ x3) = S := ⟨_, rfl⟩
  rw [hS] at hR cC
  obtain ⟨ca, cq, rfl⟩ := rd_slice hc
  obtain ⟨n4, hn4⟩ : ∃ n, x4.length = n := ⟨_, rfl⟩
  rw [hn4] at hla hR ⊢
  have bw := box_below w (.cells #[.int .i64 x1, .int .i64 x2, .string ar, .slice ca n4 cq] 83)
  have st := stands_new w #[.int .i64 x1, .int .i64 x2, .string ar, .slice ca n4 cq] 83
  have f0 := st.cell 0 _ rfl
  have f2 := st.cell 2 _ rfl
  have f3 := st.cell 3 _ rfl
  have HT := hid ht
  clear hn4 hL e1 bx st hc ht hS
  by_cases h0 : x1 < 0
  · have q0 : decide (x1 < 0) = true := decide_eq_true h0
    have hF : R = false := by rw [← hR, decide_eq_false (by omega), Bool.false_and]
    subst hF
    clear hR HT
    go_enter Try.func76, Try.ntmps76
    go_wp2_with fail
    go_quiet (fail)
    go_wp2_with fail
    go_ret
    exact ⟨rfl, below_drewN bw _⟩
  · have q0 : decide (x1 < 0) = false := decide_eq_false h0
    by_cases h1 : (t.length : Int) ≤ x1
    · have q1 : decide ((t.length : Int) ≤ x1) = true := decide_eq_true h1
      have hF : R = false := by rw [← hR, decide_eq_false (by omega), Bool.false_and]
      subst hF
      clear hR HT
      go_enter Try.func76, Try.ntmps76
      go_wp2_with fail
      go_quiet (fail)
      go_wp2_with fail
      go_ret
      exact ⟨rfl, below_drewN bw _⟩
    · have q1 : decide ((t.length : Int) ≤ x1) = false := decide_eq_false h1
      obtain ⟨j, rfl⟩ : ∃ j : Nat, x1 = (j : Int) := ⟨x1.toNat, by omega⟩
      have hj : j < t.length := by omega
      have hjt : (j : Int) < (t.length : Int) := by omega
      obtain ⟨bn, on, nn, vu, vp, vc2, rn, fn0, fn1, fn2, fn3, fn4, en, hun, hpn, hcn⟩ := nod_at (RdT.below HT.out bw) j hj
      have hlc := rd_len hcn uU (P := Try.prog)
      obtain ⟨na, nq, rfl⟩ := rd_slice hcn
      rw [decide_eq_true (by omega), Bool.true_and, Int.toNat_natCast, List.getD_eq_getElem?_getD, List.getElem?_eq_getElem hj, Option.getD_some] at hR
      obtain ⟨k4, hk4⟩ : ∃ k, t[j].2.2.2.2.length = k := ⟨_, rfl⟩
      rw [hk4] at hR hlc fn4
      clear en hun hpn hcn hk4 HT
      by_cases h2 : n4 = k4
      · have q2 : ((n4 : Int) != (k4 : Int)) = false := by simp [h2]
        rw [decide_eq_true h2, Bool.true_and] at hR
        have f2d := fun n => below_cell (below_drewN (Below.refl _ (w.alloc (.cells #[.int .i64 (j : Int), .int .i64 x2, .string ar, .slice ca n4 cq] 83))) n) f2
        by_cases h3 : (ar.size : Int) ≤ 256
        · have q3 : decide ((ar.size : Int) ≤ 256) = true := decide_eq_true h3
          have hF : R = S := by rw [← hR, decide_eq_true (by omega), Bool.true_and]
          subst hF
          clear hR h2 hsz
          go_enter Try.func76, Try.ntmps76
          go_wp2_with fail
          go_quiet (fail)
          go_wp2_with (go_at_call 92; refine (cC _).mono ?_; rintro e w1 ⟨rfl, hw1⟩; obtain rfl := hw1.symm)
          go_ret
          exact ⟨by simp, below_drewN bw _⟩
        · have q3 : decide ((ar.size : Int) ≤ 256) = false := decide_eq_false h3
          have hF : R = false := by rw [← hR, decide_eq_false (by omega), Bool.false_and]
          subst hF
          clear hR h2 hsz
          go_enter Try.func76, Try.ntmps76
          go_wp2_with fail
          go_quiet (fail)
          go_wp2_with fail
          go_ret
          exact ⟨rfl, below_drewN bw _⟩
      · have q2 : ((n4 : Int) != (k4 : Int)) = true := by simpa using (by omega : ¬ (n4 : Int) = (k4 : Int))
        have hF : R = false := by rw [← hR, decide_eq_false h2, Bool.false_and]
        subst hF
        clear hR h2
        go_enter Try.func76, Try.ntmps76
        go_wp2_with fail
        go_quiet (fail)
        go_wp2_with fail
        go_ret
        exact ⟨rfl, below_drewN bw _⟩

set_option maxHeartbeats 1000000 in
set_option maxRecDepth 100000 in
theorem w_pnoal (v : Value) (l : List Iz) (p : Int) (w : World) (h : RdI w v l) :
    Calls Try.prog 45 #[v, .int .i64 p] w fun e w' => e = .returned (.bool (noaF l p)) ∧ w' = w := by
  have hla := slr_len h uI (P := Try.prog)
  have cb := fun W => w_pnob p l.length W
  obtain ⟨R, hR⟩ : ∃ R, noaF l p = R := ⟨_, rfl⟩
  rw [hR]
  unfold noaF at hR
  by_cases h0 : -1 ≤ p ∧ p < (l.length : Int)
  · simp only [decide_eq_true h0] at cb
    rw [decide_eq_true h0, Bool.true_and] at hR
    by_cases h1 : p = -1
    · have q1 : (p == -1) = true := by simpa using h1
      rw [decide_eq_true h1, Bool.true_or] at hR
      subst hR
      clear h1 h0
      go_enter Try.func45, Try.ntmps45
      go_wp2_with (go_at_call 41; refine (cb _).mono ?_; rintro e w1 ⟨rfl, hw1⟩; obtain rfl := hw1.symm)
      go_ret
      exact ⟨rfl, rfl⟩
    · obtain ⟨j, rfl⟩ : ∃ j : Nat, p = (j : Int) := ⟨p.toNat, by omega⟩
      have hj : j < l.length := by omega
      have hj2 : (j : Int) < l.length := by omega
      obtain ⟨b1, o1, ar, vc, r1, f0, f1, f2, f3, e1, hc⟩ := ins_at h j hj
      rw [decide_eq_false h1, Bool.false_or, Int.toNat_natCast, List.getD_eq_getElem?_getD, List.getElem?_eq_getElem hj, Option.getD_some] at hR
      have q1 : ((j : Int) == -1) = false := by rw [beq_eq_false_iff_ne]; omega
      obtain ⟨X, hX⟩ : ∃ X, l[j].1 = X := ⟨_, rfl⟩
      rw [hX] at f0 hR
      have hE : R = (X != -1) := by
        rw [← hR, Bool.eq_iff_iff, decide_eq_true_eq, bne_iff_ne]
      subst hE
      clear h1 h0 hX hR e1 hc
      go_enter Try.func45, Try.ntmps45
      go_wp2_with (go_at_call 41; refine (cb _).mono ?_; rintro e w1 ⟨rfl, hw1⟩; obtain rfl := hw1.symm)
      go_ret
      exact ⟨rfl, rfl⟩
  · simp only [decide_eq_false h0] at cb
    rw [decide_eq_false h0, Bool.false_and] at hR
    subst hR
    clear h0
    go_enter Try.func45, Try.ntmps45
    go_wp2_with (go_at_call 41; refine (cb _).mono ?_; rintro e w1 ⟨rfl, hw1⟩; obtain rfl := hw1.symm)
    go_ret
    exact ⟨rfl, rfl⟩

set_option maxHeartbeats 2000000 in
set_option maxRecDepth 100000 in
theorem w_pground (v : Value) (l : List Iz) (i : Nat) (w : World) (h : RdI w v l) (hi : i < l.length) :
    Calls Try.prog 77 #[v, .int .i64 i] w fun e w' => e = .returned (.bool (grF l l.length i)) ∧ w' = w := by
  have hla := slr_len h uI (P := Try.prog)
  have hm := slr_max h
  unfold maxLen at hm
  obtain ⟨R, hR⟩ : ∃ R, grF l l.length i = R := ⟨_, rfl⟩
  rw [hR]
  have HR := hid hR
  clear hR
  go_enter Try.func77, Try.ntmps77
  go_wp2_with fail
  go_loopw [1, 7] (fun A I wx => ∃ (a k : Nat), (k : Int) ≤ l.length ∧ A = .int .i64 a ∧ I = .int .i64 k ∧ (a : Int) < l.length ∧ Hid (grF l (l.length - k) a = R) ∧ wx = w) (fun A I _ => (l.length - intOf I).toNat)
  case atStart => exact ⟨i, 0, by omega, rfl, rfl, by omega, HR, rfl⟩
  case round =>
    obtain ⟨a, k, hk, rfl, rfl, ha, ht, hw⟩ := hrel
    obtain rfl := hw.symm
    by_cases hlt : (k : Int) < l.length
    · have hal : a < l.length := by omega
      obtain ⟨b1, o1, ar, vc, r1, f0, f1, f2, f3, e1, hc⟩ := ins_at h a hal
      obtain ⟨f, hf⟩ : ∃ f, l.length - k = f + 1 := ⟨l.length - k - 1, by omega⟩
      have hk1 : l.length - (k + 1) = f := by omega
      have ht1 := ht.out
      rw [hf, grF] at ht1
      have hp : parF9 l (a : Int) = l[a].2.1 := by
        unfold parF9
        rw [Int.toNat_natCast, List.getD_eq_getElem?_getD, List.getElem?_eq_getElem hal]
        rfl
      rw [hp] at ht1
      obtain ⟨P, hP⟩ : ∃ P, l[a].2.1 = P := ⟨_, rfl⟩
      rw [hP] at ht1 f1
      have cn := fun W (g : W = w) => w_pnoal v l P W (by rw [g]; exact h)
      cases hn : noaF l P
      · rw [hn, Bool.false_and] at ht1
        simp only [hn] at cn
        subst ht1
        clear ht hn hP hp hf hk1 HR e1 hc
        go_wp2_with (go_at_call 45; refine (cn _ rfl).mono ?_; rintro e w1 ⟨rfl, hw1⟩; obtain rfl := hw1.symm)
        go_ret
        exact ⟨rfl, rfl⟩
      · rw [hn, Bool.true_and] at ht1
        simp only [hn] at cn
        have hr : -1 ≤ P ∧ P < (l.length : Int) := by
          simp only [noaF, Bool.and_eq_true, decide_eq_true_eq] at hn
          exact hn.1
        by_cases h1 : P = -1
        · have q1 : (P == -1) = true := by simpa using h1
          rw [decide_eq_true h1, Bool.true_or] at ht1
          subst ht1
          clear ht hn hP hp hf hk1 HR e1 hc h1
          go_wp2_with (go_at_call 45; refine (cn _ rfl).mono ?_; rintro e w1 ⟨rfl, hw1⟩; obtain rfl := hw1.symm)
          go_ret
          exact ⟨rfl, rfl⟩
        · have q1 : (P == -1) = false := by simpa using h1
          rw [decide_eq_false h1, Bool.false_or] at ht1
          obtain ⟨j, rfl⟩ : ∃ j : Nat, P = (j : Int) := ⟨P.toNat, by omega⟩
          have ht2 : Hid (grF l (l.length - (k + 1)) (j : Int) = R) := by show _ = _; rw [hk1]; exact ht1
          have hjl : (j : Int) < l.length := hr.2
          clear ht hn hP hp hf hk1 HR e1 hc h1 ht1 hr
          go_wp2_with (go_at_call 45; refine (cn _ rfl).mono ?_; rintro e w1 ⟨rfl, hw1⟩; obtain rfl := hw1.symm)
          go_roundw
          case rel => exact ⟨j, k + 1, by omega, rfl, by go_num, hjl, ht2, trivial⟩
          case measure => simp [intOf]; omega
    · have hE : R = false := by
        rw [← ht.out, show l.length - k = 0 by omega]
        rfl
      subst hE
      clear ht HR
      go_wp2_with fail
      go_ret
      exact ⟨rfl, rfl⟩
theorem inp_len {l : List Iz} {t : List Nd} (h : ¬ l.length ≤ 16) : insF l t = false := by
  rw [insF_as]
  unfold inpF
  rw [decide_eq_false h, Bool.false_and]
theorem inp_bad {l : List Iz} {t : List Nd} {k : Nat} (hk : k < l.length) (h : okZ9 t l[k] = false) : insF l t = false := by
  rw [insF_as]
  unfold inpF
  have : l.all (okZ9 t) = false := List.all_eq_false.2 ⟨_, List.getElem_mem hk, by rw [h]; decide⟩
  rw [this, Bool.false_and, Bool.and_false]
theorem inp_gr {l : List Iz} {t : List Nd} {k : Nat} (hk : k < l.length) (h : grF l l.length k = false) : insF l t = false := by
  rw [insF_as]
  unfold inpF
  have : (List.range l.length).all (fun (j : Nat) => grF l l.length (j : Int)) = false := List.all_eq_false.2 ⟨k, List.mem_range.2 hk, by rw [h]; decide⟩
  rw [this, Bool.and_false, Bool.and_false]
theorem inp_yes {l : List Iz} {t : List Nd} (h0 : l.length ≤ 16) (h1 : ∀ k (hk : k < l.length), okZ9 t l[k] = true) (h2 : ∀ k, k < l.length → grF l l.length (k : Nat) = true) : insF l t = true := by
  rw [insF_as]
  unfold inpF
  have e1 : l.all (okZ9 t) = true := List.all_eq_true.2 fun x hx => by
    obtain ⟨k, hk, rfl⟩ := List.getElem_of_mem hx
    exact h1 k hk
  have e2 : (List.range l.length).all (fun (j : Nat) => grF l l.length (j : Int)) = true := List.all_eq_true.2 fun j hj => h2 j (List.mem_range.1 hj)
  rw [decide_eq_true h0, e1, e2]
  rfl

set_option maxHeartbeats 4000000 in
set_option maxRecDepth 100000 in
theorem w_pinsts (v vt : Value) (l : List Iz) (t : List Nd) (w : World) (h : RdI w v l) (ht : RdT w vt t) (bx : ∀ x ∈ l, bytesL x.2.2.1) :
    Calls Try.prog 44 #[v, vt] w fun e w' => e = .returned (.bool (insF l t)) ∧ Below w.heap.size w w' := by
  have hla := slr_len h uI (P := Try.prog)
  have hm := slr_max h
  unfold maxLen at hm
  by_cases h16 : (16 : Int) < l.length
  · have hf := hid (inp_len (l := l) (t := t) (by omega))
    go_enter Try.func44, Try.ntmps44
    go_wp2_with fail
    go_ret
    exact ⟨ret_b hf.out.symm, Below.refl _ _⟩
  · have hlen : Hid (l.length ≤ 16) := by show _ ≤ _; omega
    go_enter Try.func44, Try.ntmps44
    go_wp2_with fail
    go_loopw [13] (fun I wx => ∃ k : Nat, (k : Int) ≤ l.length ∧ I = .int .i64 k ∧ Hid (∀ j (g : j < k) (hj : j < l.length), okZ9 t l[j] = true) ∧ Below w.heap.size w wx) (fun I _ => (l.length - intOf I).toNat)
    case atStart => exact ⟨0, by omega, rfl, hid (fun j g => by omega), Below.refl _ _⟩
    case round =>
      obtain ⟨k, hk, rfl, hok, hb⟩ := hrel
      by_cases hlt : (k : Int) < l.length
      · have hkl : k < l.length := by omega
        obtain ⟨b1, o1, ar, vc, r1, f0, f1, f2, f3, e1, hc⟩ := ins_at (RdI.below h hb) k hkl
        have bk := bx _ (List.getElem_mem hkl)
        have cf := fun W (g : Below wr.heap.size wr W) => w_pisfree l[k] ar vc W e1 (hc.below g) bk
        have ca := fun W (g : Below wr.heap.size wr W) => w_pisalive l[k] ar vc vt t W e1 (hc.below g) bk (ht.below (below_trans hb g))
        have bad := fun g => hid (inp_bad (l := l) (t := t) hkl g)
        have hokE : okZ9 t l[k] = (frI l[k] || alI t l[k]) := rfl
        obtain ⟨X1, hX1⟩ : ∃ X, l[k].1 = X := ⟨_, rfl⟩
        obtain ⟨X2, hX2⟩ : ∃ X, l[k].2.1 = X := ⟨_, rfl⟩
        obtain ⟨n4, hn4⟩ : ∃ X, l[k].2.2.2.length = X := ⟨_, rfl⟩
        obtain ⟨a4, q4, rfl⟩ := rd_slice hc
        rw [hX1] at f0
        rw [hX2] at f1
        rw [hn4] at f3
        simp only [hX1, hX2, hn4] at cf ca
        have st := stands_new wr #[.int .i64 X1, .int .i64 X2, .string ar, .slice a4 n4 q4] 83
        have hbx := box_below wr (.cells #[.int .i64 X1, .int .i64 X2, .string ar, .slice a4 n4 q4] 83)
        have cfb := cf _ hbx
        have HC := hid hc
        clear hX1 hX2 hn4 cf hc e1 HC
        cases hF : frI l[k]
        · rw [hF] at cfb hokE
          rw [Bool.false_or] at hokE
          cases hA : alI t l[k]
          · have hf := bad (by rw [hokE, hA])
            simp only [hA] at ca
            clear hF hA bad hok hokE
            go_wp2_with (first
              | (go_at_call 75; refine cfb.mono ?_; rintro e w1 ⟨rfl, d1⟩; have y := st.below d1; have y0 := y.cell 0 _ rfl; have y1 := y.cell 1 _ rfl; have y2 := y.cell 2 _ rfl; have y3 := y.cell 3 _ rfl)
              | (go_at_call 76; refine (ca _ (below_trans hbx d1)).mono ?_; rintro e w2 ⟨rfl, d2⟩))
            go_ret
            exact ⟨ret_b hf.out.symm, below_trans hb (below_trans hbx (below_trans d1 d2))⟩
          · have hok2 : Hid (∀ j (g : j < k + 1) (hj : j < l.length), okZ9 t l[j] = true) := by
              show ∀ j _ _, _
              intro j g hj
              by_cases hjk : j < k
              · exact hok.out j hjk hj
              · have : j = k := by omega
                subst this
                rw [hokE, hA]
            simp only [hA] at ca
            clear hF hA bad hok hokE
            go_wp2_with (first
              | (go_at_call 75; refine cfb.mono ?_; rintro e w1 ⟨rfl, d1⟩; have y := st.below d1; have y0 := y.cell 0 _ rfl; have y1 := y.cell 1 _ rfl; have y2 := y.cell 2 _ rfl; have y3 := y.cell 3 _ rfl)
              | (go_at_call 76; refine (ca _ (below_trans hbx d1)).mono ?_; rintro e w2 ⟨rfl, d2⟩))
            go_roundw
            case rel => exact ⟨k + 1, by omega, by go_num, hok2, below_trans hb (below_trans hbx (below_trans d1 d2))⟩
            case measure => simp [intOf]; omega
        · rw [hF] at cfb hokE
          have hok2 : Hid (∀ j (g : j < k + 1) (hj : j < l.length), okZ9 t l[j] = true) := by
            show ∀ j _ _, _
            intro j g hj
            by_cases hjk : j < k
            · exact hok.out j hjk hj
            · have : j = k := by omega
              subst this
              rw [hokE, Bool.true_or]
          clear hF bad hok hokE ca
          go_wp2_with (first
            | (go_at_call 75; refine cfb.mono ?_; rintro e w1 ⟨rfl, d1⟩; have y := st.below d1; have y0 := y.cell 0 _ rfl; have y1 := y.cell 1 _ rfl; have y2 := y.cell 2 _ rfl; have y3 := y.cell 3 _ rfl))
          go_roundw
          case rel => exact ⟨k + 1, by omega, by go_num, hok2, below_trans hb (below_trans hbx d1)⟩
          case measure => simp [intOf]; omega
      · have hok1 : Hid (∀ j (hj : j < l.length), okZ9 t l[j] = true) := fun j hj => hok.out j (by omega) hj
        obtain ⟨w0, hw0⟩ : ∃ w0, w0 = wr := ⟨_, rfl⟩
        subst hw0
        have hb0 := hb
        clear hok hb
        go_wp2_with fail
        go_loopw [29] (fun I wx => ∃ k : Nat, (k : Int) ≤ l.length ∧ I = .int .i64 k ∧ Hid (∀ j (g : j < k) (hj : j < l.length), grF l l.length (j : Nat) = true) ∧ Below w.heap.size w wx) (fun I _ => (l.length - intOf I).toNat)
        case atStart => exact ⟨0, by omega, rfl, hid (fun j g => by omega), hb0⟩
        case round =>
          obtain ⟨i, hi, rfl, hoi, hb⟩ := hrel
          by_cases hlti : (i : Int) < l.length
          · have hil : i < l.length := by omega
            have cg := w_pground v l i wr (RdI.below h hb) hil
            cases hG : grF l l.length (i : Nat)
            · have hf := hid (inp_gr (t := t) hil hG)
              rw [hG] at cg
              clear hG hoi
              go_wp2_with (go_at_call 77; refine cg.mono ?_; rintro e w1 ⟨rfl, hw1⟩; obtain rfl := hw1.symm)
              go_ret
              exact ⟨ret_b hf.out.symm, hb⟩
            · have hoi2 : Hid (∀ j (g : j < i + 1) (hj : j < l.length), grF l l.length (j : Nat) = true) := by
                show ∀ j _ _, _
                intro j g hj
                by_cases hjk : j < i
                · exact hoi.out j hjk hj
                · have : j = i := by omega
                  subst this
                  exact hG
              rw [hG] at cg
              clear hG hoi
              go_wp2_with (go_at_call 77; refine cg.mono ?_; rintro e w1 ⟨rfl, hw1⟩; obtain rfl := hw1.symm)
              go_roundw
              case rel => exact ⟨i + 1, by omega, by go_num, hoi2, hb⟩
              case measure => simp [intOf]; omega
          · have hf := hid (inp_yes (t := t) hlen.out hok1.out (fun j hj => hoi.out j (by omega) hj))
            clear hoi
            go_wp2_with fail
            go_ret
            exact ⟨ret_b hf.out.symm, hb⟩

/-
  Names, numbers, texts and rows of bytes, as package prop answers them.
-/
theorem barred : L ⟨#[47, 92, 58, 91, 93, 64]⟩ = [47, 92, 58, 91, 93, 64] := by decide +kernel
theorem atB_bar {c i : Int} (h : AtB (L ⟨#[47, 92, 58, 91, 93, 64]⟩) c i) (h0 : 33 ≤ c) (h1 : c ≤ 126) (h2 : ¬ (65 ≤ c ∧ c ≤ 90)) : decide (i < 0) = nmC c := by
  rw [barred] at h
  rcases h with ⟨rfl, h⟩ | ⟨k, rfl, hk, he, h⟩
  · have a := h 47 (by simp); have b := h 92 (by simp); have d := h 58 (by simp); have e := h 91 (by simp); have f := h 93 (by simp); have g := h 64 (by simp)
    unfold nmC
    simp
    omega
  · have hm : c ∈ ([47, 92, 58, 91, 93, 64] : List Int) := by rw [he]; simp
    have hc : c = 47 ∨ c = 92 ∨ c = 58 ∨ c = 91 ∨ c = 93 ∨ c = 64 := by simpa using hm
    have e : nmC c = false := by
      unfold nmC
      rw [decide_eq_false_iff_not]
      omega
    rw [e, decide_eq_false_iff_not]
    omega

set_option maxHeartbeats 1000000 in
set_option maxRecDepth 100000 in
theorem w_inn (c : Int) (w : World) (h0 : 0 ≤ c) (h1 : c < 256) : Calls Try.prog 97 #[.int .u8 c] w fun e w' => e = .returned (.bool (nmC c)) ∧ Below w.heap.size w w' := by
  rcases (show c < 33 ∨ 126 < c ∨ (65 ≤ c ∧ c ≤ 90) ∨ (33 ≤ c ∧ c < 65) ∨ (90 < c ∧ c ≤ 126) by omega) with h | h | ⟨h, g⟩ | ⟨h, g⟩ | ⟨h, g⟩
  · have e : nmC c = false := by unfold nmC; simp; omega
    rw [e]
    clear e
    go_enter Try.func97, Try.ntmps97
    go_wp2_with fail
    go_ret
    exact ⟨rfl, Below.refl _ _⟩
  · have e : nmC c = false := by unfold nmC; simp; omega
    rw [e]
    clear e
    go_enter Try.func97, Try.ntmps97
    go_wp2_with fail
    go_ret
    exact ⟨rfl, Below.refl _ _⟩
  · have e : nmC c = false := by unfold nmC; simp; omega
    rw [e]
    clear e
    go_enter Try.func97, Try.ntmps97
    go_wp2_with fail
    go_ret
    exact ⟨rfl, Below.refl _ _⟩
  · go_enter Try.func97, Try.ntmps97
    go_wp2_with (go_at_call 101; refine (w_sib _ c _ h0 h1).mono ?_; rintro e w1 ⟨i, rfl, hi, rfl⟩; have H := hid (atB_bar hi (by omega) (by omega) (by omega)); clear hi)
    go_ret
    exact ⟨ret_b (by first | exact H.out | (rw [← H.out, decide_eq_false (show ¬ c ≤ 90 by omega)]; rfl)), Below.refl _ _⟩
  · go_enter Try.func97, Try.ntmps97
    go_wp2_with (go_at_call 101; refine (w_sib _ c _ h0 h1).mono ?_; rintro e w1 ⟨i, rfl, hi, rfl⟩; have H := hid (atB_bar hi (by omega) (by omega) (by omega)); clear hi)
    go_ret
    exact ⟨ret_b (by first | exact H.out | (rw [← H.out, decide_eq_false (show ¬ c ≤ 90 by omega)]; rfl)), Below.refl _ _⟩

set_option maxHeartbeats 1000000 in
set_option maxRecDepth 100000 in
theorem w_pnamed (s : ByteArray) (w : World) (hs : s.size ≤ maxLen) :
    Calls Try.prog 89 #[.string s] w fun e w' => e = .returned (.bool (nmF (L s))) ∧ Below w.heap.size w w' := by
  have hs2 := hs
  unfold maxLen at hs2
  by_cases h0 : s.size = 0
  · have hs : s = ⟨#[]⟩ := by
      apply ByteArray.ext
      exact Array.eq_empty_of_size_eq_zero h0
    subst hs
    go_enter Try.func89, Try.ntmps89
    go_wp2_with fail
    go_ret
    exact ⟨rfl, Below.refl _ _⟩
  · have hemp : s.toList.isEmpty = false := by
      rw [← decide_eq_emptyBytes]
      exact decide_eq_false (fun h => h0 (by rw [h]; rfl))
    by_cases h31 : (31 : Int) < s.size
    · have e : nmF (L s) = false := by unfold nmF; rw [L_len, show decide (1 ≤ s.size ∧ s.size ≤ 31) = false by simp; omega]; rfl
      rw [e]
      clear e
      go_enter Try.func89, Try.ntmps89
      go_wp2_with fail
      go_ret
      exact ⟨rfl, Below.refl _ _⟩
    · go_enter Try.func89, Try.ntmps89
      go_wp2_with fail
      go_loopw [13] (fun I wx => ∃ (k : Nat), (k : Int) ≤ s.size ∧ I = .int .i64 k ∧ Hid (((L s).take k).all nmC = true) ∧ Below w.heap.size w wx) (fun I _ => (s.size - intOf I).toNat)
      case atStart => exact ⟨0, by omega, rfl, hid rfl, Below.refl _ _⟩
      case round =>
        obtain ⟨k, hk, rfl, ha, hb⟩ := hrel
        by_cases hlt : (k : Int) < s.size
        · have hkk : k < s.size := by omega
          obtain ⟨c, hc⟩ : ∃ c, (s[k].toNat : Int) = c := ⟨_, rfl⟩
          have hcb := L_bd s k hkk
          rw [hc] at hcb
          obtain ⟨c0, c1⟩ := hcb
          have hLd : Hid (L s = (L s).take k ++ c :: (L s).drop (k + 1)) := by
            show _ = _
            rw [← hc, ← L_drop s k hkk, List.take_append_drop]
          have hLt : Hid ((L s).take (k + 1) = (L s).take k ++ [c]) := by show _ = _; rw [← hc]; exact L_take s k hkk
          have hrun := run_at (w := wr) s k hkk hs
          rw [hc] at hrun
          have cn := w_inn c wr c0 c1
          cases hcc : nmC c
          · have hf : Hid (nmF (L s) = false) := by show _ = _; rw [hLd.out]; exact nm_mid _ _ _ hcc
            rw [hcc] at cn
            clear hcc hLd hLt hc
            go_wp2_with (go_at_call 97; refine cn.mono ?_; rintro e w1 ⟨rfl, b1⟩)
            go_ret
            exact ⟨ret_b hf.out.symm, below_trans hb b1⟩
          · have ha2 : Hid (((L s).take (k + 1)).all nmC = true) := by
              show _ = _
              rw [hLt.out, List.all_append, ha.out]
              simp [hcc]
            rw [hcc] at cn
            clear hcc hLd hLt hc
            go_wp2_with (go_at_call 97; refine cn.mono ?_; rintro e w1 ⟨rfl, b1⟩)
            go_roundw
            case rel => exact ⟨k + 1, by omega, by go_num, ha2, below_trans hb b1⟩
            case measure => simp [intOf]; omega
        · have hall := ha.out
          rw [List.take_of_length_le (by rw [L_len]; omega)] at hall
          have hf : Hid (nmF (L s) = true) := by show _ = _; unfold nmF; rw [hall, L_len]; simp; omega
          clear hall
          obtain rfl : k = s.size := by omega
          go_wp2_with fail
          go_ret
          exact ⟨ret_b hf.out.symm, hb⟩

/-- bytes of a text -/
theorem rd_conv (w : World) (s : ByteArray) (hs : s.size ≤ maxLen) : Rd .u8 (Lib.bytesWorld w 5 s) (.slice (some ⟨w.heap.size, 0, none⟩) s.size (grownCap w s.size 0 5)) (L s) := by
  rcases Nat.eq_zero_or_pos s.size with h0 | h0
  · refine Or.inl ⟨_, _, by rw [h0], (fun h => by cases h), List.eq_nil_of_length_eq_zero (by rw [L_len]; exact h0)⟩
  · refine Or.inr ⟨w.heap.size, 0, _, by rw [L_len], by rw [L_len]; exact h0, by rw [L_len]; exact grownCap_ge _ _ _ _, grownCap_le_maxLen _ _ _ _ hs, fun i hi => ?_⟩
    rw [L_len] at hi
    rw [Nat.zero_add, Lib.bytesWorld_cell w 5 s i hi, L_getD s i hi, List.getD_eq_getElem?_getD, List.getElem?_eq_getElem (by rw [L_len]; exact hi), L_get s i hi]
    rfl
theorem byt0 : bytesL [0] := by
  intro x hx
  simp at hx
  omega
/-- two slices of bytes in a list that is written out -/
theorem slr_two (w : World) (a b : Value) (xa xb : List Int) (T : TypeId) (ha : Rd .u8 w a xa) (hxa : bytesL xa) (hb : Rd .u8 w b xb) (hxb : bytesL xb) : SlR 1 bytR (w.alloc (.cells #[a, b] T)) (.slice (some ⟨w.heap.size, 0, none⟩) 2 2) [xa, xb] := by
  have hg := box_below w (.cells #[a, b] T)
  refine ⟨[[a], [b]], Or.inr ⟨w.heap.size, 0, 2, rfl, by simp, by simp, by decide, fun i hi => ?_⟩, rfl, fun i hi => ?_⟩
  · have : i = 0 ∨ i = 1 := by simp at hi; omega
    rcases this with rfl | rfl
    · refine ⟨rfl, fun j hj => ?_⟩
      obtain rfl : j = 0 := by omega
      rw [World.cell?_alloc_new]
      rfl
    · refine ⟨rfl, fun j hj => ?_⟩
      obtain rfl : j = 0 := by omega
      rw [World.cell?_alloc_new]
      rfl
  · have : i = 0 ∨ i = 1 := by simp at hi; omega
    rcases this with rfl | rfl
    · exact ⟨a, rfl, ha.below hg, hxa⟩
    · exact ⟨b, rfl, hb.below hg, hxb⟩
theorem atB_zero {l : List Int} {i : Int} (h : AtB l 0 i) : (i < 0 ∧ l.all (fun c => decide (¬ c = 0)) = true) ∨ (0 ≤ i ∧ l.all (fun c => decide (¬ c = 0)) = false) := by
  rcases h with ⟨rfl, h⟩ | ⟨k, rfl, hk, he, h⟩
  · refine Or.inl ⟨by decide, ?_⟩
    rw [List.all_eq_true]
    intro x hx
    simpa using h x hx
  · refine Or.inr ⟨by omega, ?_⟩
    rw [he]
    simp

end Go.Proofs.Ytfljcfpcokimcaa
