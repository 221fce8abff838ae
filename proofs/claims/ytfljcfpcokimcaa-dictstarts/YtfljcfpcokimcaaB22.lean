/-
  Texts of one proof, laid one behind the other: Dp3.
-/
import Derived.Test.YtfljcfpcokimcaaB21
import Derived.BigQuiet
namespace Go.Proofs.Ytfljcfpcokimcaa
open Go.ChangeShapes Go.WideShapes Go.ChangeAt Go.RowKit
set_option linter.unusedVariables false
set_option linter.unusedSimpArgs false

/-
  Package dict's wordFormed and isPrim.
-/
theorem emp_is {s : ByteArray} (h : s = ⟨#[]⟩) : s.toList.isEmpty = true := by subst h; decide +kernel

set_option maxHeartbeats 4000000 in
set_option maxRecDepth 100000 in
theorem w_pwof (x : Wd) (nm : ByteArray) (vc vt : Value) (words : Int) (t : List Nd) (w : World) (e1 : strOfNums x.1 = nm) (hc : RdO w vc x.2.2.2.2) (ht : RdT w vt t) (bx : bytesL x.1) (lx : x.1.length ≤ maxLen) (hu : ∀ y ∈ x.2.2.2.2, 0 ≤ y.2 ∧ y.2 < 4294967296) (hN : 0 ≤ x.2.2.2.1 ∧ x.2.2.2.1 < 4294967296) :
    Calls Try.prog 64 #[.agg #[.string nm, .int .i64 x.2.1, .int .i64 x.2.2.1, .int .u32 x.2.2.2.1, vc], .int .i64 words, vt] w fun e w' => e = .returned (.bool (wofF x words t)) ∧ Below w.heap.size w w' := by
  obtain ⟨x1, x2, x3, x4, x5⟩ := x
  simp only at e1 hc bx lx hu hN ⊢
  have hL : L nm = x1 := by rw [← e1]; exact LB_nums _ bx
  have hs : nm.size ≤ maxLen := by rw [← L_len, hL]; exact lx
  have cn := fun W => w_p9named' nm W hs
  have cs := fun W (g : Below w.heap.size w W) => w_p9sound' vc x5 words W (RdO.below hc g) hu
  have cb := fun W => w_pnob x2 t.length W
  have cl := fun c W => w_pbelow x4 c W hN.1 hN.2
  rw [hL] at cn
  have hla := slr_len hc uO (P := Try.prog)
  have hlt := slr_len ht uN (P := Try.prog)
  have hm := slr_max ht
  unfold maxLen at hm
  obtain ⟨ca, cq, rfl⟩ := slr_slice hc
  obtain ⟨n5, hn5⟩ : ∃ n, x5.length = n := ⟨_, rfl⟩
  rw [hn5] at hla hc cs ⊢
  have bw := box_below w (.cells #[.string nm, .int .i64 x2, .int .i64 x3, .int .u32 x4, .slice ca n5 cq] 51)
  have st := stands_new w #[.string nm, .int .i64 x2, .int .i64 x3, .int .u32 x4, .slice ca n5 cq] 51
  have f0 := st.cell 0 _ rfl
  have f1 := st.cell 1 _ rfl
  have f2 := st.cell 2 _ rfl
  have f3 := st.cell 3 _ rfl
  have f4 := st.cell 4 _ rfl
  have csb := cs _ bw
  obtain ⟨R, hR⟩ : ∃ R, wofF (x1, x2, x3, x4, x5) words t = R := ⟨_, rfl⟩
  rw [hR]
  unfold wofF at hR
  simp only at hR
  have hname : ((decide (x1 = []) || namF x1) = true ∧ (nm.toList.isEmpty = true ∨ nm.toList.isEmpty = false ∧ namF x1 = true)) ∨ ((decide (x1 = []) || namF x1) = false ∧ nm.toList.isEmpty = false ∧ namF x1 = false) := by
    by_cases g : nm = ⟨#[]⟩
    · left
      have : x1 = [] := by rw [← hL, g]; decide +kernel
      exact ⟨by simp [this], Or.inl (emp_is g)⟩
    · have g2 : ¬ x1 = [] := fun q => g (L_nil (by rw [hL]; exact q))
      cases g3 : namF x1
      · right
        exact ⟨by simp [g2], emp_no g, rfl⟩
      · left
        exact ⟨by simp, Or.inr ⟨emp_no g, rfl⟩⟩
  have HT := hid ht
  clear hL e1 bx lx hu ht cs st
  rcases hname with ⟨hn, hname⟩ | ⟨hn, q0, q1⟩
  · rw [hn, Bool.true_and] at hR
    by_cases hnd : -1 ≤ x2 ∧ x2 < (t.length : Int)
    · rw [decide_eq_true hnd, Bool.true_and] at hR
      simp only [decide_eq_true hnd] at cb
      by_cases hK2 : x3 = 2
      · subst hK2
        rw [if_pos rfl, decide_eq_true (by omega : (2 : Int) ≤ 2 ∧ (2 : Int) ≤ 7), Bool.true_and] at hR
        by_cases h4 : x4 = 0
        · have q4 : (x4 == 0) = true := by simpa using h4
          rw [decide_eq_true h4, Bool.true_and] at hR
          subst hR
          clear h4
          rcases hname with q0 | ⟨q0, q1⟩
          · skip
            clear hn5 HT
            go_enter Try.func64, Try.ntmps64
            go_wp2_with (first | (go_at_call 41; refine (cb _).mono ?_; rintro e r2 ⟨rfl, hw2⟩; obtain rfl := hw2.symm) | (go_at_call 21; refine csb.mono ?_; rintro e r3 ⟨rfl, b3⟩))
            go_ret
            exact ⟨rfl, below_trans bw b3⟩
          · skip
            simp only [q1] at cn
            clear q1
            clear hn5 HT
            go_enter Try.func64, Try.ntmps64
            go_wp2_with (first | (go_at_call 17; refine (cn _).mono ?_; rintro e r1 ⟨rfl, hw1⟩; obtain rfl := hw1.symm) | (go_at_call 41; refine (cb _).mono ?_; rintro e r2 ⟨rfl, hw2⟩; obtain rfl := hw2.symm) | (go_at_call 21; refine csb.mono ?_; rintro e r3 ⟨rfl, b3⟩))
            go_ret
            exact ⟨rfl, below_trans bw b3⟩
        · have q4 : (x4 == 0) = false := by simpa using h4
          rw [decide_eq_false h4, Bool.false_and] at hR
          subst hR
          clear h4
          rcases hname with q0 | ⟨q0, q1⟩
          · skip
            clear hn5 HT
            go_enter Try.func64, Try.ntmps64
            go_wp2_with (first | (go_at_call 41; refine (cb _).mono ?_; rintro e r2 ⟨rfl, hw2⟩; obtain rfl := hw2.symm))
            go_ret
            exact ⟨rfl, bw⟩
          · skip
            simp only [q1] at cn
            clear q1
            clear hn5 HT
            go_enter Try.func64, Try.ntmps64
            go_wp2_with (first | (go_at_call 17; refine (cn _).mono ?_; rintro e r1 ⟨rfl, hw1⟩; obtain rfl := hw1.symm) | (go_at_call 41; refine (cb _).mono ?_; rintro e r2 ⟨rfl, hw2⟩; obtain rfl := hw2.symm))
            go_ret
            exact ⟨rfl, bw⟩
      · rw [if_neg hK2] at hR
        have qK : (x3 != 2) = true := by simpa using hK2
        have qK2 : (x3 == 2) = false := by simpa using hK2
        by_cases h5 : (0 : Int) < n5
        · have hE : x5 ≠ [] := by intro g; rw [g] at hn5; simp at hn5; omega
          have hF : R = false := by rw [← hR, decide_eq_false hE]; simp
          subst hF
          clear hE
          rcases hname with q0 | ⟨q0, q1⟩
          · skip
            clear hR hn5 HT
            go_enter Try.func64, Try.ntmps64
            go_wp2_with (first | (go_at_call 41; refine (cb _).mono ?_; rintro e r2 ⟨rfl, hw2⟩; obtain rfl := hw2.symm))
            go_ret
            exact ⟨rfl, bw⟩
          · skip
            simp only [q1] at cn
            clear q1
            clear hR hn5 HT
            go_enter Try.func64, Try.ntmps64
            go_wp2_with (first | (go_at_call 17; refine (cn _).mono ?_; rintro e r1 ⟨rfl, hw1⟩; obtain rfl := hw1.symm) | (go_at_call 41; refine (cb _).mono ?_; rintro e r2 ⟨rfl, hw2⟩; obtain rfl := hw2.symm))
            go_ret
            exact ⟨rfl, bw⟩
        · have hE : x5 = [] := List.eq_nil_of_length_eq_zero (by omega)
          rw [decide_eq_true hE, Bool.and_true] at hR
          have hz5 : n5 = 0 := by omega
          subst hz5
          clear hE h5
          have hcs : x3 = 3 ∨ x3 = 4 ∨ x3 = 5 ∨ x3 = 6 ∨ x3 = 7 ∨ (x3 < 2 ∨ 7 < x3) := by omega
          rcases hcs with rfl | rfl | rfl | rfl | rfl | hcs
          · have hF : R = true := by rw [← hR]; simp
            subst hF
            rcases hname with q0 | ⟨q0, q1⟩
            · skip
              clear hR hn5 HT hK2
              go_enter Try.func64, Try.ntmps64
              go_wp2_with (first | (go_at_call 41; refine (cb _).mono ?_; rintro e r2 ⟨rfl, hw2⟩; obtain rfl := hw2.symm))
              go_ret
              exact ⟨rfl, bw⟩
            · skip
              simp only [q1] at cn
              clear q1
              clear hR hn5 HT hK2
              go_enter Try.func64, Try.ntmps64
              go_wp2_with (first | (go_at_call 17; refine (cn _).mono ?_; rintro e r1 ⟨rfl, hw1⟩; obtain rfl := hw1.symm) | (go_at_call 41; refine (cb _).mono ?_; rintro e r2 ⟨rfl, hw2⟩; obtain rfl := hw2.symm))
              go_ret
              exact ⟨rfl, bw⟩
          · have hF : R = true := by rw [← hR]; simp
            subst hF
            rcases hname with q0 | ⟨q0, q1⟩
            · skip
              clear hR hn5 HT hK2
              go_enter Try.func64, Try.ntmps64
              go_wp2_with (first | (go_at_call 41; refine (cb _).mono ?_; rintro e r2 ⟨rfl, hw2⟩; obtain rfl := hw2.symm))
              go_ret
              exact ⟨rfl, bw⟩
            · skip
              simp only [q1] at cn
              clear q1
              clear hR hn5 HT hK2
              go_enter Try.func64, Try.ntmps64
              go_wp2_with (first | (go_at_call 17; refine (cn _).mono ?_; rintro e r1 ⟨rfl, hw1⟩; obtain rfl := hw1.symm) | (go_at_call 41; refine (cb _).mono ?_; rintro e r2 ⟨rfl, hw2⟩; obtain rfl := hw2.symm))
              go_ret
              exact ⟨rfl, bw⟩
          · have hF : R = true := by rw [← hR]; simp
            subst hF
            rcases hname with q0 | ⟨q0, q1⟩
            · skip
              clear hR hn5 HT hK2
              go_enter Try.func64, Try.ntmps64
              go_wp2_with (first | (go_at_call 41; refine (cb _).mono ?_; rintro e r2 ⟨rfl, hw2⟩; obtain rfl := hw2.symm))
              go_ret
              exact ⟨rfl, bw⟩
            · skip
              simp only [q1] at cn
              clear q1
              clear hR hn5 HT hK2
              go_enter Try.func64, Try.ntmps64
              go_wp2_with (first | (go_at_call 17; refine (cn _).mono ?_; rintro e r1 ⟨rfl, hw1⟩; obtain rfl := hw1.symm) | (go_at_call 41; refine (cb _).mono ?_; rintro e r2 ⟨rfl, hw2⟩; obtain rfl := hw2.symm))
              go_ret
              exact ⟨rfl, bw⟩
          · have hF : R = decide (x4 < words) := by rw [← hR]; simp
            subst hF
            rcases hname with q0 | ⟨q0, q1⟩
            · skip
              clear hR hn5 HT hK2
              go_enter Try.func64, Try.ntmps64
              go_wp2_with (first | (go_at_call 41; refine (cb _).mono ?_; rintro e r2 ⟨rfl, hw2⟩; obtain rfl := hw2.symm) | (go_at_call 84; refine (cl _ _).mono ?_; rintro e r4 ⟨rfl, hw4⟩; obtain rfl := hw4.symm))
              go_ret
              exact ⟨rfl, bw⟩
            · skip
              simp only [q1] at cn
              clear q1
              clear hR hn5 HT hK2
              go_enter Try.func64, Try.ntmps64
              go_wp2_with (first | (go_at_call 17; refine (cn _).mono ?_; rintro e r1 ⟨rfl, hw1⟩; obtain rfl := hw1.symm) | (go_at_call 41; refine (cb _).mono ?_; rintro e r2 ⟨rfl, hw2⟩; obtain rfl := hw2.symm) | (go_at_call 84; refine (cl _ _).mono ?_; rintro e r4 ⟨rfl, hw4⟩; obtain rfl := hw4.symm))
              go_ret
              exact ⟨rfl, bw⟩
          · by_cases h2 : x2 = -1
            · have hF : R = false := by rw [← hR, h2]; simp
              subst hF
              have q2 : (x2 != -1) = false := by simp [h2]
              clear h2
              rcases hname with q0 | ⟨q0, q1⟩
              · skip
                clear hR hn5 HT hK2 hnd
                go_enter Try.func64, Try.ntmps64
                go_wp2_with (first | (go_at_call 41; refine (cb _).mono ?_; rintro e r2 ⟨rfl, hw2⟩; obtain rfl := hw2.symm))
                go_quiet (fail)
                go_wp2_with fail
                go_ret
                exact ⟨rfl, below_drewN bw _⟩
              · skip
                simp only [q1] at cn
                clear q1
                clear hR hn5 HT hK2 hnd
                go_enter Try.func64, Try.ntmps64
                go_wp2_with (first | (go_at_call 17; refine (cn _).mono ?_; rintro e r1 ⟨rfl, hw1⟩; obtain rfl := hw1.symm) | (go_at_call 41; refine (cb _).mono ?_; rintro e r2 ⟨rfl, hw2⟩; obtain rfl := hw2.symm))
                go_quiet (fail)
                go_wp2_with fail
                go_ret
                exact ⟨rfl, below_drewN bw _⟩
            · obtain ⟨j, rfl⟩ : ∃ j : Nat, x2 = (j : Int) := ⟨x2.toNat, by omega⟩
              have hj : j < t.length := by omega
              have hjt : (j : Int) < (t.length : Int) := by omega
              obtain ⟨bn, on, nn, vu, vp, vc2, rn, fn0, fn1, fn2, fn3, fn4, en, hun, hpn, hcn⟩ := nod_at (RdT.below HT.out bw) j hj
              have hlc := rd_len hcn uU (P := Try.prog)
              obtain ⟨na, nq, rfl⟩ := rd_slice hcn
              have hF : R = decide (x4 < (t[j].2.2.2.2.length : Int)) := by
                rw [← hR, Int.toNat_natCast, List.getD_eq_getElem?_getD, List.getElem?_eq_getElem hj, Option.getD_some]
                simp
              subst hF
              have q2 : ((j : Int) != -1) = true := by rw [bne_iff_ne]; omega
              clear h2 en
              rcases hname with q0 | ⟨q0, q1⟩
              · skip
                clear hR hn5 HT hK2 hnd hun hpn hcn
                go_enter Try.func64, Try.ntmps64
                go_wp2_with (first | (go_at_call 41; refine (cb _).mono ?_; rintro e r2 ⟨rfl, hw2⟩; obtain rfl := hw2.symm))
                go_quiet (first | (go_at_call 84; exact Calls.quiet_of_same (cl _ _)))
                go_wp2_with fail
                go_ret
                exact ⟨rfl, below_drewN bw _⟩
              · skip
                simp only [q1] at cn
                clear q1
                clear hR hn5 HT hK2 hnd hun hpn hcn
                go_enter Try.func64, Try.ntmps64
                go_wp2_with (first | (go_at_call 17; refine (cn _).mono ?_; rintro e r1 ⟨rfl, hw1⟩; obtain rfl := hw1.symm) | (go_at_call 41; refine (cb _).mono ?_; rintro e r2 ⟨rfl, hw2⟩; obtain rfl := hw2.symm))
                go_quiet (first | (go_at_call 84; exact Calls.quiet_of_same (cl _ _)))
                go_wp2_with fail
                go_ret
                exact ⟨rfl, below_drewN bw _⟩
          · have hF : R = false := by rw [← hR, decide_eq_false (by omega : ¬ (2 ≤ x3 ∧ x3 ≤ 7))]; simp
            subst hF
            have y3 : (x3 == 3) = false := by rw [beq_eq_false_iff_ne]; omega
            have y4 : (x3 == 4) = false := by rw [beq_eq_false_iff_ne]; omega
            have y5 : (x3 == 5) = false := by rw [beq_eq_false_iff_ne]; omega
            have y6 : (x3 == 6) = false := by rw [beq_eq_false_iff_ne]; omega
            have y7 : (x3 == 7) = false := by rw [beq_eq_false_iff_ne]; omega
            rcases hname with q0 | ⟨q0, q1⟩
            · skip
              clear hR hn5 HT hK2 hcs
              go_enter Try.func64, Try.ntmps64
              go_wp2_with (first | (go_at_call 41; refine (cb _).mono ?_; rintro e r2 ⟨rfl, hw2⟩; obtain rfl := hw2.symm))
              go_ret
              exact ⟨rfl, bw⟩
            · skip
              simp only [q1] at cn
              clear q1
              clear hR hn5 HT hK2 hcs
              go_enter Try.func64, Try.ntmps64
              go_wp2_with (first | (go_at_call 17; refine (cn _).mono ?_; rintro e r1 ⟨rfl, hw1⟩; obtain rfl := hw1.symm) | (go_at_call 41; refine (cb _).mono ?_; rintro e r2 ⟨rfl, hw2⟩; obtain rfl := hw2.symm))
              go_ret
              exact ⟨rfl, bw⟩
    · rw [decide_eq_false hnd] at hR
      have hF : R = false := by rw [← hR]; simp
      subst hF
      simp only [decide_eq_false hnd] at cb
      rcases hname with q0 | ⟨q0, q1⟩
      · skip
        clear hR hn5 HT
        go_enter Try.func64, Try.ntmps64
        go_wp2_with (first | (go_at_call 41; refine (cb _).mono ?_; rintro e r2 ⟨rfl, hw2⟩; obtain rfl := hw2.symm))
        go_ret
        exact ⟨rfl, bw⟩
      · skip
        simp only [q1] at cn
        clear q1
        clear hR hn5 HT
        go_enter Try.func64, Try.ntmps64
        go_wp2_with (first | (go_at_call 17; refine (cn _).mono ?_; rintro e r1 ⟨rfl, hw1⟩; obtain rfl := hw1.symm) | (go_at_call 41; refine (cb _).mono ?_; rintro e r2 ⟨rfl, hw2⟩; obtain rfl := hw2.symm))
        go_ret
        exact ⟨rfl, bw⟩
  · have hF : R = false := by rw [← hR, hn]; simp
    subst hF
    simp only [q1] at cn
    clear hR hn5 HT q1
    go_enter Try.func64, Try.ntmps64
    go_wp2_with (first | (go_at_call 17; refine (cn _).mono ?_; rintro e r1 ⟨rfl, hw1⟩; obtain rfl := hw1.symm))
    go_ret
    exact ⟨rfl, bw⟩

theorem prmW_eq (x : Wd) (p : List Int × Int) : (x = prmW p) ↔ (x.2.2.1 = 1 ∧ x.1 = p.1 ∧ x.2.2.2.1 = p.2 ∧ x.2.1 = -1 ∧ x.2.2.2.2 = []) := by
  obtain ⟨x1, x2, x3, x4, x5⟩ := x
  unfold prmW
  simp only [Prod.mk.injEq]
  constructor
  · rintro ⟨a, b, c, d, e⟩
    exact ⟨c, a, d, b, e⟩
  · rintro ⟨c, a, d, b, e⟩
    exact ⟨a, b, c, d, e⟩

set_option maxHeartbeats 4000000 in
set_option maxRecDepth 100000 in
theorem w_pisprim (x : Wd) (p : List Int × Int) (nm pn : ByteArray) (vc : Value) (w : World) (e1 : strOfNums x.1 = nm) (e2 : strOfNums p.1 = pn) (hc : RdO w vc x.2.2.2.2) (b1 : bytesL x.1) (b2 : bytesL p.1) (hN : 0 ≤ x.2.2.2.1 ∧ x.2.2.2.1 < 4294967296) (hP : 0 ≤ p.2 ∧ p.2 < 65536) :
    Calls Try.prog 72 #[.agg #[.string nm, .int .i64 x.2.1, .int .i64 x.2.2.1, .int .u32 x.2.2.2.1, vc], .agg #[.string pn, .int .i64 p.2]] w fun e w' => e = .returned (.bool (decide (x = prmW p))) ∧ Below w.heap.size w w' := by
  have hE : decide (x = prmW p) = (decide (x.2.2.1 = 1) && (decide (x.1 = p.1) && (decide (x.2.2.2.1 = p.2) && (decide (x.2.1 = -1) && decide (x.2.2.2.2 = []))))) := by
    rw [Bool.eq_iff_iff, decide_eq_true_eq, prmW_eq]
    simp only [Bool.and_eq_true, decide_eq_true_eq]
  rw [hE]
  clear hE
  have hq := str_eq8 nm pn _ _ b1 b2 e1 e2
  obtain ⟨x1, x2, x3, x4, x5⟩ := x
  obtain ⟨p1, p2⟩ := p
  simp only at e1 hc b1 b2 hN hP hq ⊢
  have hla := slr_len hc uO (P := Try.prog)
  obtain ⟨ca, cq, rfl⟩ := slr_slice hc
  obtain ⟨n5, hn5⟩ : ∃ n, x5.length = n := ⟨_, rfl⟩
  rw [hn5] at hla hc ⊢
  have hw4 := u32_i64 x4 hN.1 hN.2
  have hE5 : decide (x5 = []) = ((n5 : Int) == 0) := by
    subst hn5
    cases x5 with
    | nil => rfl
    | cons a r =>
      have : ((((a :: r).length : Nat) : Int) == 0) = false := by rw [beq_eq_false_iff_ne]; simp; omega
      rw [this]
      simp
  rw [hE5]
  have bb1 := box_below w (.cells #[.string nm, .int .i64 x2, .int .i64 x3, .int .u32 x4, .slice ca n5 cq] 51)
  have bb2 := box_below (w.alloc (.cells #[.string nm, .int .i64 x2, .int .i64 x3, .int .u32 x4, .slice ca n5 cq] 51)) (.cells #[.string pn, .int .i64 p2] 37)
  have st := (stands_new w #[.string nm, .int .i64 x2, .int .i64 x3, .int .u32 x4, .slice ca n5 cq] 51).below bb2
  have sp := stands_new (w.alloc (.cells #[.string nm, .int .i64 x2, .int .i64 x3, .int .u32 x4, .slice ca n5 cq] 51)) #[.string pn, .int .i64 p2] 37
  rw [size_al] at sp
  have f0 := st.cell 0 _ rfl
  have f1 := st.cell 1 _ rfl
  have f2 := st.cell 2 _ rfl
  have f3 := st.cell 3 _ rfl
  have f4 := st.cell 4 _ rfl
  have g0 := sp.cell 0 _ rfl
  have g1 := sp.cell 1 _ rfl
  have bw := below_trans bb1 bb2
  clear bb1 bb2 st sp hE5 hn5 e1 e2 b1 b2 hc
  by_cases h3 : x3 = 1
  · have q3 : (x3 == 1) = true := by simpa using h3
    rw [decide_eq_true h3, Bool.true_and]
    clear h3
    by_cases h1 : x1 = p1
    · rw [decide_eq_true h1] at hq ⊢
      rw [Bool.true_and]
      clear h1
      by_cases h4 : x4 = p2
      · have q4 : (x4 == p2) = true := by simpa using h4
        rw [decide_eq_true h4, Bool.true_and]
        clear h4
        by_cases h2 : x2 = -1
        · have q2 : (x2 == -1) = true := by simpa using h2
          rw [decide_eq_true h2, Bool.true_and]
          clear h2
          go_enter Try.func72, Try.ntmps72
          go_wp2_with fail
          go_ret
          exact ⟨rfl, bw⟩
        · have q2 : (x2 == -1) = false := by simpa using h2
          rw [decide_eq_false h2, Bool.false_and]
          clear h2
          go_enter Try.func72, Try.ntmps72
          go_wp2_with fail
          go_ret
          exact ⟨rfl, bw⟩
      · have q4 : (x4 == p2) = false := by simpa using h4
        rw [decide_eq_false h4, Bool.false_and]
        clear h4
        go_enter Try.func72, Try.ntmps72
        go_wp2_with fail
        go_ret
        exact ⟨rfl, bw⟩
    · rw [decide_eq_false h1] at hq ⊢
      rw [Bool.false_and]
      clear h1
      go_enter Try.func72, Try.ntmps72
      go_wp2_with fail
      go_ret
      exact ⟨rfl, bw⟩
  · have q3 : (x3 == 1) = false := by simpa using h3
    rw [decide_eq_false h3, Bool.false_and]
    clear h3
    go_enter Try.func72, Try.ntmps72
    go_wp2_with fail
    go_ret
    exact ⟨rfl, bw⟩

end Go.Proofs.Ytfljcfpcokimcaa
