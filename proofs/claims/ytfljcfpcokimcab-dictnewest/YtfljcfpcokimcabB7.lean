/-
  Texts of one proof, laid one behind the other: Dp3 Dp4 Pgr.
-/
import Derived.Test.YtfljcfpcokimcabB6
import Derived.BigQuiet
import Derived.Deep.RegionHeld
namespace Go.Proofs.Ytfljcfpcokimcab
open Go.ChangeShapes Go.WideShapes Go.ChangeAt Go.RowKit
set_option linter.unusedVariables false
set_option linter.unusedSimpArgs false

/-
  Package dict's wordFormed and isPrim.
-/
theorem emp_is {s : ByteArray} (h : s = ⟨#[]⟩) : s.toList.isEmpty = true := by subst h; decide +kernel

set_option maxHeartbeats 4000000 in
set_option maxRecDepth 100000 in
theorem w_pwof (x : Wd) (nm : ByteArray) (vc vt : Value) (words : Int) (t : List Nd) (w : World) (e1 : strOfNums x.1 = nm) (hc : RdO w vc x.2.2.2.2) (ht : RdT w vt t) (bx : bytesL x.1) (lx : x.1.length ≤ maxLen) (hu : ∀ y ∈ x.2.2.2.2, 0 ≤ y.2 ∧ y.2 < 4294967296) (hN : 0 ≤ x.2.2.2.1 ∧ x.2.2.2.1 < 4294967296) :
    Calls Try.prog 11 #[.agg #[.string nm, .int .i64 x.2.1, .int .i64 x.2.2.1, .int .u32 x.2.2.2.1, vc], .int .i64 words, vt] w fun e w' => e = .returned (.bool (wofF x words t)) ∧ Below w.heap.size w w' := by
  obtain ⟨x1, x2, x3, x4, x5⟩ := x
  simp only at e1 hc bx lx hu hN ⊢
  have hL : L nm = x1 := by rw [← e1]; exact LB_nums _ bx
  have hs : nm.size ≤ maxLen := by rw [← L_len, hL]; exact lx
  have cn := fun W => w_p9named' nm W hs
  have cs := fun W (g : Below w.heap.size w W) => w_p9sound' vc x5 words W (RdO.below hc g) hu
  have cb := fun W => w_pnob x2 t.length W
  have cl := fun c W => w_pbelow x4 c W hN.1 hN.2
  rw [hL] at cn
  have hla := slr_len hc uO (P := Try.prog)
  have hlt := slr_len ht uN (P := Try.prog)
  have hm := slr_max ht
  unfold maxLen at hm
  obtain ⟨ca, cq, rfl⟩ := slr_slice hc
  obtain ⟨n5, hn5⟩ : ∃ n, x5.length = n := ⟨_, rfl⟩
  rw [hn5] at hla hc cs ⊢
  have bw := box_below w (.cells #[.string nm, .int .i64 x2, .int .i64 x3, .int .u32 x4, .slice ca n5 cq] 33)
  have st := stands_new w #[.string nm, .int .i64 x2, .int .i64 x3, .int .u32 x4, .slice ca n5 cq] 33
  have f0 := st.cell 0 _ rfl
  have f1 := st.cell 1 _ rfl
  have f2 := st.cell 2 _ rfl
  have f3 := st.cell 3 _ rfl
  have f4 := st.cell 4 _ rfl
  have csb := cs _ bw
  obtain ⟨R, hR⟩ : ∃ R, wofF (x1, x2, x3, x4, x5) words t = R := ⟨_, rfl⟩
  rw [hR]
  unfold wofF at hR
  simp only at hR
  have hname : ((decide (x1 = []) || namF x1) = true ∧ (nm.toList.isEmpty = true ∨ nm.toList.isEmpty = false ∧ namF x1 = true)) ∨ ((decide (x1 = []) || namF x1) = false ∧ nm.toList.isEmpty = false ∧ namF x1 = false) := by
    by_cases g : nm = ⟨#[]⟩
    · left
      have : x1 = [] := by rw [← hL, g]; decide +kernel
      exact ⟨by simp [this], Or.inl (emp_is g)⟩
    · have g2 : ¬ x1 = [] := fun q => g (L_nil (by rw [hL]; exact q))
      cases g3 : namF x1
      · right
        exact ⟨by simp [g2], emp_no g, rfl⟩
      · left
        exact ⟨by simp, Or.inr ⟨emp_no g, rfl⟩⟩
  have HT := hid ht
  clear hL e1 bx lx hu ht cs st
  rcases hname with ⟨hn, hname⟩ | ⟨hn, q0, q1⟩
  · rw [hn, Bool.true_and] at hR
    by_cases hnd : -1 ≤ x2 ∧ x2 < (t.length : Int)
    · rw [decide_eq_true hnd, Bool.true_and] at hR
      simp only [decide_eq_true hnd] at cb
      by_cases hK2 : x3 = 2
      · subst hK2
        rw [if_pos rfl, decide_eq_true (by omega : (2 : Int) ≤ 2 ∧ (2 : Int) ≤ 7), Bool.true_and] at hR
        by_cases h4 : x4 = 0
        · have q4 : (x4 == 0) = true := by simpa using h4
          rw [decide_eq_true h4, Bool.true_and] at hR
          subst hR
          clear h4
          rcases hname with q0 | ⟨q0, q1⟩
          · skip
            clear hn5 HT
            go_enter Try.func11, Try.ntmps11
            go_wp2_with (first | (go_at_call 22; refine (cb _).mono ?_; rintro e r2 ⟨rfl, hw2⟩; obtain rfl := hw2.symm) | (go_at_call 28; refine csb.mono ?_; rintro e r3 ⟨rfl, b3⟩))
            go_ret
            exact ⟨rfl, below_trans bw b3⟩
          · skip
            simp only [q1] at cn
            clear q1
            clear hn5 HT
            go_enter Try.func11, Try.ntmps11
            go_wp2_with (first | (go_at_call 27; refine (cn _).mono ?_; rintro e r1 ⟨rfl, hw1⟩; obtain rfl := hw1.symm) | (go_at_call 22; refine (cb _).mono ?_; rintro e r2 ⟨rfl, hw2⟩; obtain rfl := hw2.symm) | (go_at_call 28; refine csb.mono ?_; rintro e r3 ⟨rfl, b3⟩))
            go_ret
            exact ⟨rfl, below_trans bw b3⟩
        · have q4 : (x4 == 0) = false := by simpa using h4
          rw [decide_eq_false h4, Bool.false_and] at hR
          subst hR
          clear h4
          rcases hname with q0 | ⟨q0, q1⟩
          · skip
            clear hn5 HT
            go_enter Try.func11, Try.ntmps11
            go_wp2_with (first | (go_at_call 22; refine (cb _).mono ?_; rintro e r2 ⟨rfl, hw2⟩; obtain rfl := hw2.symm))
            go_ret
            exact ⟨rfl, bw⟩
          · skip
            simp only [q1] at cn
            clear q1
            clear hn5 HT
            go_enter Try.func11, Try.ntmps11
            go_wp2_with (first | (go_at_call 27; refine (cn _).mono ?_; rintro e r1 ⟨rfl, hw1⟩; obtain rfl := hw1.symm) | (go_at_call 22; refine (cb _).mono ?_; rintro e r2 ⟨rfl, hw2⟩; obtain rfl := hw2.symm))
            go_ret
            exact ⟨rfl, bw⟩
      · rw [if_neg hK2] at hR
        have qK : (x3 != 2) = true := by simpa using hK2
        have qK2 : (x3 == 2) = false := by simpa using hK2
        by_cases h5 : (0 : Int) < n5
        · have hE : x5 ≠ [] := by intro g; rw [g] at hn5; simp at hn5; omega
          have hF : R = false := by rw [← hR, decide_eq_false hE]; simp
          subst hF
          clear hE
          rcases hname with q0 | ⟨q0, q1⟩
          · skip
            clear hR hn5 HT
            go_enter Try.func11, Try.ntmps11
            go_wp2_with (first | (go_at_call 22; refine (cb _).mono ?_; rintro e r2 ⟨rfl, hw2⟩; obtain rfl := hw2.symm))
            go_ret
            exact ⟨rfl, bw⟩
          · skip
            simp only [q1] at cn
            clear q1
            clear hR hn5 HT
            go_enter Try.func11, Try.ntmps11
            go_wp2_with (first | (go_at_call 27; refine (cn _).mono ?_; rintro e r1 ⟨rfl, hw1⟩; obtain rfl := hw1.symm) | (go_at_call 22; refine (cb _).mono ?_; rintro e r2 ⟨rfl, hw2⟩; obtain rfl := hw2.symm))
            go_ret
            exact ⟨rfl, bw⟩
        · have hE : x5 = [] := List.eq_nil_of_length_eq_zero (by omega)
          rw [decide_eq_true hE, Bool.and_true] at hR
          have hz5 : n5 = 0 := by omega
          subst hz5
          clear hE h5
          have hcs : x3 = 3 ∨ x3 = 4 ∨ x3 = 5 ∨ x3 = 6 ∨ x3 = 7 ∨ (x3 < 2 ∨ 7 < x3) := by omega
          rcases hcs with rfl | rfl | rfl | rfl | rfl | hcs
          · have hF : R = true := by rw [← hR]; simp
            subst hF
            rcases hname with q0 | ⟨q0, q1⟩
            · skip
              clear hR hn5 HT hK2
              go_enter Try.func11, Try.ntmps11
              go_wp2_with (first | (go_at_call 22; refine (cb _).mono ?_; rintro e r2 ⟨rfl, hw2⟩; obtain rfl := hw2.symm))
              go_ret
              exact ⟨rfl, bw⟩
            · skip
              simp only [q1] at cn
              clear q1
              clear hR hn5 HT hK2
              go_enter Try.func11, Try.ntmps11
              go_wp2_with (first | (go_at_call 27; refine (cn _).mono ?_; rintro e r1 ⟨rfl, hw1⟩; obtain rfl := hw1.symm) | (go_at_call 22; refine (cb _).mono ?_; rintro e r2 ⟨rfl, hw2⟩; obtain rfl := hw2.symm))
              go_ret
              exact ⟨rfl, bw⟩
          · have hF : R = true := by rw [← hR]; simp
            subst hF
            rcases hname with q0 | ⟨q0, q1⟩
            · skip
              clear hR hn5 HT hK2
              go_enter Try.func11, Try.ntmps11
              go_wp2_with (first | (go_at_call 22; refine (cb _).mono ?_; rintro e r2 ⟨rfl, hw2⟩; obtain rfl := hw2.symm))
              go_ret
              exact ⟨rfl, bw⟩
            · skip
              simp only [q1] at cn
              clear q1
              clear hR hn5 HT hK2
              go_enter Try.func11, Try.ntmps11
              go_wp2_with (first | (go_at_call 27; refine (cn _).mono ?_; rintro e r1 ⟨rfl, hw1⟩; obtain rfl := hw1.symm) | (go_at_call 22; refine (cb _).mono ?_; rintro e r2 ⟨rfl, hw2⟩; obtain rfl := hw2.symm))
              go_ret
              exact ⟨rfl, bw⟩
          · have hF : R = true := by rw [← hR]; simp
            subst hF
            rcases hname with q0 | ⟨q0, q1⟩
            · skip
              clear hR hn5 HT hK2
              go_enter Try.func11, Try.ntmps11
              go_wp2_with (first | (go_at_call 22; refine (cb _).mono ?_; rintro e r2 ⟨rfl, hw2⟩; obtain rfl := hw2.symm))
              go_ret
              exact ⟨rfl, bw⟩
            · skip
              simp only [q1] at cn
              clear q1
              clear hR hn5 HT hK2
              go_enter Try.func11, Try.ntmps11
              go_wp2_with (first | (go_at_call 27; refine (cn _).mono ?_; rintro e r1 ⟨rfl, hw1⟩; obtain rfl := hw1.symm) | (go_at_call 22; refine (cb _).mono ?_; rintro e r2 ⟨rfl, hw2⟩; obtain rfl := hw2.symm))
              go_ret
              exact ⟨rfl, bw⟩
          · have hF : R = decide (x4 < words) := by rw [← hR]; simp
            subst hF
            rcases hname with q0 | ⟨q0, q1⟩
            · skip
              clear hR hn5 HT hK2
              go_enter Try.func11, Try.ntmps11
              go_wp2_with (first | (go_at_call 22; refine (cb _).mono ?_; rintro e r2 ⟨rfl, hw2⟩; obtain rfl := hw2.symm) | (go_at_call 29; refine (cl _ _).mono ?_; rintro e r4 ⟨rfl, hw4⟩; obtain rfl := hw4.symm))
              go_ret
              exact ⟨rfl, bw⟩
            · skip
              simp only [q1] at cn
              clear q1
              clear hR hn5 HT hK2
              go_enter Try.func11, Try.ntmps11
              go_wp2_with (first | (go_at_call 27; refine (cn _).mono ?_; rintro e r1 ⟨rfl, hw1⟩; obtain rfl := hw1.symm) | (go_at_call 22; refine (cb _).mono ?_; rintro e r2 ⟨rfl, hw2⟩; obtain rfl := hw2.symm) | (go_at_call 29; refine (cl _ _).mono ?_; rintro e r4 ⟨rfl, hw4⟩; obtain rfl := hw4.symm))
              go_ret
              exact ⟨rfl, bw⟩
          · by_cases h2 : x2 = -1
            · have hF : R = false := by rw [← hR, h2]; simp
              subst hF
              have q2 : (x2 != -1) = false := by simp [h2]
              clear h2
              rcases hname with q0 | ⟨q0, q1⟩
              · skip
                clear hR hn5 HT hK2 hnd
                go_enter Try.func11, Try.ntmps11
                go_wp2_with (first | (go_at_call 22; refine (cb _).mono ?_; rintro e r2 ⟨rfl, hw2⟩; obtain rfl := hw2.symm))
                go_quiet (fail)
                go_wp2_with fail
                go_ret
                exact ⟨rfl, below_drewN bw _⟩
              · skip
                simp only [q1] at cn
                clear q1
                clear hR hn5 HT hK2 hnd
                go_enter Try.func11, Try.ntmps11
                go_wp2_with (first | (go_at_call 27; refine (cn _).mono ?_; rintro e r1 ⟨rfl, hw1⟩; obtain rfl := hw1.symm) | (go_at_call 22; refine (cb _).mono ?_; rintro e r2 ⟨rfl, hw2⟩; obtain rfl := hw2.symm))
                go_quiet (fail)
                go_wp2_with fail
                go_ret
                exact ⟨rfl, below_drewN bw _⟩
            · obtain ⟨j, rfl⟩ : ∃ j : Nat, x2 = (j : Int) := ⟨x2.toNat, by omega⟩
              have hj : j < t.length := by omega
              have hjt : (j : Int) < (t.length : Int) := by omega
              obtain ⟨bn, on, nn, vu, vp, vc2, rn, fn0, fn1, fn2, fn3, fn4, en, hun, hpn, hcn⟩ := nod_at (RdT.below HT.out bw) j hj
              have hlc := rd_len hcn uU (P := Try.prog)
              obtain ⟨na, nq, rfl⟩ := rd_slice hcn
              have hF : R = decide (x4 < (t[j].2.2.2.2.length : Int)) := by
                rw [← hR, Int.toNat_natCast, List.getD_eq_getElem?_getD, List.getElem?_eq_getElem hj, Option.getD_some]
                simp
              subst hF
              have q2 : ((j : Int) != -1) = true := by rw [bne_iff_ne]; omega
              clear h2 en
              rcases hname with q0 | ⟨q0, q1⟩
              · skip
                clear hR hn5 HT hK2 hnd hun hpn hcn
                go_enter Try.func11, Try.ntmps11
                go_wp2_with (first | (go_at_call 22; refine (cb _).mono ?_; rintro e r2 ⟨rfl, hw2⟩; obtain rfl := hw2.symm))
                go_quiet (first | (go_at_call 29; exact Calls.quiet_of_same (cl _ _)))
                go_wp2_with fail
                go_ret
                exact ⟨rfl, below_drewN bw _⟩
              · skip
                simp only [q1] at cn
                clear q1
                clear hR hn5 HT hK2 hnd hun hpn hcn
                go_enter Try.func11, Try.ntmps11
                go_wp2_with (first | (go_at_call 27; refine (cn _).mono ?_; rintro e r1 ⟨rfl, hw1⟩; obtain rfl := hw1.symm) | (go_at_call 22; refine (cb _).mono ?_; rintro e r2 ⟨rfl, hw2⟩; obtain rfl := hw2.symm))
                go_quiet (first | (go_at_call 29; exact Calls.quiet_of_same (cl _ _)))
                go_wp2_with fail
                go_ret
                exact ⟨rfl, below_drewN bw _⟩
          · have hF : R = false := by rw [← hR, decide_eq_false (by omega : ¬ (2 ≤ x3 ∧ x3 ≤ 7))]; simp
            subst hF
            have y3 : (x3 == 3) = false := by rw [beq_eq_false_iff_ne]; omega
            have y4 : (x3 == 4) = false := by rw [beq_eq_false_iff_ne]; omega
            have y5 : (x3 == 5) = false := by rw [beq_eq_false_iff_ne]; omega
            have y6 : (x3 == 6) = false := by rw [beq_eq_false_iff_ne]; omega
            have y7 : (x3 == 7) = false := by rw [beq_eq_false_iff_ne]; omega
            rcases hname with q0 | ⟨q0, q1⟩
            · skip
              clear hR hn5 HT hK2 hcs
              go_enter Try.func11, Try.ntmps11
              go_wp2_with (first | (go_at_call 22; refine (cb _).mono ?_; rintro e r2 ⟨rfl, hw2⟩; obtain rfl := hw2.symm))
              go_ret
              exact ⟨rfl, bw⟩
            · skip
              simp only [q1] at cn
              clear q1
              clear hR hn5 HT hK2 hcs
              go_enter Try.func11, Try.ntmps11
              go_wp2_with (first | (go_at_call 27; refine (cn _).mono ?_; rintro e r1 ⟨rfl, hw1⟩; obtain rfl := hw1.symm) | (go_at_call 22; refine (cb _).mono ?_; rintro e r2 ⟨rfl, hw2⟩; obtain rfl := hw2.symm))
              go_ret
              exact ⟨rfl, bw⟩
    · rw [decide_eq_false hnd] at hR
      have hF : R = false := by rw [← hR]; simp
      subst hF
      simp only [decide_eq_false hnd] at cb
      rcases hname with q0 | ⟨q0, q1⟩
      · skip
        clear hR hn5 HT
        go_enter Try.func11, Try.ntmps11
        go_wp2_with (first | (go_at_call 22; refine (cb _).mono ?_; rintro e r2 ⟨rfl, hw2⟩; obtain rfl := hw2.symm))
        go_ret
        exact ⟨rfl, bw⟩
      · skip
        simp only [q1] at cn
        clear q1
        clear hR hn5 HT
        go_enter Try.func11, Try.ntmps11
        go_wp2_with (first | (go_at_call 27; refine (cn _).mono ?_; rintro e r1 ⟨rfl, hw1⟩; obtain rfl := hw1.symm) | (go_at_call 22; refine (cb _).mono ?_; rintro e r2 ⟨rfl, hw2⟩; obtain rfl := hw2.symm))
        go_ret
        exact ⟨rfl, bw⟩
  · have hF : R = false := by rw [← hR, hn]; simp
    subst hF
    simp only [q1] at cn
    clear hR hn5 HT q1
    go_enter Try.func11, Try.ntmps11
    go_wp2_with (first | (go_at_call 27; refine (cn _).mono ?_; rintro e r1 ⟨rfl, hw1⟩; obtain rfl := hw1.symm))
    go_ret
    exact ⟨rfl, bw⟩

theorem prmW_eq (x : Wd) (p : List Int × Int) : (x = prmW p) ↔ (x.2.2.1 = 1 ∧ x.1 = p.1 ∧ x.2.2.2.1 = p.2 ∧ x.2.1 = -1 ∧ x.2.2.2.2 = []) := by
  obtain ⟨x1, x2, x3, x4, x5⟩ := x
  unfold prmW
  simp only [Prod.mk.injEq]
  constructor
  · rintro ⟨a, b, c, d, e⟩
    exact ⟨c, a, d, b, e⟩
  · rintro ⟨c, a, d, b, e⟩
    exact ⟨a, b, c, d, e⟩

set_option maxHeartbeats 4000000 in
set_option maxRecDepth 100000 in
theorem w_pisprim (x : Wd) (p : List Int × Int) (nm pn : ByteArray) (vc : Value) (w : World) (e1 : strOfNums x.1 = nm) (e2 : strOfNums p.1 = pn) (hc : RdO w vc x.2.2.2.2) (b1 : bytesL x.1) (b2 : bytesL p.1) (hN : 0 ≤ x.2.2.2.1 ∧ x.2.2.2.1 < 4294967296) (hP : 0 ≤ p.2 ∧ p.2 < 65536) :
    Calls Try.prog 39 #[.agg #[.string nm, .int .i64 x.2.1, .int .i64 x.2.2.1, .int .u32 x.2.2.2.1, vc], .agg #[.string pn, .int .i64 p.2]] w fun e w' => e = .returned (.bool (decide (x = prmW p))) ∧ Below w.heap.size w w' := by
  have hE : decide (x = prmW p) = (decide (x.2.2.1 = 1) && (decide (x.1 = p.1) && (decide (x.2.2.2.1 = p.2) && (decide (x.2.1 = -1) && decide (x.2.2.2.2 = []))))) := by
    rw [Bool.eq_iff_iff, decide_eq_true_eq, prmW_eq]
    simp only [Bool.and_eq_true, decide_eq_true_eq]
  rw [hE]
  clear hE
  have hq := str_eq8 nm pn _ _ b1 b2 e1 e2
  obtain ⟨x1, x2, x3, x4, x5⟩ := x
  obtain ⟨p1, p2⟩ := p
  simp only at e1 hc b1 b2 hN hP hq ⊢
  have hla := slr_len hc uO (P := Try.prog)
  obtain ⟨ca, cq, rfl⟩ := slr_slice hc
  obtain ⟨n5, hn5⟩ : ∃ n, x5.length = n := ⟨_, rfl⟩
  rw [hn5] at hla hc ⊢
  have hw4 := u32_i64 x4 hN.1 hN.2
  have hE5 : decide (x5 = []) = ((n5 : Int) == 0) := by
    subst hn5
    cases x5 with
    | nil => rfl
    | cons a r =>
      have : ((((a :: r).length : Nat) : Int) == 0) = false := by rw [beq_eq_false_iff_ne]; simp; omega
      rw [this]
      simp
  rw [hE5]
  have bb1 := box_below w (.cells #[.string nm, .int .i64 x2, .int .i64 x3, .int .u32 x4, .slice ca n5 cq] 33)
  have bb2 := box_below (w.alloc (.cells #[.string nm, .int .i64 x2, .int .i64 x3, .int .u32 x4, .slice ca n5 cq] 33)) (.cells #[.string pn, .int .i64 p2] 56)
  have st := (stands_new w #[.string nm, .int .i64 x2, .int .i64 x3, .int .u32 x4, .slice ca n5 cq] 33).below bb2
  have sp := stands_new (w.alloc (.cells #[.string nm, .int .i64 x2, .int .i64 x3, .int .u32 x4, .slice ca n5 cq] 33)) #[.string pn, .int .i64 p2] 56
  rw [size_al] at sp
  have f0 := st.cell 0 _ rfl
  have f1 := st.cell 1 _ rfl
  have f2 := st.cell 2 _ rfl
  have f3 := st.cell 3 _ rfl
  have f4 := st.cell 4 _ rfl
  have g0 := sp.cell 0 _ rfl
  have g1 := sp.cell 1 _ rfl
  have bw := below_trans bb1 bb2
  clear bb1 bb2 st sp hE5 hn5 e1 e2 b1 b2 hc
  by_cases h3 : x3 = 1
  · have q3 : (x3 == 1) = true := by simpa using h3
    rw [decide_eq_true h3, Bool.true_and]
    clear h3
    by_cases h1 : x1 = p1
    · rw [decide_eq_true h1] at hq ⊢
      rw [Bool.true_and]
      clear h1
      by_cases h4 : x4 = p2
      · have q4 : (x4 == p2) = true := by simpa using h4
        rw [decide_eq_true h4, Bool.true_and]
        clear h4
        by_cases h2 : x2 = -1
        · have q2 : (x2 == -1) = true := by simpa using h2
          rw [decide_eq_true h2, Bool.true_and]
          clear h2
          go_enter Try.func39, Try.ntmps39
          go_wp2_with fail
          go_ret
          exact ⟨rfl, bw⟩
        · have q2 : (x2 == -1) = false := by simpa using h2
          rw [decide_eq_false h2, Bool.false_and]
          clear h2
          go_enter Try.func39, Try.ntmps39
          go_wp2_with fail
          go_ret
          exact ⟨rfl, bw⟩
      · have q4 : (x4 == p2) = false := by simpa using h4
        rw [decide_eq_false h4, Bool.false_and]
        clear h4
        go_enter Try.func39, Try.ntmps39
        go_wp2_with fail
        go_ret
        exact ⟨rfl, bw⟩
    · rw [decide_eq_false h1] at hq ⊢
      rw [Bool.false_and]
      clear h1
      go_enter Try.func39, Try.ntmps39
      go_wp2_with fail
      go_ret
      exact ⟨rfl, bw⟩
  · have q3 : (x3 == 1) = false := by simpa using h3
    rw [decide_eq_false h3, Bool.false_and]
    clear h3
    go_enter Try.func39, Try.ntmps39
    go_wp2_with fail
    go_ret
    exact ⟨rfl, bw⟩

/-
  Package dict's wordsFormed and codesFormed.
-/
theorem slr_tail {α : Type} {P : Program} {R : World → List Value → α → Prop} {w : World} {v : Value} {xs : List α} {sz : Nat} (h : SlR sz R w v xs) {t : TypeId} (ht : P.underlying t = some (.slice (P.elem t))) (hs : ∀ w, (sizeOf (P.elem t)).run P w = .ok sz w) (n : Nat) (hn : n ≤ xs.length) :
    ∃ v', (∀ w', (Instr.slice t v (some (.int .i64 (n : Int))) none none).run P w' = .ok v' w') ∧ SlR sz R w v' (xs.drop n) := by
  obtain ⟨rows, h1, h2, h3⟩ := h
  obtain ⟨ao, cap, rfl, hc, hno, hx⟩ := h1.form
  refine ⟨sliced ao n rows.length cap sz, fun w' => ?_, rows.drop n, ?_, by simp [h2], fun i hi => ?_⟩
  · rw [run_slice_l w' t ao rows.length cap ht .i64 (n : Int) (by omega) (by omega), hs]
    simp [Result.andThen]
  · rcases Nat.eq_zero_or_pos (rows.length - n) with h0 | h0
    · refine Or.inl ⟨if cap = n then ao else ao.map (·.add (n * sz)), cap - n, by rw [sliced, h0], ?_, ?_⟩
      · intro he
        by_cases hcl : cap = n
        · omega
        · rw [if_neg hcl] at he
          cases ao with
          | none => have := hno rfl; omega
          | some a => cases he
      · apply List.eq_nil_of_length_eq_zero
        rw [List.length_drop]
        exact h0
    · obtain ⟨hm, b, off, rfl, hcell⟩ := hx (by omega)
      have hl : (rows.drop n).length = rows.length - n := by simp
      refine Or.inr ⟨b, off + n * sz, cap - n, ?_, by omega, by omega, by omega, fun i hi => ?_⟩
      · rw [sliced, hl, if_neg (by omega)]
        simp [Addr.add]
      · rw [hl] at hi
        have e : (rows.drop n).getD i [] = rows.getD (n + i) [] := by
          rw [List.getD_eq_getElem?_getD, List.getD_eq_getElem?_getD, List.getElem?_drop]
        rw [e]
        have := hcell (n + i) (by omega)
        rw [show off + n * sz + i * sz = off + (n + i) * sz by rw [Nat.add_mul]; omega]
        exact this
  · have hi2 : n + i < xs.length := by simp at hi; omega
    have e : (rows.drop n).getD i [] = rows.getD (n + i) [] := by
      rw [List.getD_eq_getElem?_getD, List.getD_eq_getElem?_getD, List.getElem?_drop]
    rw [e, List.getElem_drop]
    exact h3 (n + i) hi2
theorem prm_byt9 : ∀ p ∈ prmL, bytesL p.1 := by
  have h : prmL.all (fun p => p.1.all (fun c => decide (0 ≤ c ∧ c < 256))) = true := by decide +kernel
  intro p hp c hc
  have := List.all_eq_true.1 (List.all_eq_true.1 h p hp) c hc
  simpa using this
/-- what is asked of a word that came in -/
structure okV (x : Wd) : Prop where
  byt : bytesL x.1
  len : x.1.length ≤ maxLen
  ops : ∀ y ∈ x.2.2.2.2, 0 ≤ y.2 ∧ y.2 < 4294967296
  num : 0 ≤ x.2.2.2.1 ∧ x.2.2.2.1 < 4294967296
theorem wdp_len {ws : List Wd} {t : List Nd} (h : ¬ (111 ≤ ws.length ∧ ws.length ≤ 640)) : wdsF ws t = false := by
  unfold wdsF
  rw [decide_eq_false h, Bool.false_and]
theorem wdp_prm {ws : List Wd} {t : List Nd} {k : Nat} (hw : k < ws.length) (hk : k < prmL.length) (h : ¬ ws[k] = prmW prmL[k]) : wdsF ws t = false := by
  unfold wdsF
  have : ¬ ws.take 111 = prmL.map prmW := by
    intro e
    have e1 : (ws.take 111)[k]? = (prmL.map prmW)[k]? := by rw [e]
    rw [List.getElem?_take, if_pos (by rw [prm_len] at hk; exact hk), List.getElem?_map, List.getElem?_eq_getElem hk, List.getElem?_eq_getElem hw] at e1
    simp at e1
    exact h e1
  rw [decide_eq_false this, Bool.false_and, Bool.and_false]
theorem wdp_bad {ws : List Wd} {t : List Nd} {k : Nat} (hk : k < (ws.drop 111).length) (h : wofF (ws.drop 111)[k] ws.length t = false) : wdsF ws t = false := by
  unfold wdsF
  have : (ws.drop 111).all (fun w => wofF w ws.length t) = false := by
    rw [List.all_eq_false]
    exact ⟨_, List.getElem_mem hk, by rw [h]; decide⟩
  rw [this, Bool.and_false, Bool.and_false]
theorem wdp_yes {ws : List Wd} {t : List Nd} (h0 : 111 ≤ ws.length ∧ ws.length ≤ 640) (h1 : ∀ k (hw : k < ws.length) (hk : k < prmL.length), ws[k] = prmW prmL[k]) (h2 : ∀ k (hk : k < (ws.drop 111).length), wofF (ws.drop 111)[k] ws.length t = true) : wdsF ws t = true := by
  unfold wdsF
  have e1 : ws.take 111 = prmL.map prmW := by
    apply List.ext_getElem
    · rw [List.length_take, List.length_map, prm_len]
      omega
    · intro i a b
      rw [List.getElem_take, List.getElem_map]
      exact h1 i (by simp at a; omega) (by simpa using b)
  have e2 : (ws.drop 111).all (fun w => wofF w ws.length t) = true := by
    rw [List.all_eq_true]
    intro x hx
    obtain ⟨k, hk, rfl⟩ := List.getElem_of_mem hx
    exact h2 k hk
  rw [decide_eq_true h0, decide_eq_true e1, e2]
  rfl

set_option maxHeartbeats 4000000 in
set_option maxRecDepth 100000 in
theorem w_pwords (vw vt : Value) (ws : List Wd) (t : List Nd) (w : World) (h : RdW w vw ws) (ht : RdT w vt t) (gx : ∀ x ∈ ws, okV x) :
    Calls Try.prog 23 #[vw, vt] w fun e w' => e = .returned (.bool (wdsF ws t)) ∧ Below w.heap.size w w' := by
  have hla := slr_len h uW (P := Try.prog)
  have hm := slr_max h
  unfold maxLen at hm
  by_cases h1 : (ws.length : Int) < 111
  · have hf := hid (wdp_len (ws := ws) (t := t) (by omega))
    have q1 : decide ((ws.length : Int) < 111) = true := decide_eq_true h1
    go_enter Try.func23, Try.ntmps23
    go_wp2_with fail
    go_ret
    exact ⟨ret_b hf.out.symm, Below.refl _ _⟩
  · have q1 : decide ((ws.length : Int) < 111) = false := decide_eq_false h1
    by_cases h2 : (640 : Int) < ws.length
    · have hf := hid (wdp_len (ws := ws) (t := t) (by omega))
      have q2 : decide ((640 : Int) < ws.length) = true := decide_eq_true h2
      go_enter Try.func23, Try.ntmps23
      go_wp2_with fail
      go_ret
      exact ⟨ret_b hf.out.symm, Below.refl _ _⟩
    · have q2 : decide ((640 : Int) < ws.length) = false := decide_eq_false h2
      have hlen : Hid (111 ≤ ws.length ∧ ws.length ≤ 640) := ⟨by omega, by omega⟩
      have pl : (prmL.length : Int) = 111 := by rw [prm_len]; rfl
      obtain ⟨vh, hh, hhR⟩ := slr_tail h uW zW 111 (by omega)
      have hh' : ∀ w', (Instr.slice 24 vw (some (.int .i64 111)) none none).run Try.prog w' = .ok vh w' := hh
      obtain ⟨tl, htl⟩ : ∃ tl, ws.drop 111 = tl := ⟨_, rfl⟩
      have hBad : Hid (∀ k (hk : k < tl.length), wofF tl[k] ws.length t = false → wdsF ws t = false) := by
        show ∀ k _, _
        intro k hk
        subst htl
        exact wdp_bad hk
      have hYes : Hid ((∀ k (hw : k < ws.length) (hk : k < prmL.length), ws[k] = prmW prmL[k]) → (∀ k (hk : k < tl.length), wofF tl[k] ws.length t = true) → wdsF ws t = true) := by
        show _ → _
        subst htl
        exact wdp_yes hlen.out
      have hTm : Hid (∀ x ∈ tl, okV x) := by
        show ∀ x ∈ tl, _
        subst htl
        exact fun x hx => gx x (List.mem_of_mem_drop hx)
      have hTn : (tl.length : Int) ≤ 640 := by rw [← htl, List.length_drop]; omega
      rw [htl] at hhR
      have hlh := slr_len hhR uW (P := Try.prog)
      clear hh htl
      go_enter Try.func23, Try.ntmps23
      go_wp2_with (go_at_call 18; refine (w_p9primsO _).mono ?_; rintro e q1 ⟨u1, rfl, p1, b1⟩; have p1R := p1.read (R := prmR) (by decide) (fun _ _ q => q); have hlp := slr_len p1R uM (P := Try.prog); rw [pl] at hlp)
      go_loopw [19] (fun I wx => ∃ k : Nat, (k : Int) ≤ 111 ∧ I = .int .i64 k ∧ Hid (∀ j (g : j < k) (hw : j < ws.length) (hj : j < prmL.length), ws[j] = prmW prmL[j]) ∧ Below q1.heap.size q1 wx) (fun I _ => (111 - intOf I).toNat)
      case atStart => exact ⟨0, by omega, rfl, hid (fun j g => by omega), Below.refl _ _⟩
      case round =>
        obtain ⟨k, hk, rfl, hok, hbq⟩ := hrel
        have hb := below_trans b1 hbq
        by_cases hlt : (k : Int) < 111
        · have hkl : k < prmL.length := by omega
          have hkw : k < ws.length := by omega
          have hkwi : (k : Int) < ws.length := by omega
          obtain ⟨bp, op, pn, rp, p0, p1c, ep⟩ := prm_cell (p1R.below hbq (prmR_below hbq)) k hkl
          obtain ⟨b2, o2, nm, vc, r2, f0, f1, f2, f3, f4, e2, hc2⟩ := wrd_at (RdW.below h hb) k hkw
          have hcd := List.all_eq_true.1 prm_codes _ (List.getElem_mem hkl)
          rw [decide_eq_true_eq] at hcd
          have gk := gx _ (List.getElem_mem hkw)
          have ci := fun W (g : Below wr.heap.size wr W) => w_pisprim ws[k] prmL[k] nm pn vc W e2 ep (RdO.below hc2 g) gk.byt (prm_byt9 _ (List.getElem_mem hkl)) gk.num hcd
          obtain ⟨ca, cq, rfl⟩ := slr_slice hc2
          have bad := fun g => hid (wdp_prm (ws := ws) (t := t) hkw hkl g)
          obtain ⟨D, hD⟩ : ∃ D, decide (ws[k] = prmW prmL[k]) = D := ⟨_, rfl⟩
          simp only [hD] at ci
          obtain ⟨c, hc⟩ : ∃ c, prmL[k].2 = c := ⟨_, rfl⟩
          obtain ⟨X1, hX1⟩ : ∃ X, ws[k].2.1 = X := ⟨_, rfl⟩
          obtain ⟨X2, hX2⟩ : ∃ X, ws[k].2.2.1 = X := ⟨_, rfl⟩
          obtain ⟨X3, hX3⟩ : ∃ X, ws[k].2.2.2.1 = X := ⟨_, rfl⟩
          rw [hc] at p1c
          rw [hX1] at f1
          rw [hX2] at f2
          rw [hX3] at f3
          simp only [hc, hX1, hX2, hX3] at ci
          have st := stands_new wr #[.string pn, .int .i64 c] 56
          have hbx := box_below wr (.cells #[.string pn, .int .i64 c] 56)
          have CI := hid ci
          have HB := hid hb
          have HQ := hid hbq
          have FW : Hid (∀ W, Below wr.heap.size wr W → W.cell? ⟨b2, o2, none⟩ = some (.string nm) ∧ W.cell? ⟨b2, o2 + 1, none⟩ = some (.int .i64 X1) ∧ W.cell? ⟨b2, o2 + 2, none⟩ = some (.int .i64 X2) ∧ W.cell? ⟨b2, o2 + 3, none⟩ = some (.int .u32 X3) ∧ W.cell? ⟨b2, o2 + 4, none⟩ = some (.slice ca ws[k].2.2.2.2.length cq)) := fun W g => ⟨below_cell g f0, below_cell g f1, below_cell g f2, below_cell g f3, below_cell g f4⟩
          clear hc hX1 hX2 hX3 ci hc2 e2 ep gk hcd f0 f1 f2 f3 f4 hb hbq
          cases D
          · have hf := bad (of_decide_eq_false hD)
            clear hD bad hok
            go_wp2_with fail
            generalize wr.alloc (.cells #[.string pn, .int .i64 c] 56) = w1 at st hbx ⊢
            have Z : Hid (∀ W, Below w1.heap.size w1 W → (W.cell? ⟨wr.heap.size, 0, none⟩ = some (.string pn) ∧ W.cell? ⟨wr.heap.size, 1, none⟩ = some (.int .i64 c)) ∧ (W.cell? ⟨b2, o2, none⟩ = some (.string nm) ∧ W.cell? ⟨b2, o2 + 1, none⟩ = some (.int .i64 X1) ∧ W.cell? ⟨b2, o2 + 2, none⟩ = some (.int .i64 X2) ∧ W.cell? ⟨b2, o2 + 3, none⟩ = some (.int .u32 X3) ∧ W.cell? ⟨b2, o2 + 4, none⟩ = some (.slice ca ws[k].2.2.2.2.length cq))) := fun W g => ⟨⟨(st.below g).cell 0 _ rfl, (st.below g).cell 1 _ rfl⟩, FW.out W (below_trans hbx g)⟩
            have hrd : Hid (Below w1.heap.size w1 w1.drew) := below_drewN (Below.refl _ _) 1
            have B0 := hid hbx
            clear st hbx FW
            go_region_held (fun W => (W.cell? ⟨wr.heap.size, 0, none⟩ = some (.string pn) ∧ W.cell? ⟨wr.heap.size, 1, none⟩ = some (.int .i64 c)) ∧ (W.cell? ⟨b2, o2, none⟩ = some (.string nm) ∧ W.cell? ⟨b2, o2 + 1, none⟩ = some (.int .i64 X1) ∧ W.cell? ⟨b2, o2 + 2, none⟩ = some (.int .i64 X2) ∧ W.cell? ⟨b2, o2 + 3, none⟩ = some (.int .u32 X3) ∧ W.cell? ⟨b2, o2 + 4, none⟩ = some (.slice ca ws[k].2.2.2.2.length cq))) (first | with_reducible exact Z.out _ hrd.out | with_reducible exact Z.out _ R2.out)
              (first
                | (go_at_call 39; refine (CI.out _ (below_trans B0.out hrd.out)).mono ?_; rintro e w2 ⟨rfl, d2⟩; have R2 : Hid (Below w1.heap.size w1 w2) := below_trans hrd.out d2; clear d2))
            go_wp2_with fail
            go_ret
            exact ⟨ret_b hf.out.symm, below_trans HB.out (below_trans B0.out R2.out)⟩
          · have hok2 : Hid (∀ j (g : j < k + 1) (hw : j < ws.length) (hj : j < prmL.length), ws[j] = prmW prmL[j]) := by
              show ∀ j _ _ _, _
              intro j g hw hj
              by_cases hjk : j < k
              · exact hok.out j hjk hw hj
              · have : j = k := by omega
                subst this
                exact of_decide_eq_true hD
            clear hD bad hok
            go_wp2_with fail
            generalize wr.alloc (.cells #[.string pn, .int .i64 c] 56) = w1 at st hbx ⊢
            have Z : Hid (∀ W, Below w1.heap.size w1 W → (W.cell? ⟨wr.heap.size, 0, none⟩ = some (.string pn) ∧ W.cell? ⟨wr.heap.size, 1, none⟩ = some (.int .i64 c)) ∧ (W.cell? ⟨b2, o2, none⟩ = some (.string nm) ∧ W.cell? ⟨b2, o2 + 1, none⟩ = some (.int .i64 X1) ∧ W.cell? ⟨b2, o2 + 2, none⟩ = some (.int .i64 X2) ∧ W.cell? ⟨b2, o2 + 3, none⟩ = some (.int .u32 X3) ∧ W.cell? ⟨b2, o2 + 4, none⟩ = some (.slice ca ws[k].2.2.2.2.length cq))) := fun W g => ⟨⟨(st.below g).cell 0 _ rfl, (st.below g).cell 1 _ rfl⟩, FW.out W (below_trans hbx g)⟩
            have hrd : Hid (Below w1.heap.size w1 w1.drew) := below_drewN (Below.refl _ _) 1
            have B0 := hid hbx
            clear st hbx FW
            go_region_held (fun W => (W.cell? ⟨wr.heap.size, 0, none⟩ = some (.string pn) ∧ W.cell? ⟨wr.heap.size, 1, none⟩ = some (.int .i64 c)) ∧ (W.cell? ⟨b2, o2, none⟩ = some (.string nm) ∧ W.cell? ⟨b2, o2 + 1, none⟩ = some (.int .i64 X1) ∧ W.cell? ⟨b2, o2 + 2, none⟩ = some (.int .i64 X2) ∧ W.cell? ⟨b2, o2 + 3, none⟩ = some (.int .u32 X3) ∧ W.cell? ⟨b2, o2 + 4, none⟩ = some (.slice ca ws[k].2.2.2.2.length cq))) (first | with_reducible exact Z.out _ hrd.out | with_reducible exact Z.out _ R2.out)
              (first
                | (go_at_call 39; refine (CI.out _ (below_trans B0.out hrd.out)).mono ?_; rintro e w2 ⟨rfl, d2⟩; have R2 : Hid (Below w1.heap.size w1 w2) := below_trans hrd.out d2; clear d2))
            go_wp2_with fail
            go_roundw
            case rel => exact ⟨k + 1, by omega, by go_num, hok2, below_trans HQ.out (below_trans B0.out R2.out)⟩
            case measure => simp [intOf]; omega
        · have hok1 : Hid (∀ j (hw : j < ws.length) (hj : j < prmL.length), ws[j] = prmW prmL[j]) := fun j hw hj => hok.out j (by omega) hw hj
          obtain ⟨w0, hw0⟩ : ∃ w0, w0 = wr := ⟨_, rfl⟩
          subst hw0
          have hb0 := hb
          clear hok hbq hb
          go_wp2_with fail
          go_loopw [35] (fun I wx => ∃ k : Nat, (k : Int) ≤ tl.length ∧ I = .int .i64 k ∧ Hid (∀ j (g : j < k) (hj : j < tl.length), wofF tl[j] ws.length t = true) ∧ Below w.heap.size w wx) (fun I _ => (tl.length - intOf I).toNat)
          case atStart => exact ⟨0, by omega, rfl, hid (fun j g => by omega), hb0⟩
          case round =>
            obtain ⟨i, hi, rfl, hoi, hb⟩ := hrel
            by_cases hlti : (i : Int) < tl.length
            · have hil : i < tl.length := by omega
              obtain ⟨b2, o2, nm, vc, r2, f0, f1, f2, f3, f4, e2, hc2⟩ := wrd_at (RdW.below hhR hb) i hil
              have gk := hTm.out _ (List.getElem_mem hil)
              have ci := fun W (g : Below wr.heap.size wr W) => w_pwof tl[i] nm vc vt ws.length t W e2 (RdO.below hc2 g) (ht.below (below_trans hb g)) gk.byt gk.len gk.ops gk.num
              obtain ⟨ca, cq, rfl⟩ := slr_slice hc2
              have bad := fun g => hid (hBad.out i hil g)
              obtain ⟨D, hD⟩ : ∃ D, wofF tl[i] ws.length t = D := ⟨_, rfl⟩
              simp only [hD] at ci
              obtain ⟨X1, hX1⟩ : ∃ X, tl[i].2.1 = X := ⟨_, rfl⟩
              obtain ⟨X2, hX2⟩ : ∃ X, tl[i].2.2.1 = X := ⟨_, rfl⟩
              obtain ⟨X3, hX3⟩ : ∃ X, tl[i].2.2.2.1 = X := ⟨_, rfl⟩
              obtain ⟨n5, hn5⟩ : ∃ X, tl[i].2.2.2.2.length = X := ⟨_, rfl⟩
              rw [hX1] at f1
              rw [hX2] at f2
              rw [hX3] at f3
              rw [hn5] at f4
              simp only [hX1, hX2, hX3, hn5] at ci
              have hbx := box_below wr (.cells #[.string nm, .int .i64 X1, .int .i64 X2, .int .u32 X3, .slice ca n5 cq] 33)
              have cw := ci _ hbx
              clear hX1 hX2 hX3 hn5 ci hc2 e2 gk
              cases D
              · have hf := bad hD
                clear hD bad hoi
                go_wp2_with (go_at_call 11; refine cw.mono ?_; rintro e w2 ⟨rfl, d2⟩)
                go_ret
                exact ⟨ret_b hf.out.symm, below_trans hb (below_trans hbx d2)⟩
              · have hoi2 : Hid (∀ j (g : j < i + 1) (hj : j < tl.length), wofF tl[j] ws.length t = true) := by
                  show ∀ j _ _, _
                  intro j g hj
                  by_cases hjk : j < i
                  · exact hoi.out j hjk hj
                  · have : j = i := by omega
                    subst this
                    exact hD
                clear hD bad hoi
                go_wp2_with (go_at_call 11; refine cw.mono ?_; rintro e w2 ⟨rfl, d2⟩)
                go_roundw
                case rel => exact ⟨i + 1, by omega, by go_num, hoi2, below_trans hb (below_trans hbx d2)⟩
                case measure => simp [intOf]; omega
            · have hf := hid (hYes.out hok1.out (fun j hj => hoi.out j (by omega) hj))
              clear hoi
              go_wp2_with fail
              go_ret
              exact ⟨ret_b hf.out.symm, hb⟩

set_option maxHeartbeats 1000000 in
set_option maxRecDepth 100000 in
theorem w_pcodes1 (x c : Int) (B : Nat) (W : World) (hs : W.cell? ⟨B, 0, none⟩ = some (.int .i64 c)) :
    Calls Try.prog 41 #[.int .i64 x, .pointer (some ⟨B, 0, none⟩)] W fun e w' => e = .returned (.bool (!decide (-1 ≤ x ∧ x < c))) ∧ w' = W := by
  have cb := fun W => w_pnob x c W
  obtain ⟨D, hD⟩ : ∃ D, decide (-1 ≤ x ∧ x < c) = D := ⟨_, rfl⟩
  simp only [hD] at cb ⊢
  clear hD
  go_enter Try.func41, Try.ntmps41
  go_wp2_with (go_at_call 22; refine (cb _).mono ?_; rintro e w1 ⟨rfl, hw1⟩; obtain rfl := hw1.symm)
  go_ret
  exact ⟨rfl, rfl⟩

set_option maxHeartbeats 2000000 in
set_option maxRecDepth 100000 in
theorem w_pindexJ (v : Value) (l : List Int) (c : Int) (B : Nat) (w : World) (h : Rd .i64 w v l) (hs : w.cell? ⟨B, 0, none⟩ = some (.int .i64 c)) (hm : (l.length : Int) ≤ 2048) :
    Calls Try.prog 53 #[v, .func (.func 41) #[] #[.pointer (some ⟨B, 0, none⟩)]] w fun e w' => e = .returned (.int .i64 (fdI (l.findIdx? (fun x => !decide (-1 ≤ x ∧ x < c))))) ∧ w' = w := by
  have eg : ∀ args w, (callFunc 41 args).run Try.prog w = .ok (.enter 41 args) w := enters_of Try.func41 (by kernel_rfl) rfl
  have hl := rd_len h uJ (P := Try.prog)
  obtain ⟨R, hR⟩ : ∃ R, fdI (l.findIdx? (fun x => !decide (-1 ≤ x ∧ x < c))) = R := ⟨_, rfl⟩
  rw [hR]
  have HR := hid hR
  clear hR
  go_enter Try.func53, Try.ntmps53
  go_wp2_with fail
  go_loopw [8] (fun I wx => ∃ k : Nat, (k : Int) ≤ l.length ∧ I = .int .i64 k ∧ Hid ((l.take k).findIdx? (fun x => !decide (-1 ≤ x ∧ x < c)) = none) ∧ wx = w) (fun I _ => (l.length - intOf I).toNat)
  case atStart => exact ⟨0, by omega, rfl, hid rfl, rfl⟩
  case round =>
    obtain ⟨k, hk, rfl, ht, hw⟩ := hrel
    obtain rfl := hw.symm
    by_cases hlt : (k : Int) < l.length
    · have hkl : k < l.length := by omega
      obtain ⟨ad, r1, f1⟩ := rd_idx h uJ zJ (k : Int) (by omega) hlt
      rw [Int.toNat_natCast, List.getD_eq_getElem?_getD, List.getElem?_eq_getElem hkl, Option.getD_some] at f1
      have hit := fix_hit (fun x => !decide (-1 ≤ x ∧ x < c)) l k hkl ht.out
      have miss := fix_take (fun x => !decide (-1 ≤ x ∧ x < c)) l k hkl ht.out
      obtain ⟨X, hX⟩ : ∃ X, l[k] = X := ⟨_, rfl⟩
      rw [hX] at f1 hit miss
      have hc := fun W (g : W = w) => w_pcodes1 X c B W (by rw [g]; exact hs)
      cases hx : (!decide (-1 ≤ X ∧ X < c))
      · simp only [hx] at hc
        have ht2 := hid (miss hx)
        clear hx hit miss hX ht HR
        go_wp2_with (go_at_fn 41; refine (hc _ rfl).mono ?_; rintro e w1 ⟨rfl, hw1⟩; obtain rfl := hw1.symm)
        go_roundw
        case rel => exact ⟨k + 1, by omega, by go_num, ht2, trivial⟩
        case measure => simp [intOf]; omega
      · simp only [hx] at hc
        have hRk : Hid (R = (k : Int)) := by show _ = _; rw [← HR.out, hit hx]; rfl
        clear hx hit miss hX ht HR
        go_wp2_with (go_at_fn 41; refine (hc _ rfl).mono ?_; rintro e w1 ⟨rfl, hw1⟩; obtain rfl := hw1.symm)
        go_ret
        rw [hRk.out]
        exact ⟨rfl, rfl⟩
    · have hRn : Hid (R = -1) := by
        show _ = _
        have := ht.out
        rw [List.take_of_length_le (by omega)] at this
        rw [← HR.out, this]
        rfl
      clear ht HR
      go_wp2_with fail
      go_ret
      rw [hRn.out]
      exact ⟨rfl, rfl⟩
theorem fdI_all {l : List Int} {p : Int → Bool} : (!decide ((0 : Int) ≤ fdI (l.findIdx? (fun x => !p x)))) = l.all p := by
  cases h : l.findIdx? (fun x => !p x) with
  | none =>
    rw [List.findIdx?_eq_none_iff] at h
    have : l.all p = true := List.all_eq_true.2 fun x hx => by have := h x hx; simpa using this
    rw [this]
    rfl
  | some k =>
    obtain ⟨hk, h1, _⟩ := List.findIdx?_eq_some_iff_getElem.1 h
    have : l.all p = false := List.all_eq_false.2 ⟨_, List.getElem_mem hk, by simpa using h1⟩
    rw [this, decide_eq_true (show (0 : Int) ≤ fdI (some k) from Int.natCast_nonneg k)]
    rfl

set_option maxHeartbeats 1000000 in
set_option maxRecDepth 100000 in
theorem w_pcontJ (v : Value) (l : List Int) (c : Int) (B : Nat) (w : World) (h : Rd .i64 w v l) (hs : w.cell? ⟨B, 0, none⟩ = some (.int .i64 c)) (hm : (l.length : Int) ≤ 2048) :
    Calls Try.prog 40 #[v, .func (.func 41) #[] #[.pointer (some ⟨B, 0, none⟩)]] w fun e w' => e = .returned (.bool (decide ((0 : Int) ≤ fdI (l.findIdx? (fun x => !decide (-1 ≤ x ∧ x < c)))))) ∧ w' = w := by
  have hc := w_pindexJ v l c B w h hs hm
  obtain ⟨F, hF⟩ : ∃ F, fdI (l.findIdx? (fun x => !decide (-1 ≤ x ∧ x < c))) = F := ⟨_, rfl⟩
  rw [hF] at hc ⊢
  clear hF
  go_enter Try.func40, Try.ntmps40
  go_wp2_with (go_at_call 53; refine hc.mono ?_; rintro e w1 ⟨rfl, hw1⟩; obtain rfl := hw1.symm)
  go_ret
  exact ⟨rfl, rfl⟩

set_option maxHeartbeats 1000000 in
set_option maxRecDepth 100000 in
theorem w_pcodes (v : Value) (l : List Int) (n : Nat) (w : World) (h : Rd .i64 w v l) :
    Calls Try.prog 24 #[v, .int .i64 n] w fun e w' => e = .returned (.bool (cdsF l n)) ∧ Below w.heap.size w w' := by
  have hmf : ∀ (fn : Fn) (first cap : Array Value) (w : World), (Instr.makeFunc fn first cap).run Try.prog w = .ok (.func fn first cap) w := fun _ _ _ _ => rfl
  have hl := rd_len h uJ (P := Try.prog)
  have bw := box_below w (.cells #[.int .i64 n] 3)
  have z0 := (stands_new w #[.int .i64 n] 3).cell 0 _ rfl
  by_cases h1 : (2048 : Int) < l.length
  · have hf : Hid (cdsF l n = false) := by show _ = _; unfold cdsF; rw [decide_eq_false (by omega), Bool.false_and]
    go_enter Try.func24, Try.ntmps24
    go_wp2_with fail
    go_ret
    exact ⟨ret_b hf.out.symm, bw⟩
  · have hf : Hid (cdsF l n = !decide ((0 : Int) ≤ fdI (l.findIdx? (fun x => !decide (-1 ≤ x ∧ x < (n : Int)))))) := by
      show _ = _
      unfold cdsF
      rw [decide_eq_true (by omega), Bool.true_and, fdI_all]
    have hc := w_pcontJ v l n w.heap.size _ (h.below bw) z0 (by omega)
    obtain ⟨F, hF⟩ : ∃ F, decide ((0 : Int) ≤ fdI (l.findIdx? (fun x => !decide (-1 ≤ x ∧ x < (n : Int))))) = F := ⟨_, rfl⟩
    rw [hF] at hf hc
    clear hF
    go_enter Try.func24, Try.ntmps24
    go_wp2_with (go_at_call 40; refine hc.mono ?_; rintro e w1 ⟨rfl, hw1⟩; obtain rfl := hw1.symm)
    go_ret
    exact ⟨ret_b hf.out.symm, bw⟩

/-
  Going from parent to parent: as the package goes (as many steps as there are instances), and as the document's answer goes (17 steps). Lists alone.
-/
/-- an instance's parent, by its number -/
def parF9 (l : List Iz) (a : Int) : Int := (l.getD a.toNat (-1, -1, [], [])).2.1
/-- none, or one that isn't free -/
def noaF (l : List Iz) (p : Int) : Bool := decide (-1 ≤ p ∧ p < l.length) && (decide (p = -1) || decide (¬ (l.getD p.toNat (-1, -1, [], [])).1 = -1))
/-- going on for so many steps -/
def grF (l : List Iz) : Nat → Int → Bool
  | 0, a => false
  | f + 1, a => noaF l (parF9 l a) && (decide (parF9 l a = -1) || grF l f (parF9 l a))
/-- free, or an instance of a device whatever it stands on -/
def frI (x : Iz) : Bool := decide (x = (-1, -1, [], []))
def alI (t : List Nd) (x : Iz) : Bool := decide (0 ≤ x.1 ∧ x.1 < t.length) && (decide (x.2.2.2.length = (t.getD x.1.toNat ([], [], 0, [], [])).2.2.2.2.length) && (decide (x.2.2.1.length ≤ 256) && decide (¬ (47 : Int) ∈ x.2.2.1)))
def okZ9 (t : List Nd) (x : Iz) : Bool := frI x || alI t x
def paK (l : List Iz) (p : Int) : Bool := decide (p = -1) || alvF l p

theorem okI_parts (l : List Iz) (t : List Nd) (x : Iz) : okI l t x = (okZ9 t x && paK l x.2.1) := by
  unfold okI okZ9 paK frI alI
  by_cases h : x.1 = -1
  · rw [if_pos h]
    by_cases h2 : x = (-1, -1, [], [])
    · subst h2
      simp
    · have : ¬ (0 ≤ x.1 ∧ x.1 < t.length) := by omega
      simp [h2, this]
  · rw [if_neg h]
    have : ¬ x = (-1, -1, [], []) := fun e => h (by rw [e])
    simp [this, Bool.and_assoc]
theorem okZ9_node {t : List Nd} {x : Iz} (h : okZ9 t x = true) : x.1 = -1 ∧ x.2.1 = -1 ∨ 0 ≤ x.1 := by
  unfold okZ9 frI alI at h
  simp only [Bool.or_eq_true, decide_eq_true_eq, Bool.and_eq_true] at h
  rcases h with h | h
  · left
    rw [h]
    exact ⟨rfl, rfl⟩
  · right
    exact h.1.1
theorem noa_paK {l : List Iz} {t : List Nd} (h : l.all (okZ9 t) = true) (p : Int) : noaF l p = paK l p := by
  unfold noaF paK alvF
  by_cases h1 : p = -1
  · subst h1
    simp
    omega
  · by_cases h2 : 0 ≤ p ∧ p < l.length
    · have hl : p.toNat < l.length := by omega
      have hk := okZ9_node (List.all_eq_true.1 h _ (List.getElem_mem hl))
      rw [List.getD_eq_getElem?_getD, List.getElem?_eq_getElem hl]
      simp only [Option.getD_some]
      have e1 : decide (-1 ≤ p ∧ p < l.length) = true := by simp; omega
      have e2 : decide (0 ≤ p ∧ p < (l.length : Int)) = true := by simp; omega
      rw [e1, e2]
      simp only [Bool.true_and]
      congr 1
      rw [decide_eq_decide]
      omega
    · have e1 : decide (-1 ≤ p ∧ p < l.length) = false := by simp; omega
      have e2 : decide (0 ≤ p ∧ p < (l.length : Int)) = false := by simp; omega
      rw [e1, e2]
      simp [h1]
theorem chn_neg (l : List Iz) (k : Nat) (a : Int) (h : a < 0) : chnF l k a = true := by
  cases k <;> simp [chnF, h]
theorem chn_more (l : List Iz) : ∀ (k : Nat) (a : Int), chnF l k a = true → chnF l (k + 1) a = true
  | 0, a, h => by
    have : a < 0 := by simpa [chnF] using h
    exact chn_neg l 1 a this
  | k + 1, a, h => by
    rw [chnF, Bool.or_eq_true] at h ⊢
    rcases h with h | h
    · exact Or.inl h
    · exact Or.inr (chn_more l k _ h)
theorem chn_le (l : List Iz) (k m : Nat) (a : Int) (hkm : k ≤ m) (h : chnF l k a = true) : chnF l m a = true := by
  obtain ⟨d, rfl⟩ := Nat.exists_eq_add_of_le hkm
  induction d with
  | zero => exact h
  | succ d ih => exact chn_more l (k + d) a (ih (by omega))
theorem gr_chn (l : List Iz) : ∀ (f : Nat) (a : Int), grF l (f + 1) a = true → chnF l f (parF9 l a) = true
  | 0, a, h => by
    simp only [grF, Bool.and_eq_true, Bool.or_eq_true, decide_eq_true_eq] at h
    rcases h.2 with h | h
    · rw [h]
      rfl
    · cases h
  | f + 1, a, h => by
    rw [grF, Bool.and_eq_true, Bool.or_eq_true, decide_eq_true_eq] at h
    rcases h.2 with h | h
    · rw [h]
      exact chn_neg _ _ _ (by omega)
    · rw [chnF, Bool.or_eq_true]
      exact Or.inr (gr_chn l f _ h)
theorem gr_noa {l : List Iz} {f : Nat} {a : Int} (h : grF l (f + 1) a = true) : noaF l (parF9 l a) = true := by
  rw [grF, Bool.and_eq_true] at h
  exact h.1
theorem chn_gr {l : List Iz} (hp : ∀ a : Int, 0 ≤ a → a < l.length → noaF l (parF9 l a) = true) : ∀ (f : Nat) (a : Int), 0 ≤ a → a < l.length → chnF l f (parF9 l a) = true → grF l (f + 1) a = true
  | 0, a, h0, h1, h => by
    have hn := hp a h0 h1
    have hn2 := hn
    simp only [noaF, Bool.and_eq_true, decide_eq_true_eq] at hn2
    have : parF9 l a < 0 := by simpa [chnF] using h
    rw [grF, hn, decide_eq_true (show parF9 l a = -1 by omega)]
    rfl
  | f + 1, a, h0, h1, h => by
    have hn := hp a h0 h1
    have hn2 := hn
    simp only [noaF, Bool.and_eq_true, decide_eq_true_eq] at hn2
    rw [grF, hn, Bool.true_and, Bool.or_eq_true, decide_eq_true_eq]
    rw [chnF, Bool.or_eq_true, decide_eq_true_eq] at h
    by_cases hm : parF9 l a = -1
    · exact Or.inl hm
    · right
      rcases h with h | h
      · omega
      · exact chn_gr hp f _ (by omega) (by omega) h
theorem cnt_lt {α : Type} (p q : α → Bool) : ∀ (l : List α), (∀ x ∈ l, p x = true → q x = true) → (∃ x ∈ l, q x = true ∧ p x = false) → l.countP p < l.countP q
  | [], _, h => by
    obtain ⟨x, hx, _⟩ := h
    cases hx
  | y :: l, hs, h => by
    have hle : l.countP p ≤ l.countP q := List.countP_mono_left (fun x hx hp => hs x (by simp [hx]) hp)
    by_cases hy : q y = true ∧ p y = false
    · rw [List.countP_cons, List.countP_cons, hy.1, hy.2]
      simp
      omega
    · have hy2 := hs y (by simp)
      obtain ⟨x, hx, hx1, hx2⟩ := h
      rcases List.mem_cons.1 hx with rfl | hx
      · exact absurd ⟨hx1, hx2⟩ hy
      · have := cnt_lt p q l (fun x hx hp => hs x (by simp [hx]) hp) ⟨x, hx, hx1, hx2⟩
        rw [List.countP_cons, List.countP_cons]
        have he : p y = q y := by
          cases h1 : p y <;> cases h2 : q y <;> simp_all
        rw [he]
        omega
/-- as many steps as there are instances are enough -/
theorem chn_stable {l : List Iz} (hp : ∀ a : Int, 0 ≤ a → a < l.length → -1 ≤ parF9 l a ∧ parF9 l a < l.length) (k : Nat) (hs : ∀ a : Int, 0 ≤ a → a < l.length → chnF l (k + 1) a = chnF l k a) : ∀ (d : Nat) (a : Int), 0 ≤ a → a < l.length → chnF l (k + d) a = chnF l k a
  | 0, a, h0, h1 => rfl
  | d + 1, a, h0, h1 => by
    rw [← hs a h0 h1, ← Nat.add_assoc]
    rw [chnF, chnF]
    have hq := hp a h0 h1
    congr 1
    show chnF l (k + d) (parF9 l a) = chnF l k (parF9 l a)
    by_cases hn : parF9 l a < 0
    · rw [chn_neg _ _ _ hn, chn_neg _ _ _ hn]
    · exact chn_stable hp k hs d _ (by omega) hq.2
theorem chn_count {l : List Iz} (hp : ∀ a : Int, 0 ≤ a → a < l.length → -1 ≤ parF9 l a ∧ parF9 l a < l.length) : ∀ k : Nat, k ≤ (List.range l.length).countP (fun (j : Nat) => chnF l k (j : Int)) ∨ ∀ a : Int, 0 ≤ a → a < l.length → chnF l (k + 1) a = chnF l k a
  | 0 => Or.inl (Nat.zero_le _)
  | k + 1 => by
    by_cases hs : ∀ a : Int, 0 ≤ a → a < l.length → chnF l (k + 1) a = chnF l k a
    · right
      intro a h0 h1
      have e1 := chn_stable hp k hs 2 a h0 h1
      have e2 := chn_stable hp k hs 1 a h0 h1
      rw [show k + 1 + 1 = k + 2 by omega, e1, e2]
    · rcases chn_count hp k with h | h
      · left
        have hex : ∃ a : Int, (0 ≤ a ∧ a < l.length) ∧ ¬ chnF l (k + 1) a = chnF l k a := by
          apply Classical.byContradiction
          intro hn
          apply hs
          intro a h0 h1
          apply Classical.byContradiction
          intro hne
          exact hn ⟨a, ⟨h0, h1⟩, hne⟩
        obtain ⟨a, ⟨h0, h1⟩, hne⟩ := hex
        have hf : chnF l k a = false := by
          cases hc : chnF l k a
          · rfl
          · rw [hc, chn_more l k a hc] at hne
            exact absurd rfl hne
        have ht : chnF l (k + 1) a = true := by
          rw [hf] at hne
          simpa using hne
        have := cnt_lt (fun (j : Nat) => chnF l k (j : Int)) (fun (j : Nat) => chnF l (k + 1) (j : Int)) (List.range l.length) (fun x _ hx => chn_more l k _ hx) ⟨a.toNat, by simp; omega, by
          have e : ((a.toNat : Nat) : Int) = a := by omega
          simp only [e]
          exact ⟨ht, hf⟩⟩
        omega
      · exact absurd h hs
theorem chn_enough {l : List Iz} (hp : ∀ a : Int, 0 ≤ a → a < l.length → -1 ≤ parF9 l a ∧ parF9 l a < l.length) (K : Nat) (a : Int) (h0 : 0 ≤ a) (h1 : a < l.length) (h : chnF l K a = true) : chnF l l.length a = true := by
  by_cases hK : K ≤ l.length
  · exact chn_le l K l.length a hK h
  · rcases chn_count hp l.length with hc | hs
    · have hle := List.countP_le_length (p := fun (j : Nat) => chnF l l.length (j : Int)) (l := List.range l.length)
      rw [List.length_range] at hle
      have he : (List.range l.length).countP (fun (j : Nat) => chnF l l.length (j : Int)) = (List.range l.length).length := by rw [List.length_range]; omega
      have := List.countP_eq_length.1 he a.toNat (by simp; omega)
      have e : ((a.toNat : Nat) : Int) = a := by omega
      simpa only [e] using this
    · obtain ⟨d, rfl⟩ := Nat.exists_eq_add_of_le (show l.length ≤ K by omega)
      rw [chn_stable hp l.length hs d a h0 h1] at h
      exact h
/-- all instances, as the package asks -/
def inpF (l : List Iz) (t : List Nd) : Bool := decide (l.length ≤ 16) && (l.all (okZ9 t) && (List.range l.length).all (fun (j : Nat) => grF l l.length (j : Int)))
theorem insF_as (l : List Iz) (t : List Nd) : insF l t = inpF l t := by
  unfold insF inpF
  by_cases hl : l.length ≤ 16
  · rw [decide_eq_true hl, Bool.true_and, Bool.true_and]
    cases hA : l.all (okZ9 t)
    · rw [Bool.false_and]
      rw [List.all_eq_false] at hA
      obtain ⟨x, hx, hx2⟩ := hA
      have : l.all (okI l t) = false := by
        rw [List.all_eq_false]
        refine ⟨x, hx, ?_⟩
        rw [okI_parts]
        simp at hx2
        simp [hx2]
      rw [this, Bool.false_and]
    · rw [Bool.true_and, Bool.eq_iff_iff]
      have par_at : ∀ (j : Nat) (hj : j < l.length), parF9 l (j : Int) = l[j].2.1 := by
        intro j hj
        unfold parF9
        rw [Int.toNat_natCast, List.getD_eq_getElem?_getD, List.getElem?_eq_getElem hj]
        rfl
      constructor
      · intro h
        rw [Bool.and_eq_true, List.all_eq_true, List.all_eq_true] at h
        have hpn : ∀ a : Int, 0 ≤ a → a < l.length → noaF l (parF9 l a) = true := by
          intro a h0 h1
          have hj : a.toNat < l.length := by omega
          have e : a = ((a.toNat : Nat) : Int) := by omega
          rw [e, par_at _ hj, noa_paK hA]
          have := h.1 _ (List.getElem_mem hj)
          rw [okI_parts, Bool.and_eq_true] at this
          exact this.2
        have hpr : ∀ a : Int, 0 ≤ a → a < l.length → -1 ≤ parF9 l a ∧ parF9 l a < l.length := by
          intro a h0 h1
          have := hpn a h0 h1
          simp only [noaF, Bool.and_eq_true, decide_eq_true_eq] at this
          exact this.1
        rw [List.all_eq_true]
        intro j hj
        rw [List.mem_range] at hj
        have hc := h.2 _ (List.getElem_mem hj)
        rw [← par_at j hj] at hc
        have hc2 : chnF l 18 (j : Int) = true := by
          rw [chnF, Bool.or_eq_true]
          exact Or.inr hc
        have hc3 := chn_enough hpr 18 (j : Int) (by omega) (by omega) hc2
        obtain ⟨n, hn⟩ : ∃ n, l.length = n + 1 := ⟨l.length - 1, by omega⟩
        have hg := chn_gr hpn n (j : Int) (by omega) (by omega) (by
          rw [hn, chnF, Bool.or_eq_true, decide_eq_true_eq] at hc3
          rcases hc3 with hc3 | hc3
          · omega
          · exact hc3)
        rw [hn]
        exact hg
      · intro h
        rw [List.all_eq_true] at h
        rw [Bool.and_eq_true, List.all_eq_true, List.all_eq_true]
        constructor
        · intro x hx
          obtain ⟨j, hj, rfl⟩ := List.getElem_of_mem hx
          have hg := h j (List.mem_range.2 hj)
          obtain ⟨n, hn⟩ : ∃ n, l.length = n + 1 := ⟨l.length - 1, by omega⟩
          rw [hn] at hg
          have := gr_noa hg
          rw [par_at j hj, noa_paK hA] at this
          rw [okI_parts, this, List.all_eq_true.1 hA _ (List.getElem_mem hj)]
          rfl
        · intro x hx
          obtain ⟨j, hj, rfl⟩ := List.getElem_of_mem hx
          have hg := h j (List.mem_range.2 hj)
          obtain ⟨n, hn⟩ : ∃ n, l.length = n + 1 := ⟨l.length - 1, by omega⟩
          rw [hn] at hg
          have := gr_chn l n _ hg
          rw [par_at j hj] at this
          exact chn_le l n 17 _ (by omega) this
  · rw [decide_eq_false hl, Bool.false_and, Bool.false_and]

end Go.Proofs.Ytfljcfpcokimcab
