/-
  Texts of one proof, laid one behind the other: Rd8.
-/
import Derived.Test.YtfljcfpcokimcaaB30
namespace Go.Proofs.Ytfljcfpcokimcaa
open Go.ChangeShapes Go.WideShapes Go.ChangeAt Go.RowKit
set_option linter.unusedVariables false
set_option linter.unusedSimpArgs false

/-
  alive and wordFormed of the document's answer.
-/
set_option maxHeartbeats 1000000 in
theorem w_r9alive (v : Value) (l : List Iz) (n : Int) (w : World) (h : RdI w v l) :
    Calls Try.prog 48 #[v, .int .i64 n] w fun e w' => e = .returned (.bool (alvF l n)) ∧ w' = w := by
  have hla := slr_len h uI (P := Try.prog)
  obtain ⟨R, hR⟩ : ∃ R, alvF l n = R := ⟨_, rfl⟩
  rw [hR]
  unfold alvF at hR
  by_cases h0 : 0 ≤ n
  · by_cases h1 : n < (l.length : Int)
    · obtain ⟨k, rfl⟩ : ∃ k : Nat, n = (k : Int) := ⟨n.toNat, by omega⟩
      have hk : k < l.length := by omega
      obtain ⟨b1, o1, ar, vc, r1, f0, f1, f2, f3, e1, hc⟩ := ins_at h k hk
      rw [decide_eq_true ⟨h0, h1⟩, Int.toNat_natCast, List.getD_eq_getElem?_getD, List.getElem?_eq_getElem hk, Option.getD_some, Bool.true_and] at hR
      obtain ⟨X, hX⟩ : ∃ X, l[k].1 = X := ⟨_, rfl⟩
      rw [hX] at f0 hR
      by_cases h2 : 0 ≤ X
      · rw [decide_eq_true h2] at hR
        subst hR
        clear hX
        go_enter Try.func48, Try.ntmps48
        go_wp2_with fail
        go_ret
        exact ⟨rfl, rfl⟩
      · rw [decide_eq_false h2] at hR
        subst hR
        clear hX
        go_enter Try.func48, Try.ntmps48
        go_wp2_with fail
        go_ret
        exact ⟨rfl, rfl⟩
    · rw [decide_eq_false (fun g => h1 g.2), Bool.false_and] at hR
      subst hR
      go_enter Try.func48, Try.ntmps48
      go_wp2_with fail
      go_ret
      exact ⟨rfl, rfl⟩
  · rw [decide_eq_false (fun g => h0 g.1), Bool.false_and] at hR
    subst hR
    go_enter Try.func48, Try.ntmps48
    go_wp2_with fail
    go_ret
    exact ⟨rfl, rfl⟩

theorem len_nil {R : Bool} (l : List Opd) (h : decide (l = []) = R) : R = ((l.length : Int) == 0) := by
  subst h
  cases l with
  | nil => rfl
  | cons a r =>
    have : ((((a :: r).length : Nat) : Int) == 0) = false := by rw [beq_eq_false_iff_ne]; simp; omega
    rw [this]
    simp
theorem emp_yes : (⟨#[]⟩ : ByteArray).toList.isEmpty = true := by decide +kernel

set_option maxHeartbeats 4000000 in
set_option maxRecDepth 100000 in
theorem w_r9wof (x : Wd) (nm : ByteArray) (vc vt : Value) (words : Int) (t : List Nd) (w : World) (e1 : strOfNums x.1 = nm) (hc : RdO w vc x.2.2.2.2) (ht : RdT w vt t) (bx : bytesL x.1) (lx : x.1.length ≤ maxLen) (hu : ∀ y ∈ x.2.2.2.2, 0 ≤ y.2 ∧ y.2 < 4294967296) (hN : 0 ≤ x.2.2.2.1 ∧ x.2.2.2.1 < 4294967296) :
    Calls Try.prog 50 #[.agg #[.string nm, .int .i64 x.2.1, .int .i64 x.2.2.1, .int .u32 x.2.2.2.1, vc], .int .i64 words, vt] w fun e w' => e = .returned (.bool (wofF x words t)) ∧ Below w.heap.size w w' := by
  obtain ⟨x1, x2, x3, x4, x5⟩ := x
  simp only at e1 hc bx lx hu hN ⊢
  have hL : L nm = x1 := by rw [← e1]; exact LB_nums _ bx
  have hs : nm.size ≤ maxLen := by rw [← L_len, hL]; exact lx
  have cn := fun W => w_r9named nm W hs
  have cs := fun W (g : Below w.heap.size w W) => w_r9sound vc x5 words W (RdO.below hc g) hu
  rw [hL] at cn
  have hla := slr_len hc uO (P := Try.prog)
  have hlt := slr_len ht uN (P := Try.prog)
  have hm := slr_max ht
  unfold maxLen at hm
  have bw := box_below w (.cells #[.string nm, .int .i64 x2, .int .i64 x3, .int .u32 x4, vc] 51)
  have st := stands_new w #[.string nm, .int .i64 x2, .int .i64 x3, .int .u32 x4, vc] 51
  have f0 := st.cell 0 _ rfl
  have f1 := st.cell 1 _ rfl
  have f2 := st.cell 2 _ rfl
  have f3 := st.cell 3 _ rfl
  have f4 := st.cell 4 _ rfl
  have K := fun q (g : Below (w.alloc (.cells #[.string nm, .int .i64 x2, .int .i64 x3, .int .u32 x4, vc] 51)).heap.size (w.alloc (.cells #[.string nm, .int .i64 x2, .int .i64 x3, .int .u32 x4, vc] 51)) q) => (st.below g)
  obtain ⟨R, hR⟩ : ∃ R, wofF (x1, x2, x3, x4, x5) words t = R := ⟨_, rfl⟩
  rw [hR]
  unfold wofF at hR
  simp only at hR
  have hw4 := u32_i64 x4 hN.1 hN.2
  by_cases hK : 2 ≤ x3 ∧ x3 ≤ 7
  · obtain ⟨hK1, hK2⟩ := hK
    rw [decide_eq_true ⟨hK1, hK2⟩, Bool.true_and] at hR
    have hname : ((decide (x1 = []) || namF x1) = true ∧ (nm.toList.isEmpty = true ∨ nm.toList.isEmpty = false ∧ namF x1 = true)) ∨ ((decide (x1 = []) || namF x1) = false ∧ nm.toList.isEmpty = false ∧ namF x1 = false) := by
      by_cases g : x1 = []
      · left
        refine ⟨by simp [g], Or.inl ?_⟩
        rw [L_nil (hL.trans g)]
        exact emp_yes
      · have g2 : nm.toList.isEmpty = false := emp_no (fun e => g (by rw [← hL, e]; decide +kernel))
        cases g3 : namF x1
        · right
          exact ⟨by simp [g], g2, rfl⟩
        · left
          exact ⟨by simp, Or.inr ⟨g2, rfl⟩⟩
    clear hL e1
    rcases hname with ⟨hn1, hname⟩ | ⟨hn1, q0, q1⟩
    · rw [hn1, Bool.true_and] at hR
      by_cases hd1 : -1 ≤ x2
      · by_cases hd2 : x2 < (t.length : Int)
        · rw [decide_eq_true ⟨hd1, hd2⟩, Bool.true_and] at hR
          have hk : x3 = 2 ∨ x3 = 3 ∨ x3 = 4 ∨ x3 = 5 ∨ x3 = 6 ∨ x3 = 7 := by omega
          rcases hk with rfl | rfl | rfl | rfl | rfl | rfl
          · rw [if_pos rfl] at hR
            by_cases hz : x4 = 0
            · subst hz
              rw [decide_eq_true rfl, Bool.true_and] at hR
              simp only [hR] at cs
              clear hR hn1
              rcases hname with q0 | ⟨q0, q1⟩
              · go_enter Try.func50, Try.ntmps50
                go_wp2_with (go_at_call 22; refine (cs _ bw).mono ?_; rintro e r2 ⟨rfl, b2⟩)
                go_ret
                exact ⟨rfl, below_trans bw b2⟩
              · rw [q1] at cn
                go_enter Try.func50, Try.ntmps50
                go_wp2_with (go_at_call 23; refine (cn _).mono ?_; rintro e r1 ⟨rfl, b1⟩; have s1 := K _ b1; have g0 := s1.cell 0 _ rfl; have g1 := s1.cell 1 _ rfl; have g2 := s1.cell 2 _ rfl; have g3 := s1.cell 3 _ rfl; have g4 := s1.cell 4 _ rfl)
                go_wp2_with (go_at_call 22; refine (cs _ (below_trans bw b1)).mono ?_; rintro e r2 ⟨rfl, b2⟩)
                go_ret
                exact ⟨rfl, below_trans (below_trans bw b1) b2⟩
            · rw [decide_eq_false hz, Bool.false_and] at hR
              subst hR
              have q4 : (x4 == 0) = false := by simpa using hz
              clear hn1 hz
              rcases hname with q0 | ⟨q0, q1⟩
              · go_enter Try.func50, Try.ntmps50
                go_wp2_with fail
                go_ret
                exact ⟨rfl, bw⟩
              · rw [q1] at cn
                go_enter Try.func50, Try.ntmps50
                go_wp2_with (go_at_call 23; refine (cn _).mono ?_; rintro e r1 ⟨rfl, b1⟩; have s1 := K _ b1; have g0 := s1.cell 0 _ rfl; have g1 := s1.cell 1 _ rfl; have g2 := s1.cell 2 _ rfl; have g3 := s1.cell 3 _ rfl; have g4 := s1.cell 4 _ rfl)
                go_ret
                exact ⟨rfl, below_trans bw b1⟩
          · rw [if_neg (by decide), decide_eq_true (by intro g; cases g), decide_eq_true (by intro g; cases g), Bool.true_and, Bool.true_and] at hR
            have hE := len_nil x5 hR
            clear hR hn1
            rcases hname with q0 | ⟨q0, q1⟩
            · go_enter Try.func50, Try.ntmps50
              go_wp2_with fail
              go_ret
              exact ⟨ret_b hE.symm, bw⟩
            · rw [q1] at cn
              go_enter Try.func50, Try.ntmps50
              go_wp2_with (go_at_call 23; refine (cn _).mono ?_; rintro e r1 ⟨rfl, b1⟩; have s1 := K _ b1; have g0 := s1.cell 0 _ rfl; have g1 := s1.cell 1 _ rfl; have g2 := s1.cell 2 _ rfl; have g3 := s1.cell 3 _ rfl; have g4 := s1.cell 4 _ rfl)
              go_ret
              exact ⟨ret_b hE.symm, below_trans bw b1⟩
          · rw [if_neg (by decide), decide_eq_true (by intro g; cases g), decide_eq_true (by intro g; cases g), Bool.true_and, Bool.true_and] at hR
            have hE := len_nil x5 hR
            clear hR hn1
            rcases hname with q0 | ⟨q0, q1⟩
            · go_enter Try.func50, Try.ntmps50
              go_wp2_with fail
              go_ret
              exact ⟨ret_b hE.symm, bw⟩
            · rw [q1] at cn
              go_enter Try.func50, Try.ntmps50
              go_wp2_with (go_at_call 23; refine (cn _).mono ?_; rintro e r1 ⟨rfl, b1⟩; have s1 := K _ b1; have g0 := s1.cell 0 _ rfl; have g1 := s1.cell 1 _ rfl; have g2 := s1.cell 2 _ rfl; have g3 := s1.cell 3 _ rfl; have g4 := s1.cell 4 _ rfl)
              go_ret
              exact ⟨ret_b hE.symm, below_trans bw b1⟩
          · rw [if_neg (by decide), decide_eq_true (by intro g; cases g), decide_eq_true (by intro g; cases g), Bool.true_and, Bool.true_and] at hR
            have hE := len_nil x5 hR
            clear hR hn1
            rcases hname with q0 | ⟨q0, q1⟩
            · go_enter Try.func50, Try.ntmps50
              go_wp2_with fail
              go_ret
              exact ⟨ret_b hE.symm, bw⟩
            · rw [q1] at cn
              go_enter Try.func50, Try.ntmps50
              go_wp2_with (go_at_call 23; refine (cn _).mono ?_; rintro e r1 ⟨rfl, b1⟩; have s1 := K _ b1; have g0 := s1.cell 0 _ rfl; have g1 := s1.cell 1 _ rfl; have g2 := s1.cell 2 _ rfl; have g3 := s1.cell 3 _ rfl; have g4 := s1.cell 4 _ rfl)
              go_ret
              exact ⟨ret_b hE.symm, below_trans bw b1⟩
          · by_cases hz : x4 < words
            · rw [if_neg (by decide), decide_eq_true (fun _ => hz), decide_eq_true (by intro g; cases g), Bool.true_and, Bool.true_and] at hR
              have hE := len_nil x5 hR
              clear hR hn1
              rcases hname with q0 | ⟨q0, q1⟩
              · go_enter Try.func50, Try.ntmps50
                go_wp2_with fail
                go_ret
                exact ⟨ret_b hE.symm, bw⟩
              · rw [q1] at cn
                go_enter Try.func50, Try.ntmps50
                go_wp2_with (go_at_call 23; refine (cn _).mono ?_; rintro e r1 ⟨rfl, b1⟩; have s1 := K _ b1; have g0 := s1.cell 0 _ rfl; have g1 := s1.cell 1 _ rfl; have g2 := s1.cell 2 _ rfl; have g3 := s1.cell 3 _ rfl; have g4 := s1.cell 4 _ rfl)
                go_ret
                exact ⟨ret_b hE.symm, below_trans bw b1⟩
            · rw [if_neg (by decide), decide_eq_false (fun g => hz (g rfl)), Bool.false_and] at hR
              subst hR
              clear hn1
              rcases hname with q0 | ⟨q0, q1⟩
              · go_enter Try.func50, Try.ntmps50
                go_wp2_with fail
                go_ret
                exact ⟨rfl, bw⟩
              · rw [q1] at cn
                go_enter Try.func50, Try.ntmps50
                go_wp2_with (go_at_call 23; refine (cn _).mono ?_; rintro e r1 ⟨rfl, b1⟩; have s1 := K _ b1; have g0 := s1.cell 0 _ rfl; have g1 := s1.cell 1 _ rfl; have g2 := s1.cell 2 _ rfl; have g3 := s1.cell 3 _ rfl; have g4 := s1.cell 4 _ rfl)
                go_ret
                exact ⟨rfl, below_trans bw b1⟩
          · by_cases hd0 : 0 ≤ x2
            · obtain ⟨k, rfl⟩ : ∃ k : Nat, x2 = (k : Int) := ⟨x2.toNat, by omega⟩
              have hkt : k < t.length := by omega
              have NA := fun W (g : Below w.heap.size w W) => nod_at (RdT.below ht g) k hkt
              rw [Int.toNat_natCast, List.getD_eq_getElem?_getD, List.getElem?_eq_getElem hkt, Option.getD_some] at hR
              by_cases hz : x4 < (t[k].2.2.2.2.length : Int)
              · rw [if_neg (by decide), decide_eq_true (by intro g; cases g), decide_eq_true (fun _ => ⟨hd0, hz⟩), Bool.true_and, Bool.true_and] at hR
                have hE := len_nil x5 hR
                clear hR hn1
                rcases hname with q0 | ⟨q0, q1⟩
                · obtain ⟨bn, on, nn, vu, vp, vc2, rn, fn0, fn1, fn2, fn3, fn4, en, hun, hpn, hcn⟩ := NA _ bw
                  have hlc := rd_len hcn uU (P := Try.prog)
                  have hb9 := bw
                  go_enter Try.func50, Try.ntmps50
                  go_wp2_with fail
                  go_quiet (fail)
                  go_wp2_with fail
                  go_ret
                  exact ⟨ret_b hE.symm, below_drewN bw _⟩
                · rw [q1] at cn
                  go_enter Try.func50, Try.ntmps50
                  go_wp2_with (go_at_call 23; refine (cn _).mono ?_; rintro e r1 ⟨rfl, b1⟩; have s1 := K _ b1; have g0 := s1.cell 0 _ rfl; have g1 := s1.cell 1 _ rfl; have g2 := s1.cell 2 _ rfl; have g3 := s1.cell 3 _ rfl; have g4 := s1.cell 4 _ rfl; obtain ⟨bn, on, nn, vu, vp, vc2, rn, fn0, fn1, fn2, fn3, fn4, en, hun, hpn, hcn⟩ := NA _ (below_trans bw b1); have hlc := rd_len hcn uU (P := Try.prog))
                  go_quiet (fail)
                  go_wp2_with fail
                  go_ret
                  exact ⟨ret_b hE.symm, below_trans bw (below_drewN b1 _)⟩
              · rw [if_neg (by decide), decide_eq_true (by intro g; cases g), decide_eq_false (fun g => hz (g rfl).2), Bool.false_and, Bool.and_false] at hR
                subst hR
                clear hn1
                rcases hname with q0 | ⟨q0, q1⟩
                · obtain ⟨bn, on, nn, vu, vp, vc2, rn, fn0, fn1, fn2, fn3, fn4, en, hun, hpn, hcn⟩ := NA _ bw
                  have hlc := rd_len hcn uU (P := Try.prog)
                  have hb9 := bw
                  go_enter Try.func50, Try.ntmps50
                  go_wp2_with fail
                  go_quiet (fail)
                  go_wp2_with fail
                  go_ret
                  exact ⟨rfl, below_drewN bw _⟩
                · rw [q1] at cn
                  go_enter Try.func50, Try.ntmps50
                  go_wp2_with (go_at_call 23; refine (cn _).mono ?_; rintro e r1 ⟨rfl, b1⟩; have s1 := K _ b1; have g0 := s1.cell 0 _ rfl; have g1 := s1.cell 1 _ rfl; have g2 := s1.cell 2 _ rfl; have g3 := s1.cell 3 _ rfl; have g4 := s1.cell 4 _ rfl; obtain ⟨bn, on, nn, vu, vp, vc2, rn, fn0, fn1, fn2, fn3, fn4, en, hun, hpn, hcn⟩ := NA _ (below_trans bw b1); have hlc := rd_len hcn uU (P := Try.prog))
                  go_quiet (fail)
                  go_wp2_with fail
                  go_ret
                  exact ⟨rfl, below_trans bw (below_drewN b1 _)⟩
            · rw [if_neg (by decide), decide_eq_true (by intro g; cases g), decide_eq_false (fun g => hd0 (g rfl).1), Bool.false_and, Bool.and_false] at hR
              subst hR
              clear hn1
              rcases hname with q0 | ⟨q0, q1⟩
              · go_enter Try.func50, Try.ntmps50
                go_wp2_with fail
                go_quiet (fail)
                go_wp2_with fail
                go_ret
                exact ⟨rfl, below_drewN bw _⟩
              · rw [q1] at cn
                go_enter Try.func50, Try.ntmps50
                go_wp2_with (go_at_call 23; refine (cn _).mono ?_; rintro e r1 ⟨rfl, b1⟩; have s1 := K _ b1; have g0 := s1.cell 0 _ rfl; have g1 := s1.cell 1 _ rfl; have g2 := s1.cell 2 _ rfl; have g3 := s1.cell 3 _ rfl; have g4 := s1.cell 4 _ rfl)
                go_quiet (fail)
                go_wp2_with fail
                go_ret
                exact ⟨rfl, below_trans bw (below_drewN b1 _)⟩
        · rw [decide_eq_false (fun g => hd2 g.2), Bool.false_and] at hR
          subst hR
          clear hn1
          rcases hname with q0 | ⟨q0, q1⟩
          · go_enter Try.func50, Try.ntmps50
            go_wp2_with fail
            go_ret
            exact ⟨rfl, bw⟩
          · rw [q1] at cn
            go_enter Try.func50, Try.ntmps50
            go_wp2_with (go_at_call 23; refine (cn _).mono ?_; rintro e r1 ⟨rfl, b1⟩; have s1 := K _ b1; have g0 := s1.cell 0 _ rfl; have g1 := s1.cell 1 _ rfl; have g2 := s1.cell 2 _ rfl; have g3 := s1.cell 3 _ rfl; have g4 := s1.cell 4 _ rfl)
            go_ret
            exact ⟨rfl, below_trans bw b1⟩
      · rw [decide_eq_false (fun g => hd1 g.1), Bool.false_and] at hR
        subst hR
        clear hn1
        rcases hname with q0 | ⟨q0, q1⟩
        · go_enter Try.func50, Try.ntmps50
          go_wp2_with fail
          go_ret
          exact ⟨rfl, bw⟩
        · rw [q1] at cn
          go_enter Try.func50, Try.ntmps50
          go_wp2_with (go_at_call 23; refine (cn _).mono ?_; rintro e r1 ⟨rfl, b1⟩; have s1 := K _ b1; have g0 := s1.cell 0 _ rfl; have g1 := s1.cell 1 _ rfl; have g2 := s1.cell 2 _ rfl; have g3 := s1.cell 3 _ rfl; have g4 := s1.cell 4 _ rfl)
          go_ret
          exact ⟨rfl, below_trans bw b1⟩
    · rw [hn1, Bool.false_and] at hR
      subst hR
      rw [q1] at cn
      clear hn1
      go_enter Try.func50, Try.ntmps50
      go_wp2_with (go_at_call 23; refine (cn _).mono ?_; rintro e r1 ⟨rfl, b1⟩)
      go_ret
      exact ⟨rfl, below_trans bw b1⟩
  · rw [decide_eq_false hK, Bool.false_and] at hR
    subst hR
    by_cases g : x3 < 2
    · go_enter Try.func50, Try.ntmps50
      go_wp2_with fail
      go_ret
      exact ⟨rfl, bw⟩
    · have g7 : 7 < x3 := by omega
      go_enter Try.func50, Try.ntmps50
      go_wp2_with fail
      go_ret
      exact ⟨rfl, bw⟩

end Go.Proofs.Ytfljcfpcokimcaa
