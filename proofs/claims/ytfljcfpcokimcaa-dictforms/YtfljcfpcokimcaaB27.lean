/-
  Texts of one proof, laid one behind the other: Tf4.
-/
import Derived.Test.YtfljcfpcokimcaaB26
namespace Go.Proofs.Ytfljcfpcokimcaa
open Go.ChangeShapes Go.WideShapes Go.ChangeAt Go.RowKit
set_option linter.unusedVariables false
set_option linter.unusedSimpArgs false

/-
  Package tree's Formed.
-/
set_option maxHeartbeats 2000000 in
set_option maxRecDepth 100000 in
theorem w_p8formed' (v : Value) (t : List Nd) (w : World) (h : RdT w v t) (bt : ∀ x ∈ t, bytN x) (ls : ∀ x ∈ t, lenN x) :
    Calls Try.prog 40 #[v] w fun e w' => e = .returned (.bool (frmT t)) ∧ Below w.heap.size w w' := by
  have hla := slr_len h uN (P := Try.prog)
  have hm := slr_max h
  unfold maxLen at hm
  by_cases h0 : t.length = 0
  · have hf := hid (frm_len (Or.inl h0))
    have hl1 : ((t.length : Int) == 0) = true := by simp; exact List.eq_nil_of_length_eq_zero h0
    obtain ⟨n, hn⟩ : ∃ n, t.length = n := ⟨_, rfl⟩
    rw [hn] at hla hl1
    clear h0 hn hm
    go_enter Try.func40, Try.ntmps40
    go_wp2_with fail
    go_ret
    exact ⟨ret_b hf.out.symm, Below.refl _ _⟩
  · have hl1 : ((t.length : Int) == 0) = false := by simp; intro h; exact h0 (by rw [h]; rfl)
    by_cases h32 : (32 : Int) < t.length
    · have hf := hid (frm_len (Or.inr (show 32 < t.length by omega)))
      clear h0
      go_enter Try.func40, Try.ntmps40
      go_wp2_with fail
      go_ret
      exact ⟨ret_b hf.out.symm, Below.refl _ _⟩
    · have ht0 : 0 < t.length := by omega
      obtain ⟨b0, o0, N0, u0, p0, k0, r0, z0, z1, z2, z3, z4, e0, hu0, hp0, hc0⟩ := nod_at h 0 ht0
      have r0' : ∀ w', (Instr.indexAt 29 v (.int .i64 0)).run Try.prog w' = .ok (.pointer (some ⟨b0, o0, none⟩)) w' := r0
      have cr := w_pisroot N0 u0 p0 k0 t[0] w e0 (bt _ (List.getElem_mem ht0)).1 hu0 hp0 hc0
      obtain ⟨ua0, uq0, rfl⟩ := rd_slice hu0
      obtain ⟨pa0, pq0, rfl⟩ := slr_slice hp0
      obtain ⟨ca0, cq0, rfl⟩ := rd_slice hc0
      obtain ⟨P0, hP0⟩ : ∃ X, t[0].2.2.1 = X := ⟨_, rfl⟩
      rw [hP0] at z2 cr
      cases hrt : rootF t[0]
      · have hf := hid (frm_root ht0 hrt)
        rw [hrt] at cr
        clear hrt hP0 e0 r0 h0
        go_enter Try.func40, Try.ntmps40
        go_wp2_with (go_at_call 69; refine cr.mono ?_; rintro e w1 ⟨rfl, b1⟩)
        go_ret
        exact ⟨ret_b hf.out.symm, b1⟩
      · rw [hrt] at cr
        have hroot := hid hrt
        have hlen32 : Hid (t.length ≤ 32 ∧ 1 ≤ t.length) := ⟨by omega, by omega⟩
        clear hrt hP0 e0 r0 h0
        go_enter Try.func40, Try.ntmps40
        go_wp2_with (go_at_call 69; refine cr.mono ?_; rintro e w1 ⟨rfl, b1⟩)
        clear cr z0 z1 z2 z3 z4 r0'
        go_loopw [22] (fun I wx => ∃ i : Nat, (i : Int) ≤ t.length ∧ I = .int .i64 i ∧ Hid (∀ j (g : j < i) (hj : j < t.length), okN t j t[j] = true) ∧ Below w.heap.size w wx) (fun I _ => (t.length - intOf I).toNat)
        case atStart => exact ⟨0, by omega, rfl, hid (fun j g => by omega), b1⟩
        case round =>
          clear b1
          obtain ⟨i, hi, rfl, hok, hb⟩ := hrel
          by_cases hlt : (i : Int) < t.length
          · have hil : i < t.length := by omega
            obtain ⟨b1, o1, nm, u1, p1, c1, r1, f0, f1, f2, f3, f4, e1, hu1, hp1, hc1⟩ := nod_at (h.below hb) i hil
            obtain ⟨vh, hh, hhR⟩ := slr_head h uN zN i (by omega)
            have hbt := bt _ (List.getElem_mem hil)
            have hlt2 := ls _ (List.getElem_mem hil)
            have cq := fun W (g : Below wr.heap.size wr W) => w_pplaced vh (t.take i) nm u1 p1 c1 t[i] W (RdT.below hhR (below_trans hb g)) (fun x hx => bt x (List.mem_of_mem_take hx)) e1 hbt.1 hlt2.1 (hu1.below g) (hp1.below g (propR_below g)) (hc1.below g)
            have cf := fun W (g : Below wr.heap.size wr W) => w_ppropsformed p1 t[i].2.2.2.1 W (hp1.below g (propR_below g)) (fun x hx => (hbt.2 x hx).1) (fun x hx => hlt2.2 x hx)
            have hlc := rd_len hc1 uU (P := Try.prog)
            have htl : (t.take i).length = i := by rw [List.length_take]; omega
            rw [htl] at cq
            obtain ⟨ua, uq, rfl⟩ := rd_slice hu1
            obtain ⟨pa, pq, rfl⟩ := slr_slice hp1
            obtain ⟨ca, cq', rfl⟩ := rd_slice hc1
            have hokA : okA t i t[i] = (nmF t[i].1 && (decide (t[i].2.1.length ≤ 4) && (decide (0 ≤ t[i].2.2.1) && (decide (t[i].2.2.1 < i) && !twF (t.take i) t[i].2.2.1 t[i].1 t[i].2.1)))) := rfl
            rw [← hokA] at cq
            clear hokA
            obtain ⟨P, hP⟩ : ∃ X, t[i].2.2.1 = X := ⟨_, rfl⟩
            rw [hP] at f2 cq
            have st := stands_new wr #[.string nm, .slice ua t[i].2.1.length uq, .int .i64 P, .slice pa t[i].2.2.2.1.length pq, .slice ca t[i].2.2.2.2.length cq'] 91
            have hbx := box_below wr (.cells #[.string nm, .slice ua t[i].2.1.length uq, .int .i64 P, .slice pa t[i].2.2.2.1.length pq, .slice ca t[i].2.2.2.2.length cq'] 91)
            have hokN : okN t i t[i] = ((decide (i = 0) || okA t i t[i]) && ((decide (t[i].2.2.2.1.length ≤ 16) && okR t[i].2.2.2.1) && decide (t[i].2.2.2.2.length ≤ 16))) := by
              unfold okN
              cases decide (t[i].2.2.2.1.length ≤ 16) <;> cases decide (t[i].2.2.2.2.length ≤ 16) <;> cases okR t[i].2.2.2.1 <;> rfl
            have HN := hid hokN
            clear hokN hP e1 htl
            have hbad := fun g => hid (frm_bad i hil g)
            obtain ⟨m, hm2⟩ : ∃ m, t[i].2.2.2.2.length = m := ⟨_, rfl⟩
            rw [hm2] at f4 st hbx hlc HN
            simp only [hm2] at cq
            clear hm2
            cases hA : (decide (i = 0) || okA t i t[i])
            · have hf := hbad (by rw [HN.out, hA, Bool.false_and])
              have hi0 : ((i : Int) != 0) = true := by
                rw [Bool.or_eq_false_iff, decide_eq_false_iff_not] at hA
                simp
                exact hA.1
              have hq : okA t i t[i] = false := (Bool.or_eq_false_iff.1 hA).2
              rw [hq] at cq
              clear hq hA hbad HN cf
              have CQ := hid cq
              clear cq
              go_wp2_with fail
              generalize wr.alloc (.cells #[.string nm, .slice ua t[i].2.1.length uq, .int .i64 P, .slice pa t[i].2.2.2.1.length pq, .slice ca m cq'] 91) = w1 at st hbx ⊢
              have Z : Hid (∀ W, Below w1.heap.size w1 W → W.cell? ⟨wr.heap.size, 0, none⟩ = some (.string nm) ∧ W.cell? ⟨wr.heap.size, 1, none⟩ = some (.slice ua t[i].2.1.length uq) ∧ W.cell? ⟨wr.heap.size, 2, none⟩ = some (.int .i64 P) ∧ W.cell? ⟨wr.heap.size, 3, none⟩ = some (.slice pa t[i].2.2.2.1.length pq) ∧ W.cell? ⟨wr.heap.size, 4, none⟩ = some (.slice ca m cq')) := fun W g => ⟨(st.below g).cell 0 _ rfl, (st.below g).cell 1 _ rfl, (st.below g).cell 2 _ rfl, (st.below g).cell 3 _ rfl, (st.below g).cell 4 _ rfl⟩
              have hrd : Hid (Below w1.heap.size w1 w1.drew) := below_drewN (Below.refl _ _) 1
              have B0 := hid hbx
              clear st hbx
              go_region_held (fun W => W.cell? ⟨wr.heap.size, 0, none⟩ = some (.string nm) ∧ W.cell? ⟨wr.heap.size, 1, none⟩ = some (.slice ua t[i].2.1.length uq) ∧ W.cell? ⟨wr.heap.size, 2, none⟩ = some (.int .i64 P) ∧ W.cell? ⟨wr.heap.size, 3, none⟩ = some (.slice pa t[i].2.2.2.1.length pq) ∧ W.cell? ⟨wr.heap.size, 4, none⟩ = some (.slice ca m cq')) (first | with_reducible exact Z.out _ hrd.out | with_reducible exact Z.out _ R2.out)
                (first | (go_at_call 70; refine (CQ.out _ (below_trans B0.out hrd.out)).mono ?_; rintro e w2 ⟨rfl, b2⟩; have R2 : Hid (Below w1.heap.size w1 w2) := below_trans hrd.out b2; clear b2))
              go_wp2_with fail
              go_ret
              exact ⟨ret_b hf.out.symm, below_trans hb (below_trans B0.out R2.out)⟩
            · rw [hA, Bool.true_and] at HN
              by_cases hz : i = 0
              · have hi0 : ((i : Int) != 0) = false := by simp [hz]
                clear hA cq hz
                cases hPF : (decide (t[i].2.2.2.1.length ≤ 16) && okR t[i].2.2.2.1)
                · have hf := hbad (by rw [HN.out, hPF, Bool.false_and])
                  rw [hPF] at cf
                  clear hPF hbad HN
                  have CF := hid cf
                  clear cf
                  go_wp2_with fail
                  generalize wr.alloc (.cells #[.string nm, .slice ua t[i].2.1.length uq, .int .i64 P, .slice pa t[i].2.2.2.1.length pq, .slice ca m cq'] 91) = w1 at st hbx ⊢
                  have Z : Hid (∀ W, Below w1.heap.size w1 W → W.cell? ⟨wr.heap.size, 0, none⟩ = some (.string nm) ∧ W.cell? ⟨wr.heap.size, 1, none⟩ = some (.slice ua t[i].2.1.length uq) ∧ W.cell? ⟨wr.heap.size, 2, none⟩ = some (.int .i64 P) ∧ W.cell? ⟨wr.heap.size, 3, none⟩ = some (.slice pa t[i].2.2.2.1.length pq) ∧ W.cell? ⟨wr.heap.size, 4, none⟩ = some (.slice ca m cq')) := fun W g => ⟨(st.below g).cell 0 _ rfl, (st.below g).cell 1 _ rfl, (st.below g).cell 2 _ rfl, (st.below g).cell 3 _ rfl, (st.below g).cell 4 _ rfl⟩
                  have B0 := hid hbx
                  obtain ⟨y0, y1, y2, y3, y4⟩ := Z.out _ (Below.refl _ _)
                  clear st hbx
                  go_quiet (fail)
                  obtain ⟨w2, hw2⟩ : ∃ w2, w2 = w1.drewN 1 := ⟨_, rfl⟩
                  have R2 : Hid (Below w1.heap.size w1 w2) := by rw [hw2]; exact below_drewN (Below.refl _ _) 1
                  have q3 := below_cell (below_drewN (Below.refl _ w1) 1) y3
                  have q4 := y4
                  go_wp2_with (go_at_call 71; refine (CF.out _ (below_drewN B0.out _)).mono ?_; rintro e w3 ⟨rfl, b3⟩; have z4 := below_cell (below_trans (below_drewN (Below.refl _ w1) _) b3) y4)
                  go_ret
                  exact ⟨ret_b hf.out.symm, below_trans hb (below_trans (below_drewN B0.out _) b3)⟩
                · rw [hPF] at cf
                  rw [hPF, Bool.true_and] at HN
                  have CF := hid cf
                  clear cf hPF
                  by_cases h16 : (16 : Int) < m
                  · have hf := hbad (by rw [HN.out, decide_eq_false (by omega)])
                    clear hbad HN
                    go_wp2_with fail
                    generalize wr.alloc (.cells #[.string nm, .slice ua t[i].2.1.length uq, .int .i64 P, .slice pa t[i].2.2.2.1.length pq, .slice ca m cq'] 91) = w1 at st hbx ⊢
                    have Z : Hid (∀ W, Below w1.heap.size w1 W → W.cell? ⟨wr.heap.size, 0, none⟩ = some (.string nm) ∧ W.cell? ⟨wr.heap.size, 1, none⟩ = some (.slice ua t[i].2.1.length uq) ∧ W.cell? ⟨wr.heap.size, 2, none⟩ = some (.int .i64 P) ∧ W.cell? ⟨wr.heap.size, 3, none⟩ = some (.slice pa t[i].2.2.2.1.length pq) ∧ W.cell? ⟨wr.heap.size, 4, none⟩ = some (.slice ca m cq')) := fun W g => ⟨(st.below g).cell 0 _ rfl, (st.below g).cell 1 _ rfl, (st.below g).cell 2 _ rfl, (st.below g).cell 3 _ rfl, (st.below g).cell 4 _ rfl⟩
                    have B0 := hid hbx
                    obtain ⟨y0, y1, y2, y3, y4⟩ := Z.out _ (Below.refl _ _)
                    clear st hbx
                    go_quiet (fail)
                    obtain ⟨w2, hw2⟩ : ∃ w2, w2 = w1.drewN 1 := ⟨_, rfl⟩
                    have R2 : Hid (Below w1.heap.size w1 w2) := by rw [hw2]; exact below_drewN (Below.refl _ _) 1
                    have q3 := below_cell (below_drewN (Below.refl _ w1) 1) y3
                    have q4 := y4
                    go_wp2_with (go_at_call 71; refine (CF.out _ (below_drewN B0.out _)).mono ?_; rintro e w3 ⟨rfl, b3⟩; have z4 := below_cell (below_trans (below_drewN (Below.refl _ w1) _) b3) y4)
                    go_ret
                    exact ⟨ret_b hf.out.symm, below_trans hb (below_trans (below_drewN B0.out _) b3)⟩
                  · have hg : okN t i t[i] = true := by rw [HN.out, decide_eq_true (by omega)]
                    have hok2 : Hid (∀ j (g : j < i + 1) (hj : j < t.length), okN t j t[j] = true) := by
                      show ∀ j _ _, _
                      intro j g hj
                      by_cases hjk : j < i
                      · exact hok.out j hjk hj
                      · have : j = i := by omega
                        subst this
                        exact hg
                    clear hbad HN hg
                    go_wp2_with fail
                    generalize wr.alloc (.cells #[.string nm, .slice ua t[i].2.1.length uq, .int .i64 P, .slice pa t[i].2.2.2.1.length pq, .slice ca m cq'] 91) = w1 at st hbx ⊢
                    have Z : Hid (∀ W, Below w1.heap.size w1 W → W.cell? ⟨wr.heap.size, 0, none⟩ = some (.string nm) ∧ W.cell? ⟨wr.heap.size, 1, none⟩ = some (.slice ua t[i].2.1.length uq) ∧ W.cell? ⟨wr.heap.size, 2, none⟩ = some (.int .i64 P) ∧ W.cell? ⟨wr.heap.size, 3, none⟩ = some (.slice pa t[i].2.2.2.1.length pq) ∧ W.cell? ⟨wr.heap.size, 4, none⟩ = some (.slice ca m cq')) := fun W g => ⟨(st.below g).cell 0 _ rfl, (st.below g).cell 1 _ rfl, (st.below g).cell 2 _ rfl, (st.below g).cell 3 _ rfl, (st.below g).cell 4 _ rfl⟩
                    have B0 := hid hbx
                    obtain ⟨y0, y1, y2, y3, y4⟩ := Z.out _ (Below.refl _ _)
                    clear st hbx
                    go_quiet (fail)
                    obtain ⟨w2, hw2⟩ : ∃ w2, w2 = w1.drewN 1 := ⟨_, rfl⟩
                    have R2 : Hid (Below w1.heap.size w1 w2) := by rw [hw2]; exact below_drewN (Below.refl _ _) 1
                    have q3 := below_cell (below_drewN (Below.refl _ w1) 1) y3
                    have q4 := y4
                    go_wp2_with (go_at_call 71; refine (CF.out _ (below_drewN B0.out _)).mono ?_; rintro e w3 ⟨rfl, b3⟩; have z4 := below_cell (below_trans (below_drewN (Below.refl _ w1) _) b3) y4)
                    go_roundw
                    case rel => exact ⟨i + 1, by omega, by go_num, hok2, below_trans hb (below_trans (below_drewN B0.out _) b3)⟩
                    case measure => simp [intOf]; omega
              · have hi0 : ((i : Int) != 0) = true := by simp; exact hz
                have hq : okA t i t[i] = true := by rw [decide_eq_false hz, Bool.false_or] at hA; exact hA
                rw [hq] at cq
                clear hq hA hz
                have CQ := hid cq
                clear cq
                cases hPF : (decide (t[i].2.2.2.1.length ≤ 16) && okR t[i].2.2.2.1)
                · have hf := hbad (by rw [HN.out, hPF, Bool.false_and])
                  rw [hPF] at cf
                  clear hPF hbad HN
                  have CF := hid cf
                  clear cf
                  go_wp2_with fail
                  generalize wr.alloc (.cells #[.string nm, .slice ua t[i].2.1.length uq, .int .i64 P, .slice pa t[i].2.2.2.1.length pq, .slice ca m cq'] 91) = w1 at st hbx ⊢
                  have Z : Hid (∀ W, Below w1.heap.size w1 W → W.cell? ⟨wr.heap.size, 0, none⟩ = some (.string nm) ∧ W.cell? ⟨wr.heap.size, 1, none⟩ = some (.slice ua t[i].2.1.length uq) ∧ W.cell? ⟨wr.heap.size, 2, none⟩ = some (.int .i64 P) ∧ W.cell? ⟨wr.heap.size, 3, none⟩ = some (.slice pa t[i].2.2.2.1.length pq) ∧ W.cell? ⟨wr.heap.size, 4, none⟩ = some (.slice ca m cq')) := fun W g => ⟨(st.below g).cell 0 _ rfl, (st.below g).cell 1 _ rfl, (st.below g).cell 2 _ rfl, (st.below g).cell 3 _ rfl, (st.below g).cell 4 _ rfl⟩
                  have B0 := hid hbx
                  have hrd : Hid (Below w1.heap.size w1 w1.drew) := below_drewN (Below.refl _ _) 1
                  clear st hbx
                  go_region_held (fun W => W.cell? ⟨wr.heap.size, 0, none⟩ = some (.string nm) ∧ W.cell? ⟨wr.heap.size, 1, none⟩ = some (.slice ua t[i].2.1.length uq) ∧ W.cell? ⟨wr.heap.size, 2, none⟩ = some (.int .i64 P) ∧ W.cell? ⟨wr.heap.size, 3, none⟩ = some (.slice pa t[i].2.2.2.1.length pq) ∧ W.cell? ⟨wr.heap.size, 4, none⟩ = some (.slice ca m cq')) (first | with_reducible exact Z.out _ hrd.out | with_reducible exact Z.out _ R2.out)
                    (first | (go_at_call 70; refine (CQ.out _ (below_trans B0.out hrd.out)).mono ?_; rintro e w2 ⟨rfl, b2⟩; have R2 : Hid (Below w1.heap.size w1 w2) := below_trans hrd.out b2; clear b2))
                  obtain ⟨y0, y1, y2, y3, y4⟩ := Z.out _ R2.out
                  go_wp2_with (go_at_call 71; refine (CF.out _ (below_trans B0.out R2.out)).mono ?_; rintro e w3 ⟨rfl, b3⟩; have z4 := below_cell b3 y4)
                  go_ret
                  exact ⟨ret_b hf.out.symm, below_trans hb (below_trans (below_trans B0.out R2.out) b3)⟩
                · rw [hPF] at cf
                  rw [hPF, Bool.true_and] at HN
                  have CF := hid cf
                  clear cf hPF
                  by_cases h16 : (16 : Int) < m
                  · have hf := hbad (by rw [HN.out, decide_eq_false (by omega)])
                    clear hbad HN
                    go_wp2_with fail
                    generalize wr.alloc (.cells #[.string nm, .slice ua t[i].2.1.length uq, .int .i64 P, .slice pa t[i].2.2.2.1.length pq, .slice ca m cq'] 91) = w1 at st hbx ⊢
                    have Z : Hid (∀ W, Below w1.heap.size w1 W → W.cell? ⟨wr.heap.size, 0, none⟩ = some (.string nm) ∧ W.cell? ⟨wr.heap.size, 1, none⟩ = some (.slice ua t[i].2.1.length uq) ∧ W.cell? ⟨wr.heap.size, 2, none⟩ = some (.int .i64 P) ∧ W.cell? ⟨wr.heap.size, 3, none⟩ = some (.slice pa t[i].2.2.2.1.length pq) ∧ W.cell? ⟨wr.heap.size, 4, none⟩ = some (.slice ca m cq')) := fun W g => ⟨(st.below g).cell 0 _ rfl, (st.below g).cell 1 _ rfl, (st.below g).cell 2 _ rfl, (st.below g).cell 3 _ rfl, (st.below g).cell 4 _ rfl⟩
                    have B0 := hid hbx
                    have hrd : Hid (Below w1.heap.size w1 w1.drew) := below_drewN (Below.refl _ _) 1
                    clear st hbx
                    go_region_held (fun W => W.cell? ⟨wr.heap.size, 0, none⟩ = some (.string nm) ∧ W.cell? ⟨wr.heap.size, 1, none⟩ = some (.slice ua t[i].2.1.length uq) ∧ W.cell? ⟨wr.heap.size, 2, none⟩ = some (.int .i64 P) ∧ W.cell? ⟨wr.heap.size, 3, none⟩ = some (.slice pa t[i].2.2.2.1.length pq) ∧ W.cell? ⟨wr.heap.size, 4, none⟩ = some (.slice ca m cq')) (first | with_reducible exact Z.out _ hrd.out | with_reducible exact Z.out _ R2.out)
                      (first | (go_at_call 70; refine (CQ.out _ (below_trans B0.out hrd.out)).mono ?_; rintro e w2 ⟨rfl, b2⟩; have R2 : Hid (Below w1.heap.size w1 w2) := below_trans hrd.out b2; clear b2))
                    obtain ⟨y0, y1, y2, y3, y4⟩ := Z.out _ R2.out
                    go_wp2_with (go_at_call 71; refine (CF.out _ (below_trans B0.out R2.out)).mono ?_; rintro e w3 ⟨rfl, b3⟩; have z4 := below_cell b3 y4)
                    go_ret
                    exact ⟨ret_b hf.out.symm, below_trans hb (below_trans (below_trans B0.out R2.out) b3)⟩
                  · have hg : okN t i t[i] = true := by rw [HN.out, decide_eq_true (by omega)]
                    have hok2 : Hid (∀ j (g : j < i + 1) (hj : j < t.length), okN t j t[j] = true) := by
                      show ∀ j _ _, _
                      intro j g hj
                      by_cases hjk : j < i
                      · exact hok.out j hjk hj
                      · have : j = i := by omega
                        subst this
                        exact hg
                    clear hbad HN hg
                    go_wp2_with fail
                    generalize wr.alloc (.cells #[.string nm, .slice ua t[i].2.1.length uq, .int .i64 P, .slice pa t[i].2.2.2.1.length pq, .slice ca m cq'] 91) = w1 at st hbx ⊢
                    have Z : Hid (∀ W, Below w1.heap.size w1 W → W.cell? ⟨wr.heap.size, 0, none⟩ = some (.string nm) ∧ W.cell? ⟨wr.heap.size, 1, none⟩ = some (.slice ua t[i].2.1.length uq) ∧ W.cell? ⟨wr.heap.size, 2, none⟩ = some (.int .i64 P) ∧ W.cell? ⟨wr.heap.size, 3, none⟩ = some (.slice pa t[i].2.2.2.1.length pq) ∧ W.cell? ⟨wr.heap.size, 4, none⟩ = some (.slice ca m cq')) := fun W g => ⟨(st.below g).cell 0 _ rfl, (st.below g).cell 1 _ rfl, (st.below g).cell 2 _ rfl, (st.below g).cell 3 _ rfl, (st.below g).cell 4 _ rfl⟩
                    have B0 := hid hbx
                    have hrd : Hid (Below w1.heap.size w1 w1.drew) := below_drewN (Below.refl _ _) 1
                    clear st hbx
                    go_region_held (fun W => W.cell? ⟨wr.heap.size, 0, none⟩ = some (.string nm) ∧ W.cell? ⟨wr.heap.size, 1, none⟩ = some (.slice ua t[i].2.1.length uq) ∧ W.cell? ⟨wr.heap.size, 2, none⟩ = some (.int .i64 P) ∧ W.cell? ⟨wr.heap.size, 3, none⟩ = some (.slice pa t[i].2.2.2.1.length pq) ∧ W.cell? ⟨wr.heap.size, 4, none⟩ = some (.slice ca m cq')) (first | with_reducible exact Z.out _ hrd.out | with_reducible exact Z.out _ R2.out)
                      (first | (go_at_call 70; refine (CQ.out _ (below_trans B0.out hrd.out)).mono ?_; rintro e w2 ⟨rfl, b2⟩; have R2 : Hid (Below w1.heap.size w1 w2) := below_trans hrd.out b2; clear b2))
                    obtain ⟨y0, y1, y2, y3, y4⟩ := Z.out _ R2.out
                    go_wp2_with (go_at_call 71; refine (CF.out _ (below_trans B0.out R2.out)).mono ?_; rintro e w3 ⟨rfl, b3⟩; have z4 := below_cell b3 y4)
                    go_roundw
                    case rel => exact ⟨i + 1, by omega, by go_num, hok2, below_trans hb (below_trans (below_trans B0.out R2.out) b3)⟩
                    case measure => simp [intOf]; omega
          · have hf : Hid (frmT t = true) := by
              show _ = _
              rw [frm_iff]
              exact ⟨hlen32.out.2, hlen32.out.1, hroot.out, fun j hj => hok.out j (by omega) hj⟩
            go_wp2_with fail
            go_ret
            exact ⟨ret_b hf.out.symm, hb⟩

end Go.Proofs.Ytfljcfpcokimcaa
