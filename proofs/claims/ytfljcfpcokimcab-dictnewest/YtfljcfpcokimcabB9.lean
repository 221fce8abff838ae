/-
  Texts of one proof, laid one behind the other: Tf3 Tf4 Dp6.
-/
import Derived.Test.YtfljcfpcokimcabB8
namespace Go.Proofs.Ytfljcfpcokimcab
open Go.ChangeShapes Go.WideShapes Go.ChangeAt Go.RowKit
set_option linter.unusedVariables false
set_option linter.unusedSimpArgs false

/-
  Package tree's propsFormed, Formed, device and find.
-/
theorem fdI_ge (o : Option Nat) : (fdI o != -1) = decide ((0 : Int) ≤ fdI o) := by
  cases o with
  | none => rfl
  | some k =>
    have h0 : (0 : Int) ≤ fdI (some k) := Int.natCast_nonneg k
    rw [decide_eq_true h0, fdI_some]
    rfl

set_option maxHeartbeats 2000000 in
set_option maxRecDepth 100000 in
theorem w_ppropsformed (v : Value) (l : List Pp) (w : World) (h : SlR 2 propR w v l) (bl : ∀ x ∈ l, bytesL x.1) (ll : ∀ x ∈ l, x.1.length ≤ maxLen) :
    Calls Try.prog 38 #[v] w fun e w' => e = .returned (.bool (decide (l.length ≤ 16) && okR l)) ∧ Below w.heap.size w w' := by
  have hl := slr_len h uR (P := Try.prog)
  by_cases h16 : (16 : Int) < l.length
  · have hf : Hid ((decide (l.length ≤ 16) && okR l) = false) := by show _ = _; rw [decide_eq_false (by omega), Bool.false_and]
    go_enter Try.func38, Try.ntmps38
    go_wp2_with fail
    go_ret
    exact ⟨ret_b hf.out.symm, Below.refl _ _⟩
  · have he : (decide (l.length ≤ 16) && okR l) = okR l := by rw [decide_eq_true (by omega), Bool.true_and]
    rw [he]
    clear he
    go_enter Try.func38, Try.ntmps38
    go_wp2_with fail
    go_loopw [10] (fun I wx => ∃ k : Nat, (k : Int) ≤ l.length ∧ I = .int .i64 k ∧ Hid (∀ j (g : j < k) (hj : j < l.length), okP l j l[j] = true) ∧ Below w.heap.size w wx) (fun I _ => (l.length - intOf I).toNat)
    case atStart => exact ⟨0, by omega, rfl, hid (fun j g => by omega), Below.refl _ _⟩
    case round =>
      obtain ⟨k, hk, rfl, hok, hb⟩ := hrel
      by_cases hlt : (k : Int) < l.length
      · have hkl : k < l.length := by omega
        obtain ⟨b0, o0, nm, vd, r0, f0, f1, e0, hd0⟩ := prp_at8 (h.below hb (propR_below hb)) k hkl
        have hld := rd_len hd0 uB (P := Try.prog)
        obtain ⟨da, dq, rfl⟩ := rd_slice hd0
        have hL : L nm = l[k].1 := by rw [← e0]; exact LB_nums _ (bl _ (List.getElem_mem hkl))
        have hsz : nm.size ≤ maxLen := by
          have h1 := LB_len nm
          rw [show LB nm = l[k].1 from hL] at h1
          have := ll _ (List.getElem_mem hkl)
          omega
        obtain ⟨vh, hh, hhR⟩ := slr_head h uR zR k (by omega)
        have st := stands_new wr #[.string nm, .slice da l[k].2.length dq] 91
        have hbx := box_below wr (.cells #[.string nm, .slice da l[k].2.length dq] 91)
        have hb0 := below_trans hb hbx
        have cn := fun W => w_pnamed nm W hsz
        have cnq := fun W => w_pnamedQ nm W hsz
        have cp := fun W (g : Below w.heap.size w W) => w_pplace vh (l.take k) nm W (hhR.below g (propR_below g)) (fun x hx => bl x (List.mem_of_mem_take hx))
        simp only [hL] at cn cp cnq
        obtain ⟨n, hn⟩ : ∃ n, l[k].2.length = n := ⟨_, rfl⟩
        have bad := fun g => hid (okR_bad k hkl (okP_bad g))
        have good := fun (g1 : nmF (l[k]'hkl).1 = true) (g2 : ¬ 256 < (l[k]'hkl).2.length) (g3 : ¬ (0 : Int) ≤ fdI (pfF (l.take k) (l[k]'hkl).1)) => hid (okP_good (l := l) (k := k) (x := l[k]'hkl) g1 g2 g3)
        rw [hn] at hld f1 st hbx hb0
        obtain ⟨F, hF⟩ : ∃ F, fdI (pfF (l.take k) l[k].1) = F := ⟨_, rfl⟩
        simp only [hF] at cp
        cases hnm : nmF l[k].1
        · have hf := bad (Or.inl hnm)
          simp only [hnm] at cnq
          clear hnm hL e0 hF bad good cp hn cn
          have CN := hid cnq
          clear cnq
          go_wp2_with fail
          generalize wr.alloc (.cells #[.string nm, .slice da n dq] 91) = w1 at st hbx hb0 ⊢
          have Z : Hid (∀ W, Below w1.heap.size w1 W → W.cell? ⟨wr.heap.size, 0, none⟩ = some (.string nm) ∧ W.cell? ⟨wr.heap.size, 1, none⟩ = some (.slice da n dq)) := fun W g => ⟨(st.below g).cell 0 _ rfl, (st.below g).cell 1 _ rfl⟩
          have hrd : Hid (Below w1.heap.size w1 w1.drew) := below_drewN (Below.refl _ _) 1
          have B0 := hid hb0
          clear st hbx hb0
          obtain ⟨y0, y1⟩ := Z.out _ (Below.refl _ _)
          go_quiet (first | (go_at_call 51; exact Calls.quiet_of (CN.out _)))
          go_wp2_with fail
          go_ret
          exact ⟨ret_b hf.out.symm, below_drewN B0.out _⟩
        · simp only [hnm] at cn cnq
          by_cases h256 : (256 : Int) < n
          · have hf := bad (Or.inr (Or.inl (by omega)))
            have hd : decide ((256 : Int) < n) = true := decide_eq_true h256
            clear hnm hL e0 hF bad good cp hn cn
            have CN := hid cnq
            clear cnq
            go_wp2_with fail
            generalize wr.alloc (.cells #[.string nm, .slice da n dq] 91) = w1 at st hbx hb0 ⊢
            have Z : Hid (∀ W, Below w1.heap.size w1 W → W.cell? ⟨wr.heap.size, 0, none⟩ = some (.string nm) ∧ W.cell? ⟨wr.heap.size, 1, none⟩ = some (.slice da n dq)) := fun W g => ⟨(st.below g).cell 0 _ rfl, (st.below g).cell 1 _ rfl⟩
            have hrd : Hid (Below w1.heap.size w1 w1.drew) := below_drewN (Below.refl _ _) 1
            have B0 := hid hb0
            clear st hbx hb0
            obtain ⟨y0, y1⟩ := Z.out _ (Below.refl _ _)
            go_quiet (first | (go_at_call 51; exact Calls.quiet_of (CN.out _)))
            go_wp2_with fail
            go_ret
            exact ⟨ret_b hf.out.symm, below_drewN B0.out _⟩
          · have hd : decide ((256 : Int) < n) = false := decide_eq_false h256
            have hF2 : (F != -1) = decide ((0 : Int) ≤ F) := by rw [← hF]; exact fdI_ge _
            cases hFc : decide ((0 : Int) ≤ F)
            · have hF3 : (F != -1) = false := by rw [hF2, hFc]
              have hg := good hnm (by omega) (by rw [hF]; exact of_decide_eq_false hFc)
              have hok2 : Hid (∀ j (g : j < k + 1) (hj : j < l.length), okP l j l[j] = true) := by
                show ∀ j _ _, _
                intro j g hj
                by_cases hjk : j < k
                · exact hok.out j hjk hj
                · have : j = k := by omega
                  subst this
                  exact hg.out
              clear hnm hL e0 hF bad good hn hF2 hFc hg h256
              have CN := hid cn
              have CP := hid cp
              clear cn cp
              go_wp2_with fail
              generalize wr.alloc (.cells #[.string nm, .slice da n dq] 91) = w1 at st hbx hb0 ⊢
              have Z : Hid (∀ W, Below w1.heap.size w1 W → W.cell? ⟨wr.heap.size, 0, none⟩ = some (.string nm) ∧ W.cell? ⟨wr.heap.size, 1, none⟩ = some (.slice da n dq)) := fun W g => ⟨(st.below g).cell 0 _ rfl, (st.below g).cell 1 _ rfl⟩
              have hrd : Hid (Below w1.heap.size w1 w1.drew) := below_drewN (Below.refl _ _) 1
              have B0 := hid hb0
              clear st hbx hb0
              go_region_held (fun W => W.cell? ⟨wr.heap.size, 0, none⟩ = some (.string nm) ∧ W.cell? ⟨wr.heap.size, 1, none⟩ = some (.slice da n dq)) (first | with_reducible exact Z.out _ hrd.out | with_reducible exact Z.out _ R2.out | with_reducible exact Z.out _ R3.out)
                (first
                  | (go_at_call 51; refine (CN.out _).mono ?_; rintro e w2 ⟨rfl, b2⟩; have R2 : Hid (Below w1.heap.size w1 w2) := below_trans hrd.out b2; clear b2)
                  | (go_at_call 52; refine (CP.out _ (below_trans B0.out R2.out)).mono ?_; rintro e w3 ⟨rfl, b3⟩; have R3 : Hid (Below w1.heap.size w1 w3) := below_trans R2.out b3; clear b3))
              go_wp2_with fail
              go_roundw
              case rel => exact ⟨k + 1, by omega, by go_num, hok2, below_trans B0.out R3.out⟩
              case measure => simp [intOf]; omega
            · have hF3 : (F != -1) = true := by rw [hF2, hFc]
              have hf := bad (Or.inr (Or.inr (by rw [hF]; exact of_decide_eq_true hFc)))
              clear hnm hL e0 hF bad good hn hF2 hFc h256
              have CN := hid cn
              have CP := hid cp
              clear cn cp
              go_wp2_with fail
              generalize wr.alloc (.cells #[.string nm, .slice da n dq] 91) = w1 at st hbx hb0 ⊢
              have Z : Hid (∀ W, Below w1.heap.size w1 W → W.cell? ⟨wr.heap.size, 0, none⟩ = some (.string nm) ∧ W.cell? ⟨wr.heap.size, 1, none⟩ = some (.slice da n dq)) := fun W g => ⟨(st.below g).cell 0 _ rfl, (st.below g).cell 1 _ rfl⟩
              have hrd : Hid (Below w1.heap.size w1 w1.drew) := below_drewN (Below.refl _ _) 1
              have B0 := hid hb0
              clear st hbx hb0
              go_region_held (fun W => W.cell? ⟨wr.heap.size, 0, none⟩ = some (.string nm) ∧ W.cell? ⟨wr.heap.size, 1, none⟩ = some (.slice da n dq)) (first | with_reducible exact Z.out _ hrd.out | with_reducible exact Z.out _ R2.out | with_reducible exact Z.out _ R3.out)
                (first
                  | (go_at_call 51; refine (CN.out _).mono ?_; rintro e w2 ⟨rfl, b2⟩; have R2 : Hid (Below w1.heap.size w1 w2) := below_trans hrd.out b2; clear b2)
                  | (go_at_call 52; refine (CP.out _ (below_trans B0.out R2.out)).mono ?_; rintro e w3 ⟨rfl, b3⟩; have R3 : Hid (Below w1.heap.size w1 w3) := below_trans R2.out b3; clear b3))
              go_wp2_with fail
              go_ret
              exact ⟨ret_b hf.out.symm, below_trans B0.out R3.out⟩
      · have hf : Hid (okR l = true) := by
          show _ = _
          unfold okR
          rw [decide_eq_true_eq]
          intro j hj
          exact hok.out j (by omega) hj
        go_wp2_with fail
        go_ret
        exact ⟨ret_b hf.out.symm, hb⟩

/-
  Package tree's Formed.
-/
set_option maxHeartbeats 2000000 in
set_option maxRecDepth 100000 in
theorem w_p8formed' (v : Value) (t : List Nd) (w : World) (h : RdT w v t) (bt : ∀ x ∈ t, bytN x) (ls : ∀ x ∈ t, lenN x) :
    Calls Try.prog 21 #[v] w fun e w' => e = .returned (.bool (frmT t)) ∧ Below w.heap.size w w' := by
  have hla := slr_len h uN (P := Try.prog)
  have hm := slr_max h
  unfold maxLen at hm
  by_cases h0 : t.length = 0
  · have hf := hid (frm_len (Or.inl h0))
    have hl1 : ((t.length : Int) == 0) = true := by simp; exact List.eq_nil_of_length_eq_zero h0
    obtain ⟨n, hn⟩ : ∃ n, t.length = n := ⟨_, rfl⟩
    rw [hn] at hla hl1
    clear h0 hn hm
    go_enter Try.func21, Try.ntmps21
    go_wp2_with fail
    go_ret
    exact ⟨ret_b hf.out.symm, Below.refl _ _⟩
  · have hl1 : ((t.length : Int) == 0) = false := by simp; intro h; exact h0 (by rw [h]; rfl)
    by_cases h32 : (32 : Int) < t.length
    · have hf := hid (frm_len (Or.inr (show 32 < t.length by omega)))
      clear h0
      go_enter Try.func21, Try.ntmps21
      go_wp2_with fail
      go_ret
      exact ⟨ret_b hf.out.symm, Below.refl _ _⟩
    · have ht0 : 0 < t.length := by omega
      obtain ⟨b0, o0, N0, u0, p0, k0, r0, z0, z1, z2, z3, z4, e0, hu0, hp0, hc0⟩ := nod_at h 0 ht0
      have r0' : ∀ w', (Instr.indexAt 27 v (.int .i64 0)).run Try.prog w' = .ok (.pointer (some ⟨b0, o0, none⟩)) w' := r0
      have cr := w_pisroot N0 u0 p0 k0 t[0] w e0 (bt _ (List.getElem_mem ht0)).1 hu0 hp0 hc0
      obtain ⟨ua0, uq0, rfl⟩ := rd_slice hu0
      obtain ⟨pa0, pq0, rfl⟩ := slr_slice hp0
      obtain ⟨ca0, cq0, rfl⟩ := rd_slice hc0
      obtain ⟨P0, hP0⟩ : ∃ X, t[0].2.2.1 = X := ⟨_, rfl⟩
      rw [hP0] at z2 cr
      cases hrt : rootF t[0]
      · have hf := hid (frm_root ht0 hrt)
        rw [hrt] at cr
        clear hrt hP0 e0 r0 h0
        go_enter Try.func21, Try.ntmps21
        go_wp2_with (go_at_call 36; refine cr.mono ?_; rintro e w1 ⟨rfl, b1⟩)
        go_ret
        exact ⟨ret_b hf.out.symm, b1⟩
      · rw [hrt] at cr
        have hroot := hid hrt
        have hlen32 : Hid (t.length ≤ 32 ∧ 1 ≤ t.length) := ⟨by omega, by omega⟩
        clear hrt hP0 e0 r0 h0
        go_enter Try.func21, Try.ntmps21
        go_wp2_with (go_at_call 36; refine cr.mono ?_; rintro e w1 ⟨rfl, b1⟩)
        clear cr z0 z1 z2 z3 z4 r0'
        go_loopw [22] (fun I wx => ∃ i : Nat, (i : Int) ≤ t.length ∧ I = .int .i64 i ∧ Hid (∀ j (g : j < i) (hj : j < t.length), okN t j t[j] = true) ∧ Below w.heap.size w wx) (fun I _ => (t.length - intOf I).toNat)
        case atStart => exact ⟨0, by omega, rfl, hid (fun j g => by omega), b1⟩
        case round =>
          clear b1
          obtain ⟨i, hi, rfl, hok, hb⟩ := hrel
          by_cases hlt : (i : Int) < t.length
          · have hil : i < t.length := by omega
            obtain ⟨b1, o1, nm, u1, p1, c1, r1, f0, f1, f2, f3, f4, e1, hu1, hp1, hc1⟩ := nod_at (h.below hb) i hil
            obtain ⟨vh, hh, hhR⟩ := slr_head h uN zN i (by omega)
            have hbt := bt _ (List.getElem_mem hil)
            have hlt2 := ls _ (List.getElem_mem hil)
            have cq := fun W (g : Below wr.heap.size wr W) => w_pplaced vh (t.take i) nm u1 p1 c1 t[i] W (RdT.below hhR (below_trans hb g)) (fun x hx => bt x (List.mem_of_mem_take hx)) e1 hbt.1 hlt2.1 (hu1.below g) (hp1.below g (propR_below g)) (hc1.below g)
            have cf := fun W (g : Below wr.heap.size wr W) => w_ppropsformed p1 t[i].2.2.2.1 W (hp1.below g (propR_below g)) (fun x hx => (hbt.2 x hx).1) (fun x hx => hlt2.2 x hx)
            have hlc := rd_len hc1 uU (P := Try.prog)
            have htl : (t.take i).length = i := by rw [List.length_take]; omega
            rw [htl] at cq
            obtain ⟨ua, uq, rfl⟩ := rd_slice hu1
            obtain ⟨pa, pq, rfl⟩ := slr_slice hp1
            obtain ⟨ca, cq', rfl⟩ := rd_slice hc1
            have hokA : okA t i t[i] = (nmF t[i].1 && (decide (t[i].2.1.length ≤ 4) && (decide (0 ≤ t[i].2.2.1) && (decide (t[i].2.2.1 < i) && !twF (t.take i) t[i].2.2.1 t[i].1 t[i].2.1)))) := rfl
            rw [← hokA] at cq
            clear hokA
            obtain ⟨P, hP⟩ : ∃ X, t[i].2.2.1 = X := ⟨_, rfl⟩
            rw [hP] at f2 cq
            have st := stands_new wr #[.string nm, .slice ua t[i].2.1.length uq, .int .i64 P, .slice pa t[i].2.2.2.1.length pq, .slice ca t[i].2.2.2.2.length cq'] 70
            have hbx := box_below wr (.cells #[.string nm, .slice ua t[i].2.1.length uq, .int .i64 P, .slice pa t[i].2.2.2.1.length pq, .slice ca t[i].2.2.2.2.length cq'] 70)
            have hokN : okN t i t[i] = ((decide (i = 0) || okA t i t[i]) && ((decide (t[i].2.2.2.1.length ≤ 16) && okR t[i].2.2.2.1) && decide (t[i].2.2.2.2.length ≤ 16))) := by
              unfold okN
              cases decide (t[i].2.2.2.1.length ≤ 16) <;> cases decide (t[i].2.2.2.2.length ≤ 16) <;> cases okR t[i].2.2.2.1 <;> rfl
            have HN := hid hokN
            clear hokN hP e1 htl
            have hbad := fun g => hid (frm_bad i hil g)
            obtain ⟨m, hm2⟩ : ∃ m, t[i].2.2.2.2.length = m := ⟨_, rfl⟩
            rw [hm2] at f4 st hbx hlc HN
            simp only [hm2] at cq
            clear hm2
            cases hA : (decide (i = 0) || okA t i t[i])
            · have hf := hbad (by rw [HN.out, hA, Bool.false_and])
              have hi0 : ((i : Int) != 0) = true := by
                rw [Bool.or_eq_false_iff, decide_eq_false_iff_not] at hA
                simp
                exact hA.1
              have hq : okA t i t[i] = false := (Bool.or_eq_false_iff.1 hA).2
              rw [hq] at cq
              clear hq hA hbad HN cf
              have CQ := hid cq
              clear cq
              go_wp2_with fail
              generalize wr.alloc (.cells #[.string nm, .slice ua t[i].2.1.length uq, .int .i64 P, .slice pa t[i].2.2.2.1.length pq, .slice ca m cq'] 70) = w1 at st hbx ⊢
              have Z : Hid (∀ W, Below w1.heap.size w1 W → W.cell? ⟨wr.heap.size, 0, none⟩ = some (.string nm) ∧ W.cell? ⟨wr.heap.size, 1, none⟩ = some (.slice ua t[i].2.1.length uq) ∧ W.cell? ⟨wr.heap.size, 2, none⟩ = some (.int .i64 P) ∧ W.cell? ⟨wr.heap.size, 3, none⟩ = some (.slice pa t[i].2.2.2.1.length pq) ∧ W.cell? ⟨wr.heap.size, 4, none⟩ = some (.slice ca m cq')) := fun W g => ⟨(st.below g).cell 0 _ rfl, (st.below g).cell 1 _ rfl, (st.below g).cell 2 _ rfl, (st.below g).cell 3 _ rfl, (st.below g).cell 4 _ rfl⟩
              have hrd : Hid (Below w1.heap.size w1 w1.drew) := below_drewN (Below.refl _ _) 1
              have B0 := hid hbx
              clear st hbx
              go_region_held (fun W => W.cell? ⟨wr.heap.size, 0, none⟩ = some (.string nm) ∧ W.cell? ⟨wr.heap.size, 1, none⟩ = some (.slice ua t[i].2.1.length uq) ∧ W.cell? ⟨wr.heap.size, 2, none⟩ = some (.int .i64 P) ∧ W.cell? ⟨wr.heap.size, 3, none⟩ = some (.slice pa t[i].2.2.2.1.length pq) ∧ W.cell? ⟨wr.heap.size, 4, none⟩ = some (.slice ca m cq')) (first | with_reducible exact Z.out _ hrd.out | with_reducible exact Z.out _ R2.out)
                (first | (go_at_call 37; refine (CQ.out _ (below_trans B0.out hrd.out)).mono ?_; rintro e w2 ⟨rfl, b2⟩; have R2 : Hid (Below w1.heap.size w1 w2) := below_trans hrd.out b2; clear b2))
              go_wp2_with fail
              go_ret
              exact ⟨ret_b hf.out.symm, below_trans hb (below_trans B0.out R2.out)⟩
            · rw [hA, Bool.true_and] at HN
              by_cases hz : i = 0
              · have hi0 : ((i : Int) != 0) = false := by simp [hz]
                clear hA cq hz
                cases hPF : (decide (t[i].2.2.2.1.length ≤ 16) && okR t[i].2.2.2.1)
                · have hf := hbad (by rw [HN.out, hPF, Bool.false_and])
                  rw [hPF] at cf
                  clear hPF hbad HN
                  have CF := hid cf
                  clear cf
                  go_wp2_with fail
                  generalize wr.alloc (.cells #[.string nm, .slice ua t[i].2.1.length uq, .int .i64 P, .slice pa t[i].2.2.2.1.length pq, .slice ca m cq'] 70) = w1 at st hbx ⊢
                  have Z : Hid (∀ W, Below w1.heap.size w1 W → W.cell? ⟨wr.heap.size, 0, none⟩ = some (.string nm) ∧ W.cell? ⟨wr.heap.size, 1, none⟩ = some (.slice ua t[i].2.1.length uq) ∧ W.cell? ⟨wr.heap.size, 2, none⟩ = some (.int .i64 P) ∧ W.cell? ⟨wr.heap.size, 3, none⟩ = some (.slice pa t[i].2.2.2.1.length pq) ∧ W.cell? ⟨wr.heap.size, 4, none⟩ = some (.slice ca m cq')) := fun W g => ⟨(st.below g).cell 0 _ rfl, (st.below g).cell 1 _ rfl, (st.below g).cell 2 _ rfl, (st.below g).cell 3 _ rfl, (st.below g).cell 4 _ rfl⟩
                  have B0 := hid hbx
                  obtain ⟨y0, y1, y2, y3, y4⟩ := Z.out _ (Below.refl _ _)
                  clear st hbx
                  go_quiet (fail)
                  obtain ⟨w2, hw2⟩ : ∃ w2, w2 = w1.drewN 1 := ⟨_, rfl⟩
                  have R2 : Hid (Below w1.heap.size w1 w2) := by rw [hw2]; exact below_drewN (Below.refl _ _) 1
                  have q3 := below_cell (below_drewN (Below.refl _ w1) 1) y3
                  have q4 := y4
                  go_wp2_with (go_at_call 38; refine (CF.out _ (below_drewN B0.out _)).mono ?_; rintro e w3 ⟨rfl, b3⟩; have z4 := below_cell (below_trans (below_drewN (Below.refl _ w1) _) b3) y4)
                  go_ret
                  exact ⟨ret_b hf.out.symm, below_trans hb (below_trans (below_drewN B0.out _) b3)⟩
                · rw [hPF] at cf
                  rw [hPF, Bool.true_and] at HN
                  have CF := hid cf
                  clear cf hPF
                  by_cases h16 : (16 : Int) < m
                  · have hf := hbad (by rw [HN.out, decide_eq_false (by omega)])
                    clear hbad HN
                    go_wp2_with fail
                    generalize wr.alloc (.cells #[.string nm, .slice ua t[i].2.1.length uq, .int .i64 P, .slice pa t[i].2.2.2.1.length pq, .slice ca m cq'] 70) = w1 at st hbx ⊢
                    have Z : Hid (∀ W, Below w1.heap.size w1 W → W.cell? ⟨wr.heap.size, 0, none⟩ = some (.string nm) ∧ W.cell? ⟨wr.heap.size, 1, none⟩ = some (.slice ua t[i].2.1.length uq) ∧ W.cell? ⟨wr.heap.size, 2, none⟩ = some (.int .i64 P) ∧ W.cell? ⟨wr.heap.size, 3, none⟩ = some (.slice pa t[i].2.2.2.1.length pq) ∧ W.cell? ⟨wr.heap.size, 4, none⟩ = some (.slice ca m cq')) := fun W g => ⟨(st.below g).cell 0 _ rfl, (st.below g).cell 1 _ rfl, (st.below g).cell 2 _ rfl, (st.below g).cell 3 _ rfl, (st.below g).cell 4 _ rfl⟩
                    have B0 := hid hbx
                    obtain ⟨y0, y1, y2, y3, y4⟩ := Z.out _ (Below.refl _ _)
                    clear st hbx
                    go_quiet (fail)
                    obtain ⟨w2, hw2⟩ : ∃ w2, w2 = w1.drewN 1 := ⟨_, rfl⟩
                    have R2 : Hid (Below w1.heap.size w1 w2) := by rw [hw2]; exact below_drewN (Below.refl _ _) 1
                    have q3 := below_cell (below_drewN (Below.refl _ w1) 1) y3
                    have q4 := y4
                    go_wp2_with (go_at_call 38; refine (CF.out _ (below_drewN B0.out _)).mono ?_; rintro e w3 ⟨rfl, b3⟩; have z4 := below_cell (below_trans (below_drewN (Below.refl _ w1) _) b3) y4)
                    go_ret
                    exact ⟨ret_b hf.out.symm, below_trans hb (below_trans (below_drewN B0.out _) b3)⟩
                  · have hg : okN t i t[i] = true := by rw [HN.out, decide_eq_true (by omega)]
                    have hok2 : Hid (∀ j (g : j < i + 1) (hj : j < t.length), okN t j t[j] = true) := by
                      show ∀ j _ _, _
                      intro j g hj
                      by_cases hjk : j < i
                      · exact hok.out j hjk hj
                      · have : j = i := by omega
                        subst this
                        exact hg
                    clear hbad HN hg
                    go_wp2_with fail
                    generalize wr.alloc (.cells #[.string nm, .slice ua t[i].2.1.length uq, .int .i64 P, .slice pa t[i].2.2.2.1.length pq, .slice ca m cq'] 70) = w1 at st hbx ⊢
                    have Z : Hid (∀ W, Below w1.heap.size w1 W → W.cell? ⟨wr.heap.size, 0, none⟩ = some (.string nm) ∧ W.cell? ⟨wr.heap.size, 1, none⟩ = some (.slice ua t[i].2.1.length uq) ∧ W.cell? ⟨wr.heap.size, 2, none⟩ = some (.int .i64 P) ∧ W.cell? ⟨wr.heap.size, 3, none⟩ = some (.slice pa t[i].2.2.2.1.length pq) ∧ W.cell? ⟨wr.heap.size, 4, none⟩ = some (.slice ca m cq')) := fun W g => ⟨(st.below g).cell 0 _ rfl, (st.below g).cell 1 _ rfl, (st.below g).cell 2 _ rfl, (st.below g).cell 3 _ rfl, (st.below g).cell 4 _ rfl⟩
                    have B0 := hid hbx
                    obtain ⟨y0, y1, y2, y3, y4⟩ := Z.out _ (Below.refl _ _)
                    clear st hbx
                    go_quiet (fail)
                    obtain ⟨w2, hw2⟩ : ∃ w2, w2 = w1.drewN 1 := ⟨_, rfl⟩
                    have R2 : Hid (Below w1.heap.size w1 w2) := by rw [hw2]; exact below_drewN (Below.refl _ _) 1
                    have q3 := below_cell (below_drewN (Below.refl _ w1) 1) y3
                    have q4 := y4
                    go_wp2_with (go_at_call 38; refine (CF.out _ (below_drewN B0.out _)).mono ?_; rintro e w3 ⟨rfl, b3⟩; have z4 := below_cell (below_trans (below_drewN (Below.refl _ w1) _) b3) y4)
                    go_roundw
                    case rel => exact ⟨i + 1, by omega, by go_num, hok2, below_trans hb (below_trans (below_drewN B0.out _) b3)⟩
                    case measure => simp [intOf]; omega
              · have hi0 : ((i : Int) != 0) = true := by simp; exact hz
                have hq : okA t i t[i] = true := by rw [decide_eq_false hz, Bool.false_or] at hA; exact hA
                rw [hq] at cq
                clear hq hA hz
                have CQ := hid cq
                clear cq
                cases hPF : (decide (t[i].2.2.2.1.length ≤ 16) && okR t[i].2.2.2.1)
                · have hf := hbad (by rw [HN.out, hPF, Bool.false_and])
                  rw [hPF] at cf
                  clear hPF hbad HN
                  have CF := hid cf
                  clear cf
                  go_wp2_with fail
                  generalize wr.alloc (.cells #[.string nm, .slice ua t[i].2.1.length uq, .int .i64 P, .slice pa t[i].2.2.2.1.length pq, .slice ca m cq'] 70) = w1 at st hbx ⊢
                  have Z : Hid (∀ W, Below w1.heap.size w1 W → W.cell? ⟨wr.heap.size, 0, none⟩ = some (.string nm) ∧ W.cell? ⟨wr.heap.size, 1, none⟩ = some (.slice ua t[i].2.1.length uq) ∧ W.cell? ⟨wr.heap.size, 2, none⟩ = some (.int .i64 P) ∧ W.cell? ⟨wr.heap.size, 3, none⟩ = some (.slice pa t[i].2.2.2.1.length pq) ∧ W.cell? ⟨wr.heap.size, 4, none⟩ = some (.slice ca m cq')) := fun W g => ⟨(st.below g).cell 0 _ rfl, (st.below g).cell 1 _ rfl, (st.below g).cell 2 _ rfl, (st.below g).cell 3 _ rfl, (st.below g).cell 4 _ rfl⟩
                  have B0 := hid hbx
                  have hrd : Hid (Below w1.heap.size w1 w1.drew) := below_drewN (Below.refl _ _) 1
                  clear st hbx
                  go_region_held (fun W => W.cell? ⟨wr.heap.size, 0, none⟩ = some (.string nm) ∧ W.cell? ⟨wr.heap.size, 1, none⟩ = some (.slice ua t[i].2.1.length uq) ∧ W.cell? ⟨wr.heap.size, 2, none⟩ = some (.int .i64 P) ∧ W.cell? ⟨wr.heap.size, 3, none⟩ = some (.slice pa t[i].2.2.2.1.length pq) ∧ W.cell? ⟨wr.heap.size, 4, none⟩ = some (.slice ca m cq')) (first | with_reducible exact Z.out _ hrd.out | with_reducible exact Z.out _ R2.out)
                    (first | (go_at_call 37; refine (CQ.out _ (below_trans B0.out hrd.out)).mono ?_; rintro e w2 ⟨rfl, b2⟩; have R2 : Hid (Below w1.heap.size w1 w2) := below_trans hrd.out b2; clear b2))
                  obtain ⟨y0, y1, y2, y3, y4⟩ := Z.out _ R2.out
                  go_wp2_with (go_at_call 38; refine (CF.out _ (below_trans B0.out R2.out)).mono ?_; rintro e w3 ⟨rfl, b3⟩; have z4 := below_cell b3 y4)
                  go_ret
                  exact ⟨ret_b hf.out.symm, below_trans hb (below_trans (below_trans B0.out R2.out) b3)⟩
                · rw [hPF] at cf
                  rw [hPF, Bool.true_and] at HN
                  have CF := hid cf
                  clear cf hPF
                  by_cases h16 : (16 : Int) < m
                  · have hf := hbad (by rw [HN.out, decide_eq_false (by omega)])
                    clear hbad HN
                    go_wp2_with fail
                    generalize wr.alloc (.cells #[.string nm, .slice ua t[i].2.1.length uq, .int .i64 P, .slice pa t[i].2.2.2.1.length pq, .slice ca m cq'] 70) = w1 at st hbx ⊢
                    have Z : Hid (∀ W, Below w1.heap.size w1 W → W.cell? ⟨wr.heap.size, 0, none⟩ = some (.string nm) ∧ W.cell? ⟨wr.heap.size, 1, none⟩ = some (.slice ua t[i].2.1.length uq) ∧ W.cell? ⟨wr.heap.size, 2, none⟩ = some (.int .i64 P) ∧ W.cell? ⟨wr.heap.size, 3, none⟩ = some (.slice pa t[i].2.2.2.1.length pq) ∧ W.cell? ⟨wr.heap.size, 4, none⟩ = some (.slice ca m cq')) := fun W g => ⟨(st.below g).cell 0 _ rfl, (st.below g).cell 1 _ rfl, (st.below g).cell 2 _ rfl, (st.below g).cell 3 _ rfl, (st.below g).cell 4 _ rfl⟩
                    have B0 := hid hbx
                    have hrd : Hid (Below w1.heap.size w1 w1.drew) := below_drewN (Below.refl _ _) 1
                    clear st hbx
                    go_region_held (fun W => W.cell? ⟨wr.heap.size, 0, none⟩ = some (.string nm) ∧ W.cell? ⟨wr.heap.size, 1, none⟩ = some (.slice ua t[i].2.1.length uq) ∧ W.cell? ⟨wr.heap.size, 2, none⟩ = some (.int .i64 P) ∧ W.cell? ⟨wr.heap.size, 3, none⟩ = some (.slice pa t[i].2.2.2.1.length pq) ∧ W.cell? ⟨wr.heap.size, 4, none⟩ = some (.slice ca m cq')) (first | with_reducible exact Z.out _ hrd.out | with_reducible exact Z.out _ R2.out)
                      (first | (go_at_call 37; refine (CQ.out _ (below_trans B0.out hrd.out)).mono ?_; rintro e w2 ⟨rfl, b2⟩; have R2 : Hid (Below w1.heap.size w1 w2) := below_trans hrd.out b2; clear b2))
                    obtain ⟨y0, y1, y2, y3, y4⟩ := Z.out _ R2.out
                    go_wp2_with (go_at_call 38; refine (CF.out _ (below_trans B0.out R2.out)).mono ?_; rintro e w3 ⟨rfl, b3⟩; have z4 := below_cell b3 y4)
                    go_ret
                    exact ⟨ret_b hf.out.symm, below_trans hb (below_trans (below_trans B0.out R2.out) b3)⟩
                  · have hg : okN t i t[i] = true := by rw [HN.out, decide_eq_true (by omega)]
                    have hok2 : Hid (∀ j (g : j < i + 1) (hj : j < t.length), okN t j t[j] = true) := by
                      show ∀ j _ _, _
                      intro j g hj
                      by_cases hjk : j < i
                      · exact hok.out j hjk hj
                      · have : j = i := by omega
                        subst this
                        exact hg
                    clear hbad HN hg
                    go_wp2_with fail
                    generalize wr.alloc (.cells #[.string nm, .slice ua t[i].2.1.length uq, .int .i64 P, .slice pa t[i].2.2.2.1.length pq, .slice ca m cq'] 70) = w1 at st hbx ⊢
                    have Z : Hid (∀ W, Below w1.heap.size w1 W → W.cell? ⟨wr.heap.size, 0, none⟩ = some (.string nm) ∧ W.cell? ⟨wr.heap.size, 1, none⟩ = some (.slice ua t[i].2.1.length uq) ∧ W.cell? ⟨wr.heap.size, 2, none⟩ = some (.int .i64 P) ∧ W.cell? ⟨wr.heap.size, 3, none⟩ = some (.slice pa t[i].2.2.2.1.length pq) ∧ W.cell? ⟨wr.heap.size, 4, none⟩ = some (.slice ca m cq')) := fun W g => ⟨(st.below g).cell 0 _ rfl, (st.below g).cell 1 _ rfl, (st.below g).cell 2 _ rfl, (st.below g).cell 3 _ rfl, (st.below g).cell 4 _ rfl⟩
                    have B0 := hid hbx
                    have hrd : Hid (Below w1.heap.size w1 w1.drew) := below_drewN (Below.refl _ _) 1
                    clear st hbx
                    go_region_held (fun W => W.cell? ⟨wr.heap.size, 0, none⟩ = some (.string nm) ∧ W.cell? ⟨wr.heap.size, 1, none⟩ = some (.slice ua t[i].2.1.length uq) ∧ W.cell? ⟨wr.heap.size, 2, none⟩ = some (.int .i64 P) ∧ W.cell? ⟨wr.heap.size, 3, none⟩ = some (.slice pa t[i].2.2.2.1.length pq) ∧ W.cell? ⟨wr.heap.size, 4, none⟩ = some (.slice ca m cq')) (first | with_reducible exact Z.out _ hrd.out | with_reducible exact Z.out _ R2.out)
                      (first | (go_at_call 37; refine (CQ.out _ (below_trans B0.out hrd.out)).mono ?_; rintro e w2 ⟨rfl, b2⟩; have R2 : Hid (Below w1.heap.size w1 w2) := below_trans hrd.out b2; clear b2))
                    obtain ⟨y0, y1, y2, y3, y4⟩ := Z.out _ R2.out
                    go_wp2_with (go_at_call 38; refine (CF.out _ (below_trans B0.out R2.out)).mono ?_; rintro e w3 ⟨rfl, b3⟩; have z4 := below_cell b3 y4)
                    go_roundw
                    case rel => exact ⟨i + 1, by omega, by go_num, hok2, below_trans hb (below_trans (below_trans B0.out R2.out) b3)⟩
                    case measure => simp [intOf]; omega
          · have hf : Hid (frmT t = true) := by
              show _ = _
              rw [frm_iff]
              exact ⟨hlen32.out.2, hlen32.out.1, hroot.out, fun j hj => hok.out j (by omega) hj⟩
            go_wp2_with fail
            go_ret
            exact ⟨ret_b hf.out.symm, hb⟩

/-
  Package dict's Formed.
-/
theorem uA9 : Try.prog.underlying 23 = some (.slice (Try.prog.elem 23)) := by kernel_rfl
theorem gW.ok {x : Wd} (h : gW x) : okV x := ⟨h.byt, h.len, fun y hy => (h.ops y hy).2, h.num⟩
theorem mch_cells9 {q : World} {b : Nat} {v : Mv} {m : Mc} {o : ByteArray} {T : TypeId} (h : Stands q b (v.cs m o) T) :
    q.cell? ⟨b, 0, none⟩ = some v.vs ∧ q.cell? ⟨b, 1, none⟩ = some v.vm ∧ q.cell? ⟨b, 2, none⟩ = some v.vw ∧ q.cell? ⟨b, 3, none⟩ = some v.vc ∧ q.cell? ⟨b, 4, none⟩ = some (.int .u32 m.base) ∧ q.cell? ⟨b, 5, none⟩ = some v.vt ∧ q.cell? ⟨b, 6, none⟩ = some (.int .i64 m.node) ∧ q.cell? ⟨b, 7, none⟩ = some v.vi ∧ q.cell? ⟨b, 8, none⟩ = some (.int .i64 m.self) ∧ q.cell? ⟨b, 9, none⟩ = some (.string o) :=
  ⟨h.cell 0 _ rfl, h.cell 1 _ rfl, h.cell 2 _ rfl, h.cell 3 _ rfl, h.cell 4 _ rfl, h.cell 5 _ rfl, h.cell 6 _ rfl, h.cell 7 _ rfl, h.cell 8 _ rfl, h.cell 9 _ rfl⟩
theorem frm_as (m : Mc) : frmM m = (decide (m.stack.length ≤ 64) && (decide (m.mem.length ≤ 4096) && (decide (m.out.length ≤ 1024) && (decide (2 ≤ m.base) && (decide (m.base ≤ 36) && (frmT m.tree && (decide (-1 ≤ m.node ∧ m.node < m.tree.length) && (wdsF m.words m.tree && (cdsF m.codes m.words.length && (insF m.insts m.tree && noaF m.insts m.self)))))))))) := by
  have hI : (insF m.insts m.tree && (decide (m.self = -1) || alvF m.insts m.self)) = (insF m.insts m.tree && noaF m.insts m.self) := by
    cases h : insF m.insts m.tree
    · rfl
    · rw [Bool.true_and, Bool.true_and]
      rw [insF_as] at h
      unfold inpF at h
      simp only [Bool.and_eq_true] at h
      exact (noa_paK h.2.1 m.self).symm
  unfold frmM
  rw [Bool.eq_iff_iff]
  simp only [Bool.and_eq_true, decide_eq_true_eq]
  have hI2 : (insF m.insts m.tree = true ∧ (decide (m.self = -1) || alvF m.insts m.self) = true) ↔ (insF m.insts m.tree = true ∧ noaF m.insts m.self = true) := by
    rw [← Bool.and_eq_true, ← Bool.and_eq_true, hI]
  constructor
  · rintro ⟨⟨a1, a2, a3, a4, a5⟩, a6, a7, a8, a9, a10, a11⟩
    have := hI2.1 ⟨a8, a9⟩
    exact ⟨a1, a2, a5, a3, a4, a6, a7, a10, a11, this.1, this.2⟩
  · rintro ⟨a1, a2, a5, a3, a4, a6, a7, a10, a11, a8, a9⟩
    have := hI2.2 ⟨a8, a9⟩
    exact ⟨⟨a1, a2, a3, a4, a5⟩, a6, a7, this.1, this.2, a10, a11⟩

set_option maxHeartbeats 8000000 in
set_option maxRecDepth 100000 in
theorem w_p9formed' (m : Mc) (v : Mv) (o : ByteArray) (w : World) (h : RdM w v m o) (g : gM m) :
    Calls Try.prog 10 #[.agg (v.cs m o)] w fun e w' => e = .returned (.bool (frmM m)) ∧ Below w.heap.size w w' := by
  have st := stands_new w (v.cs m o) 30
  have bw := box_below w (.cells (v.cs m o) 30)
  have K := fun q (g : Below (w.alloc (.cells (v.cs m o) 30)).heap.size (w.alloc (.cells (v.cs m o) 30)) q) => mch_cells9 (st.below g)
  have l1 := rd_len h.stack uU (P := Try.prog)
  have l2 := rd_len h.mem uA9 (P := Try.prog)
  have l3 := slr_len h.words uW (P := Try.prog)
  have l5 := slr_len h.tree uN (P := Try.prog)
  have hos : (m.out.length : Int) = o.size := by rw [← L_len, show L o = m.out by rw [← h.out]; exact LB_nums _ g.out]
  have ct := fun W (b : Below w.heap.size w W) => w_p8formed' v.vt m.tree W (h.tree.below b) (fun x hx => (g.tree x hx).1) (fun x hx => (g.tree x hx).2.1)
  have cb := fun W => w_pnob m.node m.tree.length W
  have cw := fun W (b : Below w.heap.size w W) => w_pwords v.vw v.vt m.words m.tree W (h.words.below b) (h.tree.below b) (fun x hx => (g.words x hx).ok)
  have cc := fun W (b : Below w.heap.size w W) => w_pcodes v.vc m.codes m.words.length W (h.codes.below b)
  have ci := fun W (b : Below w.heap.size w W) => w_pinsts v.vi v.vt m.insts m.tree W (h.insts.below b) (h.tree.below b) (fun x hx => (g.insts x hx).byt)
  have ca := fun W (b : Below w.heap.size w W) => w_pnoal v.vi m.insts m.self W (h.insts.below b)
  obtain ⟨R, hR⟩ : ∃ R, frmM m = R := ⟨_, rfl⟩
  rw [hR]
  rw [frm_as] at hR
  have gb := g.base
  obtain ⟨BA, hBA⟩ : ∃ X, m.base = X := ⟨_, rfl⟩
  obtain ⟨ND, hND⟩ : ∃ X, m.node = X := ⟨_, rfl⟩
  obtain ⟨SE, hSE⟩ : ∃ X, m.self = X := ⟨_, rfl⟩
  obtain ⟨U, hU⟩ : ∃ X, v.cs m o = X := ⟨_, rfl⟩
  simp only [hBA, hND, hSE, hU] at hR ca cb K bw gb ⊢
  obtain ⟨FT, hFT⟩ : ∃ X, frmT m.tree = X := ⟨_, rfl⟩
  obtain ⟨FN, hFN⟩ : ∃ X, decide (-1 ≤ ND ∧ ND < (m.tree.length : Int)) = X := ⟨_, rfl⟩
  obtain ⟨FW, hFW⟩ : ∃ X, wdsF m.words m.tree = X := ⟨_, rfl⟩
  obtain ⟨FC, hFC⟩ : ∃ X, cdsF m.codes m.words.length = X := ⟨_, rfl⟩
  obtain ⟨FI, hFI⟩ : ∃ X, insF m.insts m.tree = X := ⟨_, rfl⟩
  obtain ⟨FA, hFA⟩ : ∃ X, noaF m.insts SE = X := ⟨_, rfl⟩
  simp only [hFT, hFN, hFW, hFC, hFI, hFA] at hR ct cb cw cc ci ca
  obtain ⟨f0, f1, f2, f3, f4, f5, f6, f7, f8, f9⟩ := K _ (Below.refl _ _)
  obtain ⟨n1, hn1⟩ : ∃ n, m.stack.length = n := ⟨_, rfl⟩
  obtain ⟨n2, hn2⟩ : ∃ n, m.mem.length = n := ⟨_, rfl⟩
  obtain ⟨n9, hn9⟩ : ∃ n, m.out.length = n := ⟨_, rfl⟩
  rw [hn1] at hR l1
  rw [hn2] at hR l2
  rw [hn9] at hR hos
  clear hBA hND hSE hU hFT hFN hFW hFC hFI hFA st hn1 hn2 hn9
  by_cases c_stack : (64 : Int) < n1
  · have q_stack : decide ((64 : Int) < n1) = true := decide_eq_true c_stack
    have hF : R = false := by rw [← hR, decide_eq_false (by omega : ¬ n1 ≤ 64), Bool.false_and]
    subst hF
    clear hR
    go_enter Try.func10, Try.ntmps10
    go_wp2_with fail
    go_ret
    exact ⟨rfl, bw⟩
  · have q_stack : decide ((64 : Int) < n1) = false := decide_eq_false c_stack
    rw [decide_eq_true (by omega : n1 ≤ 64), Bool.true_and] at hR
    by_cases c_mem : (4096 : Int) < n2
    · have q_mem : decide ((4096 : Int) < n2) = true := decide_eq_true c_mem
      have hF : R = false := by rw [← hR, decide_eq_false (by omega : ¬ n2 ≤ 4096), Bool.false_and]
      subst hF
      clear hR
      go_enter Try.func10, Try.ntmps10
      go_wp2_with fail
      go_ret
      exact ⟨rfl, bw⟩
    · have q_mem : decide ((4096 : Int) < n2) = false := decide_eq_false c_mem
      rw [decide_eq_true (by omega : n2 ≤ 4096), Bool.true_and] at hR
      by_cases c_out : (1024 : Int) < o.size
      · have q_out : decide ((1024 : Int) < o.size) = true := decide_eq_true c_out
        have hF : R = false := by rw [← hR, decide_eq_false (by omega : ¬ n9 ≤ 1024), Bool.false_and]
        subst hF
        clear hR
        go_enter Try.func10, Try.ntmps10
        go_wp2_with fail
        go_ret
        exact ⟨rfl, bw⟩
      · have q_out : decide ((1024 : Int) < o.size) = false := decide_eq_false c_out
        rw [decide_eq_true (by omega : n9 ≤ 1024), Bool.true_and] at hR
        by_cases c_b2 : BA < 2
        · have q_b2 : decide (BA < 2) = true := decide_eq_true c_b2
          have hF : R = false := by rw [← hR, decide_eq_false (by omega : ¬ 2 ≤ BA), Bool.false_and]
          subst hF
          clear hR
          go_enter Try.func10, Try.ntmps10
          go_wp2_with fail
          go_ret
          exact ⟨rfl, bw⟩
        · have q_b2 : decide (BA < 2) = false := decide_eq_false c_b2
          rw [decide_eq_true (by omega : 2 ≤ BA), Bool.true_and] at hR
          by_cases c_b36 : 36 < BA
          · have q_b36 : decide (36 < BA) = true := decide_eq_true c_b36
            have hF : R = false := by rw [← hR, decide_eq_false (by omega : ¬ BA ≤ 36), Bool.false_and]
            subst hF
            clear hR
            go_enter Try.func10, Try.ntmps10
            go_wp2_with fail
            go_ret
            exact ⟨rfl, bw⟩
          · have q_b36 : decide (36 < BA) = false := decide_eq_false c_b36
            rw [decide_eq_true (by omega : BA ≤ 36), Bool.true_and] at hR
            cases FT
            · have hF : R = false := by rw [← hR, Bool.false_and]
              subst hF
              clear hR
              go_enter Try.func10, Try.ntmps10
              go_wp2_with (first | (go_at_call 21; refine (ct _ bw).mono ?_; rintro e r1 ⟨rfl, b1⟩; obtain ⟨p0, p1, p2, p3, p4, p5, p6, p7, p8, p9⟩ := K _ b1))
              go_ret
              exact ⟨rfl, below_trans bw b1⟩
            · rw [Bool.true_and] at hR
              cases FN
              · have hF : R = false := by rw [← hR, Bool.false_and]
                subst hF
                clear hR
                go_enter Try.func10, Try.ntmps10
                go_wp2_with (first | (go_at_call 21; refine (ct _ bw).mono ?_; rintro e r1 ⟨rfl, b1⟩; obtain ⟨p0, p1, p2, p3, p4, p5, p6, p7, p8, p9⟩ := K _ b1) | (go_at_call 22; refine (cb _).mono ?_; rintro e r2 ⟨rfl, hw2⟩; obtain rfl := hw2.symm))
                go_ret
                exact ⟨rfl, below_trans bw b1⟩
              · rw [Bool.true_and] at hR
                cases FW
                · have hF : R = false := by rw [← hR, Bool.false_and]
                  subst hF
                  clear hR
                  go_enter Try.func10, Try.ntmps10
                  go_wp2_with (first | (go_at_call 21; refine (ct _ bw).mono ?_; rintro e r1 ⟨rfl, b1⟩; obtain ⟨p0, p1, p2, p3, p4, p5, p6, p7, p8, p9⟩ := K _ b1) | (go_at_call 22; refine (cb _).mono ?_; rintro e r2 ⟨rfl, hw2⟩; obtain rfl := hw2.symm) | (go_at_call 23; refine (cw _ (below_trans bw b1)).mono ?_; rintro e r3 ⟨rfl, b3⟩; have b13 := below_trans b1 b3; obtain ⟨s0, s1, s2, s3, s4, s5, s6, s7, s8, s9⟩ := K _ b13))
                  go_ret
                  exact ⟨rfl, below_trans bw b13⟩
                · rw [Bool.true_and] at hR
                  cases FC
                  · have hF : R = false := by rw [← hR, Bool.false_and]
                    subst hF
                    clear hR
                    go_enter Try.func10, Try.ntmps10
                    go_wp2_with (first | (go_at_call 21; refine (ct _ bw).mono ?_; rintro e r1 ⟨rfl, b1⟩; obtain ⟨p0, p1, p2, p3, p4, p5, p6, p7, p8, p9⟩ := K _ b1) | (go_at_call 22; refine (cb _).mono ?_; rintro e r2 ⟨rfl, hw2⟩; obtain rfl := hw2.symm) | (go_at_call 23; refine (cw _ (below_trans bw b1)).mono ?_; rintro e r3 ⟨rfl, b3⟩; have b13 := below_trans b1 b3; obtain ⟨s0, s1, s2, s3, s4, s5, s6, s7, s8, s9⟩ := K _ b13) | (go_at_call 24; refine (cc _ (below_trans bw b13)).mono ?_; rintro e r4 ⟨rfl, b4⟩; have b14 := below_trans b13 b4; obtain ⟨t0, t1, t2, t3, t4, t5, t6, t7, t8, t9⟩ := K _ b14))
                    go_ret
                    exact ⟨rfl, below_trans bw b14⟩
                  · rw [Bool.true_and] at hR
                    cases FI
                    · have hF : R = false := by rw [← hR, Bool.false_and]
                      subst hF
                      clear hR
                      go_enter Try.func10, Try.ntmps10
                      go_wp2_with (first | (go_at_call 21; refine (ct _ bw).mono ?_; rintro e r1 ⟨rfl, b1⟩; obtain ⟨p0, p1, p2, p3, p4, p5, p6, p7, p8, p9⟩ := K _ b1) | (go_at_call 22; refine (cb _).mono ?_; rintro e r2 ⟨rfl, hw2⟩; obtain rfl := hw2.symm) | (go_at_call 23; refine (cw _ (below_trans bw b1)).mono ?_; rintro e r3 ⟨rfl, b3⟩; have b13 := below_trans b1 b3; obtain ⟨s0, s1, s2, s3, s4, s5, s6, s7, s8, s9⟩ := K _ b13) | (go_at_call 24; refine (cc _ (below_trans bw b13)).mono ?_; rintro e r4 ⟨rfl, b4⟩; have b14 := below_trans b13 b4; obtain ⟨t0, t1, t2, t3, t4, t5, t6, t7, t8, t9⟩ := K _ b14) | (go_at_call 25; refine (ci _ (below_trans bw b14)).mono ?_; rintro e r5 ⟨rfl, b5⟩; have b15 := below_trans b14 b5; obtain ⟨u0, u1, u2, u3, u4, u5, u6, u7, u8, u9⟩ := K _ b15))
                      go_ret
                      exact ⟨rfl, below_trans bw b15⟩
                    · rw [Bool.true_and] at hR
                      subst hR
                      go_enter Try.func10, Try.ntmps10
                      go_wp2_with (first | (go_at_call 21; refine (ct _ bw).mono ?_; rintro e r1 ⟨rfl, b1⟩; obtain ⟨p0, p1, p2, p3, p4, p5, p6, p7, p8, p9⟩ := K _ b1) | (go_at_call 22; refine (cb _).mono ?_; rintro e r2 ⟨rfl, hw2⟩; obtain rfl := hw2.symm) | (go_at_call 23; refine (cw _ (below_trans bw b1)).mono ?_; rintro e r3 ⟨rfl, b3⟩; have b13 := below_trans b1 b3; obtain ⟨s0, s1, s2, s3, s4, s5, s6, s7, s8, s9⟩ := K _ b13) | (go_at_call 24; refine (cc _ (below_trans bw b13)).mono ?_; rintro e r4 ⟨rfl, b4⟩; have b14 := below_trans b13 b4; obtain ⟨t0, t1, t2, t3, t4, t5, t6, t7, t8, t9⟩ := K _ b14) | (go_at_call 25; refine (ci _ (below_trans bw b14)).mono ?_; rintro e r5 ⟨rfl, b5⟩; have b15 := below_trans b14 b5; obtain ⟨u0, u1, u2, u3, u4, u5, u6, u7, u8, u9⟩ := K _ b15) | (go_at_call 26; refine (ca _ (below_trans bw b15)).mono ?_; rintro e r6 ⟨rfl, hw6⟩; obtain rfl := hw6.symm))
                      go_ret
                      exact ⟨rfl, below_trans bw b15⟩

end Go.Proofs.Ytfljcfpcokimcab
