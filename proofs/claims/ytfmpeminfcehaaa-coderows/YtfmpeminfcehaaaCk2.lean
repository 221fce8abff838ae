/-
  Formed of the landed package code.
-/
import Derived.Test.YtfmpeminfcehaaaCk1
namespace Go.Proofs.Ytfmpeminfcehaaa
open Go.ChangeShapes Go.WideShapes Go.ChangeAt Go.RowKit
set_option linter.unusedVariables false
set_option linter.unusedSimpArgs false

theorem box2 (w : World) (z0 z1 a0 a1 : Value) (T : TypeId) : Stands (((w.alloc (.cells #[z0, z1] T)).setCell ⟨w.heap.size, 0, none⟩ a0).setCell ⟨w.heap.size, 1, none⟩ a1) w.heap.size #[a0, a1] T ∧ Below w.heap.size w (((w.alloc (.cells #[z0, z1] T)).setCell ⟨w.heap.size, 0, none⟩ a0).setCell ⟨w.heap.size, 1, none⟩ a1) := by
  have h0 := ((stands_new w #[z0, z1] T).set 0 a0).set 1 a1
  exact ⟨by simpa only [List.setIfInBounds_toArray, List.set_cons_zero, List.set_cons_succ] using h0, below_set (below_set (box_below w _) _ _ _ (Nat.le_refl _)) _ _ _ (Nat.le_refl _)⟩
theorem isK_or (c : List Opd) : isK c [3, 4] = okOr c := by
  funext n
  unfold isK okOr hasK
  by_cases h3 : kndF c n = 3
  · simp [h3]
  · by_cases h4 : kndF c n = 4
    · simp [h4]
    · simp [h3, h4]
theorem isK_ou (c : List Opd) (k : Int) : isK c [k] = okOu c k := by
  funext n
  unfold isK okOu hasK
  by_cases h3 : kndF c n = k
  · simp [h3]
  · simp [h3]
theorem isK_lo (c : List Opd) (n : Int) : isK c [5, 6] n = decide (kndF c n = 5 ∨ kndF c n = 6) := by
  unfold isK hasK
  by_cases h3 : kndF c n = 5
  · simp [h3]
  · by_cases h4 : kndF c n = 6
    · simp [h4]
    · simp [h3, h4]
theorem frmK_no {d : Dft} (h : ¬ (d.code.length ≤ 256 ∧ d.origs.all (okOr d.code) = true ∧ d.dests.all (okDe d.code) = true ∧ d.loops.all (okLo d.code) = true ∧ d.cases.all (okCa d.code) = true)) : frmD d = false := by
  rw [Bool.eq_false_iff]
  intro g
  unfold frmD at g
  simp only [Bool.and_eq_true, decide_eq_true_eq] at g
  exact h g
theorem nall {b : Bool} (h : b = false) : ¬ b = true := by rw [h]; simp

set_option maxHeartbeats 8000000 in
set_option maxRecDepth 100000 in
theorem w_p10formed (v : Dv) (d : Dft) (w : World) (h : RdD w v d) :
    Calls Try.prog 12 #[.agg v.cs] w fun e w' => e = .returned (.bool (frmD d)) ∧ Below w.heap.size w w' := by
  have bw := box_below w (.cells v.cs 26)
  have st := stands_new w v.cs 26
  have l0 := slr_len h.code uO (P := Try.prog)
  have l2 := rd_len h.dests uJ (P := Try.prog)
  have l3 := slr_len h.loops uK (P := Try.prog)
  have l4 := slr_len h.cases uK (P := Try.prog)
  have m2 := rd_maxJ h.dests
  have m3 := slr_max h.loops
  have m4 := slr_max h.cases
  unfold maxLen at m2 m3 m4
  have no := fun g => hid (frmK_no (d := d) g)
  have H := hid h
  have ca := fun W (g : Below w.heap.size w W) (vl : Value) (l : List Int) (ks : List Int) (h0 : hasK ks 0 = false) (hp : 0 < ks.length) (hm : ks.length ≤ maxLen) (hl : Rd .i64 W vl l) => w_p10are v.vc vl _ d.code l ks _ ((h.code.below g).below (box_below W (.cells (ks.map (Value.int .i64)).toArray 3))) (hl.below (box_below W _)) (rd_lit W ks 3 hp hm) h0
  have ci := fun W (g : Below w.heap.size w W) (n : Int) (ks : List Int) (h0 : hasK ks 0 = false) (hp : 0 < ks.length) (hm : ks.length ≤ maxLen) => w_p10is v.vc _ d.code ks n _ ((h.code.below g).below (box_below W (.cells (ks.map (Value.int .i64)).toArray 3))) (rd_lit W ks 3 hp hm) h0
  have HO := hid h.origs
  clear h
  obtain ⟨x0, x1, x2, x3, x4⟩ := v
  simp only [Dv.cs] at st bw l0 l2 l3 l4 ca ci ⊢
  have CA := hid ca
  have CI := hid ci
  have NO := hid no
  clear ca ci no
  go_enter Try.func12, Try.ntmps12
  go_upto_region 1 with fail
  generalize w.alloc (.cells #[x0, x1, x2, x3, x4] 26) = W0 at st bw ⊢
  have f0 := st.cell 0 _ rfl
  have f1 := st.cell 1 _ rfl
  by_cases h256 : (256 : Int) < d.code.length
  · have q0 : decide ((256 : Int) < d.code.length) = true := decide_eq_true h256
    have hf := NO.out (by omega)
    go_wp2_with fail
    go_ret
    exact ⟨ret_b hf.out.symm, bw⟩
  · have q0 : decide ((256 : Int) < d.code.length) = false := decide_eq_false h256
    have c1 := CA.out W0 bw x1 d.origs [3, 4] rfl (by decide) (by decide) (HO.out.below bw)
    rw [isK_or] at c1
    cases hO : d.origs.all (okOr d.code) with
    | false =>
      have hf := NO.out (fun q => nall hO q.2.1)
      rw [hO] at c1
      clear hO
      have b1 := below_trans bw (box_below W0 (.cells #[.int .i64 3, .int .i64 4] 3))
      go_wp2_with (go_at_call 27; refine c1.mono ?_; rintro e w2 ⟨rfl, hw⟩; obtain rfl := hw.symm; clear c1)
      go_ret
      exact ⟨ret_b hf.out.symm, b1⟩
    | true =>
      rw [hO] at c1
      have D1 := hid hO
      clear hO
      go_upto_region 3 with (go_at_call 27; refine c1.mono ?_; rintro e w2 ⟨rfl, hw⟩; obtain rfl := hw.symm; clear c1)
      have g1 := box_below W0 (.cells #[.int .i64 3, .int .i64 4] 3)
      generalize W0.alloc (.cells #[.int .i64 3, .int .i64 4] 3) = W1 at g1 ⊢
      have f2 := (st.below g1).cell 2 _ rfl
      clear f0 f1
      go_wp2_with fail
      go_loopw [25] (fun I wx => ∃ k : Nat, (k : Int) ≤ d.dests.length ∧ I = .int .i64 k ∧ Hid ((d.dests.take k).all (okDe d.code) = true) ∧ Below W0.heap.size W0 wx) (fun I _ => (d.dests.length - intOf I).toNat)
      case atStart => exact ⟨0, by omega, rfl, hid rfl, g1⟩
      case round =>
        obtain ⟨k, hk, rfl, ht, hg⟩ := hrel
        by_cases hlt : (k : Int) < d.dests.length
        · have hkl : k < d.dests.length := by omega
          have f0b := (st.below hg).cell 0 _ rfl
          obtain ⟨a1, i1, c1⟩ := rd_idx (H.out.dests.below (below_trans bw hg)) uJ zJ k (by omega) hlt
          simp only [Int.toNat_natCast] at c1
          rw [show d.dests.getD k 0 = d.dests[k] by rw [List.getD_eq_getElem?_getD, List.getElem?_eq_getElem hkl]; rfl] at c1
          have hok : okDe d.code d.dests[k] = decide (0 ≤ d.dests[k] ∧ d.dests[k] ≤ d.code.length) := rfl
          have bad := fun g => NO.out (fun q => nall (allK_no (p := okDe d.code) hkl g) q.2.2.1)
          have good := fun g => hid (allK_step (p := okDe d.code) hkl ht.out g)
          obtain ⟨X, hX⟩ : ∃ X, d.dests[k] = X := ⟨_, rfl⟩
          rw [hX] at c1 hok bad good
          clear hX
          by_cases h0 : X < 0
          · have q0 : decide (X < 0) = true := decide_eq_true h0
            have hf := bad (by rw [hok, decide_eq_false_iff_not]; omega)
            clear good bad hok h0 ht
            go_wp2_with fail
            go_ret
            exact ⟨ret_b hf.out.symm, below_trans bw (hg)⟩
          · have q0 : decide (X < 0) = false := decide_eq_false h0
            by_cases h1 : (d.code.length : Int) < X
            · have q1 : decide ((d.code.length : Int) < X) = true := decide_eq_true h1
              have hf := bad (by rw [hok, decide_eq_false_iff_not]; omega)
              clear good bad hok h0 h1 ht
              go_wp2_with fail
              go_ret
              exact ⟨ret_b hf.out.symm, below_trans bw (hg)⟩
            · have q1 : decide ((d.code.length : Int) < X) = false := decide_eq_false h1
              have ht2 := good (by rw [hok, decide_eq_true_eq]; omega)
              clear good bad hok h0 h1 ht
              go_wp2_with fail
              go_roundw
              case rel => exact ⟨k + 1, by omega, by go_num, ht2, hg⟩
              case measure => simp [intOf]; omega
        · have D2 := hid (allK_done (p := okDe d.code) (by omega) ht.out)
          obtain ⟨w2, hw2⟩ : ∃ x, x = wr := ⟨_, rfl⟩
          subst hw2
          have g2 := hg
          clear ht hg
          have f3 := (st.below g2).cell 3 _ rfl
          go_wp2_with fail
          clear hlt hk
          go_loopw [42] (fun I wx => ∃ k : Nat, (k : Int) ≤ d.loops.length ∧ I = .int .i64 k ∧ Hid ((d.loops.take k).all (okLo d.code) = true) ∧ Below W0.heap.size W0 wx) (fun I _ => (d.loops.length - intOf I).toNat)
          case atStart => exact ⟨0, by omega, rfl, hid rfl, g2⟩
          case round =>
            obtain ⟨k, hk, rfl, ht, hg⟩ := hrel
            by_cases hlt : (k : Int) < d.loops.length
            · have hkl : k < d.loops.length := by omega
              obtain ⟨b1, o1, vo, i1, c1, c2, ro⟩ := opn_at (RdN.below H.out.loops (below_trans bw hg)) k hkl
              have bad := fun g => NO.out (fun q => nall (allK_no (p := okLo d.code) hkl g) q.2.2.2.1)
              have good := fun g => hid (allK_step (p := okLo d.code) hkl ht.out g)
              obtain ⟨oa, oq, rfl⟩ := rd_slice ro
              have RO := hid ro
              clear ro
              go_upto_region 12 with fail
              have sb := stands_new wr #[.int .i64 d.loops[k].1, .slice oa d.loops[k].2.length oq] 58
              have bb := box_below wr (.cells #[.int .i64 d.loops[k].1, .slice oa d.loops[k].2.length oq] 58)
              have ro := RO.out.below bb
              generalize wr.alloc (.cells #[.int .i64 d.loops[k].1, .slice oa d.loops[k].2.length oq] 58) = W2 at sb bb ro ⊢
              have hg2 := below_trans hg bb
              have HB := below_trans bw hg2
              have p0 := (st.below hg2).cell 0 _ rfl
              have s0 := sb.cell 0 _ rfl
              have s1 := sb.cell 1 _ rfl
              have hok : okLo d.code d.loops[k] = (decide (kndF d.code d.loops[k].1 = 5 ∨ kndF d.code d.loops[k].1 = 6) && d.loops[k].2.all (okOu d.code 9)) := rfl
              rw [← isK_lo] at hok
              have k1 := CI.out W2 HB d.loops[k].1 [5, 6] rfl (by decide) (by decide)
              have y1 := box_below W2 (.cells #[.int .i64 5, .int .i64 6] 3)
              have k2 := CA.out (W2.alloc (.cells #[.int .i64 5, .int .i64 6] 3)) (below_trans HB y1) _ d.loops[k].2 [9] rfl (by decide) (by decide) (ro.below y1)
              rw [isK_ou] at k2
              obtain ⟨X, hX⟩ : ∃ X, d.loops[k].1 = X := ⟨_, rfl⟩
              obtain ⟨n5, hn5⟩ : ∃ X, d.loops[k].2.length = X := ⟨_, rfl⟩
              rw [hX] at s0 k1 hok c1
              rw [hn5] at s1 k2 c2
              (try simp only [hX, hn5])
              clear hX hn5 ro RO c1 c2
              have y2 := below_trans y1 (box_below (W2.alloc (.cells #[.int .i64 5, .int .i64 6] 3)) (.cells #[.int .i64 9] 3))
              have p1 := below_cell y1 p0
              have t1 := below_cell y1 s1
              cases hA : isK d.code [5, 6] X with
              | false =>
                have hf := bad (by rw [hok, hA]; rfl)
                rw [hA] at k1
                clear bad good hok hA k2 ht
                go_wp2_with (go_at_call 28; refine k1.mono ?_; rintro e w3 ⟨rfl, hw⟩; obtain rfl := hw.symm; clear k1)
                go_ret
                exact ⟨ret_b hf.out.symm, below_trans bw (below_trans hg2 y1)⟩
              | true =>
                rw [hA] at k1
                cases hE : d.loops[k].2.all (okOu d.code 9) with
                | false =>
                  have hf := bad (by rw [hok, hA, hE]; rfl)
                  rw [hE] at k2
                  clear bad good hok hA hE ht
                  go_wp2_with (first | (go_at_call 28; refine k1.mono ?_; rintro e w3 ⟨rfl, hw⟩; (replace hw := hw.trans (show _ = W2.alloc (.cells #[.int .i64 5, .int .i64 6] 3) from rfl)); rw [← hw] at k2 y2 p1 t1; clear hw k1 y1) | (go_at_call 27; refine k2.mono ?_; rintro e w5 ⟨rfl, hw⟩; obtain rfl := hw.symm; clear k2))
                  go_ret
                  exact ⟨ret_b hf.out.symm, below_trans bw (below_trans hg2 y2)⟩
                | true =>
                  have ht2 := good (by rw [hok, hA, hE]; rfl)
                  rw [hE] at k2
                  clear bad good hok hA hE ht
                  go_wp2_with (first | (go_at_call 28; refine k1.mono ?_; rintro e w3 ⟨rfl, hw⟩; (replace hw := hw.trans (show _ = W2.alloc (.cells #[.int .i64 5, .int .i64 6] 3) from rfl)); rw [← hw] at k2 y2 p1 t1; clear hw k1 y1) | (go_at_call 27; refine k2.mono ?_; rintro e w5 ⟨rfl, hw⟩; obtain rfl := hw.symm; clear k2))
                  go_roundw
                  case rel => exact ⟨k + 1, by omega, by go_num, ht2, below_trans hg2 y2⟩
                  case measure => simp [intOf]; omega
            · have D3 := hid (allK_done (p := okLo d.code) (by omega) ht.out)
              obtain ⟨w3, hw3⟩ : ∃ x, x = wr := ⟨_, rfl⟩
              subst hw3
              have g3 := hg
              clear ht hg
              have f4 := (st.below g3).cell 4 _ rfl
              go_wp2_with fail
              clear hlt hk
              go_loopw [66] (fun I wx => ∃ k : Nat, (k : Int) ≤ d.cases.length ∧ I = .int .i64 k ∧ Hid ((d.cases.take k).all (okCa d.code) = true) ∧ Below W0.heap.size W0 wx) (fun I _ => (d.cases.length - intOf I).toNat)
              case atStart => exact ⟨0, by omega, rfl, hid rfl, g3⟩
              case round =>
                obtain ⟨k, hk, rfl, ht, hg⟩ := hrel
                by_cases hlt : (k : Int) < d.cases.length
                · have hkl : k < d.cases.length := by omega
                  obtain ⟨b1, o1, vo, i1, c1, c2, ro⟩ := opn_at (RdN.below H.out.cases (below_trans bw hg)) k hkl
                  have bad := fun g => NO.out (fun q => nall (allK_no (p := okCa d.code) hkl g) q.2.2.2.2)
                  have good := fun g => hid (allK_step (p := okCa d.code) hkl ht.out g)
                  obtain ⟨oa, oq, rfl⟩ := rd_slice ro
                  have RO := hid ro
                  clear ro
                  go_upto_region 18 with fail
                  have sb := stands_new wr #[.int .i64 d.cases[k].1, .slice oa d.cases[k].2.length oq] 58
                  have bb := box_below wr (.cells #[.int .i64 d.cases[k].1, .slice oa d.cases[k].2.length oq] 58)
                  have ro := RO.out.below bb
                  generalize wr.alloc (.cells #[.int .i64 d.cases[k].1, .slice oa d.cases[k].2.length oq] 58) = W2 at sb bb ro ⊢
                  have hg2 := below_trans hg bb
                  have HB := below_trans bw hg2
                  have p0 := (st.below hg2).cell 0 _ rfl
                  have s0 := sb.cell 0 _ rfl
                  have s1 := sb.cell 1 _ rfl
                  have hok : okCa d.code d.cases[k] = (decide (d.cases[k].1 = -1 ∨ kndF d.code d.cases[k].1 = 10) && d.cases[k].2.all (okOu d.code 3)) := rfl
                  have hou : isK d.code [10] d.cases[k].1 = decide (kndF d.code d.cases[k].1 = 10) := by rw [isK_ou]; rfl
                  have k1 := CI.out W2 HB d.cases[k].1 [10] rfl (by decide) (by decide)
                  have y1 := box_below W2 (.cells #[.int .i64 10] 3)
                  have k2 := CA.out (W2.alloc (.cells #[.int .i64 10] 3)) (below_trans HB y1) _ d.cases[k].2 [3] rfl (by decide) (by decide) (ro.below y1)
                  have k3 := CA.out W2 HB _ d.cases[k].2 [3] rfl (by decide) (by decide) ro
                  rw [isK_ou] at k2 k3
                  obtain ⟨X, hX⟩ : ∃ X, d.cases[k].1 = X := ⟨_, rfl⟩
                  obtain ⟨n5, hn5⟩ : ∃ X, d.cases[k].2.length = X := ⟨_, rfl⟩
                  rw [hX] at s0 k1 hok c1 hou
                  rw [hn5] at s1 k2 k3 c2
                  (try simp only [hX, hn5])
                  clear hX hn5 ro RO c1 c2
                  have y2 := below_trans y1 (box_below (W2.alloc (.cells #[.int .i64 10] 3)) (.cells #[.int .i64 3] 3))
                  have y3 := box_below W2 (.cells #[.int .i64 3] 3)
                  have p1 := below_cell y1 p0
                  have t1 := below_cell y1 s1
                  by_cases h1 : X = -1
                  · have q1 : (X != -1) = false := by simp [h1]
                    clear k1 k2 y1 y2 p1 t1
                    cases hE : d.cases[k].2.all (okOu d.code 3) with
                    | false =>
                      have hf := bad (by rw [hok, hE]; simp)
                      rw [hE] at k3
                      clear bad good hok hE ht h1 hou
                      go_wp2_with (go_at_call 27; refine k3.mono ?_; rintro e w4 ⟨rfl, hw⟩; obtain rfl := hw.symm; clear k3)
                      go_ret
                      exact ⟨ret_b hf.out.symm, below_trans bw (below_trans hg2 y3)⟩
                    | true =>
                      have ht2 := good (by rw [hok, hE]; simp [h1])
                      rw [hE] at k3
                      clear bad good hok hE ht h1 hou
                      go_wp2_with (go_at_call 27; refine k3.mono ?_; rintro e w4 ⟨rfl, hw⟩; obtain rfl := hw.symm; clear k3)
                      go_roundw
                      case rel => exact ⟨k + 1, by omega, by go_num, ht2, below_trans hg2 y3⟩
                      case measure => simp [intOf]; omega
                  · have q1 : (X != -1) = true := by simp [h1]
                    clear k3 y3
                    cases hA : isK d.code [10] X with
                    | false =>
                      have hf := bad (by rw [hA] at hou; have h2 := of_decide_eq_false hou.symm; rw [hok]; simp [h1, h2])
                      rw [hA] at k1
                      clear bad good hok hA k2 ht h1 hou
                      go_wp2_with (go_at_call 28; refine k1.mono ?_; rintro e w4 ⟨rfl, hw⟩; obtain rfl := hw.symm; clear k1)
                      go_ret
                      exact ⟨ret_b hf.out.symm, below_trans bw (below_trans hg2 y1)⟩
                    | true =>
                      rw [hA] at k1
                      have hX2 : kndF d.code X = 10 := by rw [hA] at hou; exact of_decide_eq_true hou.symm
                      cases hE : d.cases[k].2.all (okOu d.code 3) with
                      | false =>
                        have hf := bad (by rw [hok, hE]; simp)
                        rw [hE] at k2
                        clear bad good hok hA hE ht h1 hou hX2
                        go_wp2_with (first | (go_at_call 28; refine k1.mono ?_; rintro e w4 ⟨rfl, hw⟩; (replace hw := hw.trans (show _ = W2.alloc (.cells #[.int .i64 10] 3) from rfl)); rw [← hw] at k2 y2 p1 t1; clear hw k1 y1) | (go_at_call 27; refine k2.mono ?_; rintro e w5 ⟨rfl, hw⟩; obtain rfl := hw.symm; clear k2))
                        go_ret
                        exact ⟨ret_b hf.out.symm, below_trans bw (below_trans hg2 y2)⟩
                      | true =>
                        have ht2 := good (by rw [hok, hE]; simp [hX2])
                        rw [hE] at k2
                        clear bad good hok hA hE ht h1 hou hX2
                        go_wp2_with (first | (go_at_call 28; refine k1.mono ?_; rintro e w4 ⟨rfl, hw⟩; (replace hw := hw.trans (show _ = W2.alloc (.cells #[.int .i64 10] 3) from rfl)); rw [← hw] at k2 y2 p1 t1; clear hw k1 y1) | (go_at_call 27; refine k2.mono ?_; rintro e w5 ⟨rfl, hw⟩; obtain rfl := hw.symm; clear k2))
                        go_roundw
                        case rel => exact ⟨k + 1, by omega, by go_num, ht2, below_trans hg2 y2⟩
                        case measure => simp [intOf]; omega
                · have hf : Hid (frmD d = true) := by
                    show _ = _
                    unfold frmD
                    rw [decide_eq_true (by omega : d.code.length ≤ 256), D1.out, D2.out, D3.out, allK_done (p := okCa d.code) (by omega) ht.out]
                    rfl
                  clear ht
                  go_wp2_with fail
                  go_ret
                  exact ⟨ret_b hf.out.symm, below_trans bw (hg)⟩
end Go.Proofs.Ytfmpeminfcehaaa
