/-
  Texts of one proof, laid one behind the other: Rd4.
-/
import Derived.Test.YtfljcfpcokimcaaB16
namespace Go.Proofs.Ytfljcfpcokimcaa
open Go.ChangeShapes Go.WideShapes Go.ChangeAt Go.RowKit
set_option linter.unusedVariables false
set_option linter.unusedSimpArgs false

/-
  SameBut and Same of the document's answer: machines held against one another.
-/
/-- the texts of a machine are bytes -/
structure byM (m : Mc) : Prop where
  mem : bytesL m.mem
  tree : ∀ x ∈ m.tree, bytN x
  words : ∀ x ∈ m.words, bytesL x.1
  insts : ∀ x ∈ m.insts, bytesL x.2.2.1
  out : bytesL m.out
def eqB (a b : Mc) : Bool := decide (a.stack = b.stack) && (decide (a.mem = b.mem) && (decide (a.base = b.base) && (eqT a.tree b.tree && (decide (a.node = b.node) && (decide (a.self = b.self) && (decide (a.out = b.out) && (decide (a.words = b.words) && decide (a.insts = b.insts))))))))
def eqM (a b : Mc) : Bool := decide (a.codes = b.codes) && eqB a b
theorem eqB_no {a b : Mc} (h : ¬ (a.stack = b.stack ∧ a.mem = b.mem ∧ a.base = b.base ∧ a.tree = b.tree ∧ a.node = b.node ∧ a.self = b.self ∧ a.out = b.out ∧ a.words = b.words ∧ a.insts = b.insts)) : eqB a b = false := by
  rw [Bool.eq_false_iff]
  intro g
  unfold eqB at g
  simp only [Bool.and_eq_true, decide_eq_true_eq] at g
  obtain ⟨g1, g2, g3, g4, g5, g6, g7, g8, g9⟩ := g
  exact h ⟨g1, g2, g3, @of_decide_eq_true _ (decT _ _) g4, g5, g6, g7, g8, g9⟩
theorem eqB_yes {a b : Mc} (h1 : a.stack = b.stack) (h2 : a.mem = b.mem) (h3 : a.base = b.base) (h4 : a.tree = b.tree) (h5 : a.node = b.node) (h6 : a.self = b.self) (h7 : a.out = b.out) (h8 : a.words = b.words) (h9 : a.insts = b.insts) : eqB a b = true := by
  unfold eqB
  rw [eqT_of h4]
  simp [h1, h2, h3, h5, h6, h7, h8, h9]
theorem eqB_refl (a : Mc) : eqB a a = true := eqB_yes rfl rfl rfl rfl rfl rfl rfl rfl rfl
theorem eqM_refl (a : Mc) : eqM a a = true := by unfold eqM; rw [eqB_refl]; simp
/-- a machine's cells in a box -/
theorem mch_cells {q : World} {b : Nat} {v : Mv} {m : Mc} {o : ByteArray} {T : TypeId} (h : Stands q b (v.cs m o) T) :
    q.cell? ⟨b, 0, none⟩ = some v.vs ∧ q.cell? ⟨b, 1, none⟩ = some v.vm ∧ q.cell? ⟨b, 2, none⟩ = some v.vw ∧ q.cell? ⟨b, 3, none⟩ = some v.vc ∧ q.cell? ⟨b, 4, none⟩ = some (.int .u32 m.base) ∧ q.cell? ⟨b, 5, none⟩ = some v.vt ∧ q.cell? ⟨b, 6, none⟩ = some (.int .i64 m.node) ∧ q.cell? ⟨b, 7, none⟩ = some v.vi ∧ q.cell? ⟨b, 8, none⟩ = some (.int .i64 m.self) ∧ q.cell? ⟨b, 9, none⟩ = some (.string o) :=
  ⟨h.cell 0 _ rfl, h.cell 1 _ rfl, h.cell 2 _ rfl, h.cell 3 _ rfl, h.cell 4 _ rfl, h.cell 5 _ rfl, h.cell 6 _ rfl, h.cell 7 _ rfl, h.cell 8 _ rfl, h.cell 9 _ rfl⟩

set_option maxHeartbeats 8000000 in
set_option maxRecDepth 100000 in
theorem w_r9but (a b : Mc) (va vb : Mv) (oa ob : ByteArray) (w : World) (ha : RdM w va a oa) (hb : RdM w vb b ob) (ya : byM a) (yb : byM b) :
    Calls Try.prog 33 #[.agg (va.cs a oa), .agg (vb.cs b ob)] w fun e w' => e = .returned (.bool (eqB a b)) ∧ Below w.heap.size w w' := by
  have hN := str_eq8 oa ob _ _ ya.out yb.out ha.out hb.out
  have no := fun h => hid (eqB_no (a := a) (b := b) h)
  have yes := @eqB_yes a b
  obtain ⟨R, hR⟩ : ∃ R, eqB a b = R := ⟨_, rfl⟩
  rw [hR]
  simp only [hR] at yes no
  clear hR
  obtain ⟨s1, s2, bw⟩ := two_boxes w (va.cs a oa) (vb.cs b ob) 32
  obtain ⟨f0, f1, f2, f3, f4, f5, f6, f7, f8, f9⟩ := mch_cells s1
  obtain ⟨g0, g1, g2, g3, g4, g5, g6, g7, g8, g9⟩ := mch_cells s2
  have cs := w_r3sameQ _ _ _ _ _ (ha.stack.below bw) (hb.stack.below bw)
  have cm := fun W (g : Below w.heap.size w W) => w_rsame _ _ _ _ W (ha.mem.below g) (hb.mem.below g) ya.mem yb.mem
  have ct := fun W (g : Below w.heap.size w W) => w_r8same _ _ _ _ W (ha.tree.below g) (hb.tree.below g) ya.tree yb.tree
  have lw1 := slr_len ha.words uW (P := Try.prog)
  have lw2 := slr_len hb.words uW (P := Try.prog)
  have li1 := slr_len ha.insts uI (P := Try.prog)
  have li2 := slr_len hb.insts uI (P := Try.prog)
  have mw1 := slr_max ha.words
  have mi1 := slr_max ha.insts
  unfold maxLen at mw1 mi1
  obtain ⟨B1, hB1⟩ : ∃ X, a.base = X := ⟨_, rfl⟩
  obtain ⟨B2, hB2⟩ : ∃ X, b.base = X := ⟨_, rfl⟩
  obtain ⟨N1, hN1⟩ : ∃ X, a.node = X := ⟨_, rfl⟩
  obtain ⟨N2, hN2⟩ : ∃ X, b.node = X := ⟨_, rfl⟩
  obtain ⟨S1, hS1⟩ : ∃ X, a.self = X := ⟨_, rfl⟩
  obtain ⟨S2, hS2⟩ : ∃ X, b.self = X := ⟨_, rfl⟩
  obtain ⟨UA, hUA⟩ : ∃ X, va.cs a oa = X := ⟨_, rfl⟩
  obtain ⟨UB, hUB⟩ : ∃ X, vb.cs b ob = X := ⟨_, rfl⟩
  simp only [hB1, hB2, hN1, hN2, hS1, hS2, hUA, hUB] at f4 g4 f6 g6 f8 g8 yes no s1 s2 bw cs f0 f1 f2 f3 f5 f7 f9 g0 g1 g2 g3 g5 g7 g9 ⊢
  have m1 : Stands ((w.alloc (.cells UA 32)).alloc (.cells UB 32)) w.heap.size (va.cs a oa) 32 := by rw [hUA]; exact s1
  have m2 : Stands ((w.alloc (.cells UA 32)).alloc (.cells UB 32)) (w.heap.size + 1) (vb.cs b ob) 32 := by rw [hUB]; exact s2
  have K1 := fun q (g : Below ((w.alloc (.cells UA 32)).alloc (.cells UB 32)).heap.size ((w.alloc (.cells UA 32)).alloc (.cells UB 32)) q) => mch_cells (m1.below g)
  have K2 := fun q (g : Below ((w.alloc (.cells UA 32)).alloc (.cells UB 32)).heap.size ((w.alloc (.cells UA 32)).alloc (.cells UB 32)) q) => mch_cells (m2.below g)
  simp only [hB1, hB2, hN1, hN2, hS1, hS2] at K1 K2
  clear hB1 hB2 hN1 hN2 hS1 hS2 hUA hUB m1 m2 s1 s2
  by_cases hc_stack : a.stack = b.stack
  · have hc := hc_stack
    rw [decide_eq_true hc] at cs
    clear hc
    by_cases hc_mem : a.mem = b.mem
    · have hc := hc_mem
      simp only [decide_eq_true hc] at cm
      clear hc
      by_cases hc_base : B1 = B2
      · have hc := hc_base
        have q_base : (B1 != B2) = false := by simp [hc]
        clear hc
        by_cases hc_tree : a.tree = b.tree
        · have hc := hc_tree
          simp only [eqT_of hc] at ct
          clear hc
          by_cases hc_node : N1 = N2
          · have hc := hc_node
            have q_node : (N1 != N2) = false := by simp [hc]
            clear hc
            by_cases hc_self : S1 = S2
            · have hc := hc_self
              have q_self : (S1 != S2) = false := by simp [hc]
              clear hc
              by_cases hc_out : a.out = b.out
              · have hc := hc_out
                rw [decide_eq_true hc] at hN
                have q_out : (oa.toList != ob.toList) = false := by simp [bne, hN]
                clear hc
                by_cases hc_lw : a.words.length = b.words.length
                · have hc := hc_lw
                  have q_lw : ((a.words.length : Int) != (b.words.length : Int)) = false := by simp [hc]
                  clear hc
                  by_cases hc_li : a.insts.length = b.insts.length
                  · have hc := hc_li
                    have q_li : ((a.insts.length : Int) != (b.insts.length : Int)) = false := by simp [hc]
                    clear hc
                    go_enter Try.func33, Try.ntmps33
                    go_wp2_with (go_at_call 65; refine cs.mono ?_; rintro e r1 ⟨rfl, d1⟩; have e1 := dr_below d1; obtain ⟨x0_1, x1_1, x2_1, x3_1, x4_1, x5_1, x6_1, x7_1, x8_1, x9_1⟩ := K1 _ e1; obtain ⟨y0_1, y1_1, y2_1, y3_1, y4_1, y5_1, y6_1, y7_1, y8_1, y9_1⟩ := K2 _ e1)
                    go_wp2_with (go_at_call 66; refine (cm _ (below_trans bw e1)).mono ?_; rintro e rs ⟨rfl, hs⟩; subst rs)
                    go_wp2_with (go_at_call 67; refine (ct _ (below_trans bw e1)).mono ?_; rintro e r3 ⟨rfl, d3⟩; have e3 := below_trans e1 d3; obtain ⟨x0_3, x1_3, x2_3, x3_3, x4_3, x5_3, x6_3, x7_3, x8_3, x9_3⟩ := K1 _ e3; obtain ⟨y0_3, y1_3, y2_3, y3_3, y4_3, y5_3, y6_3, y7_3, y8_3, y9_3⟩ := K2 _ e3)
                    go_loopw [5] (fun I wx => ∃ k : Nat, (k : Int) ≤ a.words.length ∧ I = .int .i64 k ∧ Hid (a.words.take k = b.words.take k) ∧ Below r3.heap.size r3 wx) (fun I _ => (a.words.length - intOf I).toNat)
                    case atStart => exact ⟨0, by omega, rfl, hid (by simp), Below.refl _ _⟩
                    case round =>
                      obtain ⟨k, hk, rfl, ht, hg⟩ := hrel
                      have e4 := below_trans e3 hg
                      obtain ⟨x0_4, x1_4, x2_4, x3_4, x4_4, x5_4, x6_4, x7_4, x8_4, x9_4⟩ := K1 _ e4
                      obtain ⟨y0_4, y1_4, y2_4, y3_4, y4_4, y5_4, y6_4, y7_4, y8_4, y9_4⟩ := K2 _ e4
                      by_cases hlt : (k : Int) < a.words.length
                      · have hka : k < a.words.length := by omega
                        have hkb : k < b.words.length := by omega
                        obtain ⟨b1, o1, N1w, c1, r1w, p0, p1, p2, p3, p4, pn, pc⟩ := wrd_at (RdW.below ha.words (below_trans bw e4)) k hka
                        obtain ⟨b2, o2, N2w, c2, r2w, q0, q1, q2, q3, q4, qn, qc⟩ := wrd_at (RdW.below hb.words (below_trans bw e4)) k hkb
                        have cc := fun W (g : Below wr.heap.size wr W) => w_r9word a.words[k] b.words[k] N1w N2w c1 c2 W pn qn (RdO.below pc g) (RdO.below qc g) (ya.words _ (List.getElem_mem hka)) (yb.words _ (List.getElem_mem hkb))
                        obtain ⟨A1, ha1⟩ : ∃ X, a.words[k].2.1 = X := ⟨_, rfl⟩
                        obtain ⟨A2, ha2⟩ : ∃ X, a.words[k].2.2.1 = X := ⟨_, rfl⟩
                        obtain ⟨A3, ha3⟩ : ∃ X, a.words[k].2.2.2.1 = X := ⟨_, rfl⟩
                        obtain ⟨B1, hb1⟩ : ∃ X, b.words[k].2.1 = X := ⟨_, rfl⟩
                        obtain ⟨B2, hb2⟩ : ∃ X, b.words[k].2.2.1 = X := ⟨_, rfl⟩
                        obtain ⟨B3, hb3⟩ : ∃ X, b.words[k].2.2.2.1 = X := ⟨_, rfl⟩
                        rw [ha1] at p1
                        rw [ha2] at p2
                        rw [ha3] at p3
                        rw [hb1] at q1
                        rw [hb2] at q2
                        rw [hb3] at q3
                        simp only [ha1, ha2, ha3, hb1, hb2, hb3] at cc
                        clear pn qn pc qc
                        by_cases hxy : a.words[k] = b.words[k]
                        · have ht2 : Hid (a.words.take (k + 1) = b.words.take (k + 1)) := by
                            show _ = _
                            rw [List.take_succ_eq_append_getElem hka, List.take_succ_eq_append_getElem hkb, ht.out, hxy]
                          simp only [show eqW a.words[k] b.words[k] = true from decide_eq_true hxy] at cc
                          clear hxy ht
                          go_wp2_with fail
                          go_region_with (go_at_call 49; refine (cc _ (below_drewN (Below.refl _ _) 1)).mono ?_; rintro e qc ⟨rfl, bc⟩; have bt := below_trans (show Below r3.heap.size r3 wr.drew from below_drewN hg 1) bc)
                          all_goals (
                            go_wp2_with fail
                            go_roundw
                            case rel => exact ⟨k + 1, by omega, by go_num, ht2, by first | exact bt | exact below_drewN bt _⟩
                            case measure => simp [intOf]; omega)
                        · have hf := no (fun g => hxy (by simp only [g.2.2.2.2.2.2.2.1]))
                          simp only [show eqW a.words[k] b.words[k] = false from decide_eq_false hxy] at cc
                          clear hxy ht yes no
                          go_wp2_with fail
                          go_region_with (go_at_call 49; refine (cc _ (below_drewN (Below.refl _ _) 1)).mono ?_; rintro e qc ⟨rfl, bc⟩; have bt := below_trans (show Below r3.heap.size r3 wr.drew from below_drewN hg 1) bc)
                          all_goals (
                            go_wp2_with fail
                            go_ret
                            exact ⟨ret_b hf.out.symm, below_trans (below_trans bw e3) (by first | exact bt | exact below_drewN bt _)⟩)
                      · have hall_words : a.words = b.words := by
                          have := ht.out
                          rw [List.take_of_length_le (by omega), List.take_of_length_le (by omega)] at this
                          exact this
                        clear ht
                        obtain ⟨w4, hw4⟩ : ∃ q, Hid (wr = q) := ⟨wr, hid rfl⟩
                        rw [hw4.out] at e4
                        go_wp2_with fail
                        go_loopw [6] (fun I wx => ∃ k : Nat, (k : Int) ≤ a.insts.length ∧ I = .int .i64 k ∧ Hid (a.insts.take k = b.insts.take k) ∧ Below w4.heap.size w4 wx) (fun I _ => (a.insts.length - intOf I).toNat)
                        case atStart => exact ⟨0, by omega, rfl, hid (by simp), by rw [hw4.out]; exact Below.refl _ _⟩
                        case round =>
                          obtain ⟨k, hk, rfl, ht, hg⟩ := hrel
                          have e5 := below_trans e4 hg
                          obtain ⟨x0_5, x1_5, x2_5, x3_5, x4_5, x5_5, x6_5, x7_5, x8_5, x9_5⟩ := K1 _ e5
                          obtain ⟨y0_5, y1_5, y2_5, y3_5, y4_5, y5_5, y6_5, y7_5, y8_5, y9_5⟩ := K2 _ e5
                          by_cases hlt : (k : Int) < a.insts.length
                          · have hka : k < a.insts.length := by omega
                            have hkb : k < b.insts.length := by omega
                            obtain ⟨b1, o1, N1w, c1, r1w, p0, p1, p2, p3, pn, pc⟩ := ins_at (RdI.below ha.insts (below_trans bw e5)) k hka
                            obtain ⟨b2, o2, N2w, c2, r2w, q0, q1, q2, q3, qn, qc⟩ := ins_at (RdI.below hb.insts (below_trans bw e5)) k hkb
                            have cc := fun W (g : Below wr.heap.size wr W) => w_r9inst a.insts[k] b.insts[k] N1w N2w c1 c2 W pn qn (pc.below g) (qc.below g) (ya.insts _ (List.getElem_mem hka)) (yb.insts _ (List.getElem_mem hkb))
                            obtain ⟨A1, ha1⟩ : ∃ X, a.insts[k].1 = X := ⟨_, rfl⟩
                            obtain ⟨A2, ha2⟩ : ∃ X, a.insts[k].2.1 = X := ⟨_, rfl⟩
                            obtain ⟨B1, hb1⟩ : ∃ X, b.insts[k].1 = X := ⟨_, rfl⟩
                            obtain ⟨B2, hb2⟩ : ∃ X, b.insts[k].2.1 = X := ⟨_, rfl⟩
                            rw [ha1] at p0
                            rw [ha2] at p1
                            rw [hb1] at q0
                            rw [hb2] at q1
                            simp only [ha1, ha2, hb1, hb2] at cc
                            clear pn qn pc qc
                            by_cases hxy : a.insts[k] = b.insts[k]
                            · have ht2 : Hid (a.insts.take (k + 1) = b.insts.take (k + 1)) := by
                                show _ = _
                                rw [List.take_succ_eq_append_getElem hka, List.take_succ_eq_append_getElem hkb, ht.out, hxy]
                              simp only [show eqI a.insts[k] b.insts[k] = true from decide_eq_true hxy] at cc
                              clear hxy ht
                              go_wp2_with fail
                              go_region_with (go_at_call 68; refine (cc _ (below_drewN (Below.refl _ _) 1)).mono ?_; rintro e qc ⟨rfl, bc⟩; have bt := below_trans (show Below w4.heap.size w4 wr.drew from below_drewN hg 1) bc)
                              all_goals (
                                go_wp2_with fail
                                go_roundw
                                case rel => exact ⟨k + 1, by omega, by go_num, ht2, by first | exact bt | exact below_drewN bt _⟩
                                case measure => simp [intOf]; omega)
                            · have hf := no (fun g => hxy (by simp only [g.2.2.2.2.2.2.2.2]))
                              simp only [show eqI a.insts[k] b.insts[k] = false from decide_eq_false hxy] at cc
                              clear hxy ht yes no
                              go_wp2_with fail
                              go_region_with (go_at_call 68; refine (cc _ (below_drewN (Below.refl _ _) 1)).mono ?_; rintro e qc ⟨rfl, bc⟩; have bt := below_trans (show Below w4.heap.size w4 wr.drew from below_drewN hg 1) bc)
                              all_goals (
                                go_wp2_with fail
                                go_ret
                                exact ⟨ret_b hf.out.symm, below_trans (below_trans bw e4) (by first | exact bt | exact below_drewN bt _)⟩)
                          · have hall_insts : a.insts = b.insts := by
                              have := ht.out
                              rw [List.take_of_length_le (by omega), List.take_of_length_le (by omega)] at this
                              exact this
                            have hf := hid (yes hc_stack hc_mem hc_base hc_tree hc_node hc_self hc_out hall_words hall_insts)
                            clear yes no ht
                            go_wp2_with fail
                            go_ret
                            exact ⟨ret_b hf.out.symm, below_trans bw e5⟩
                  · have hc := hc_li
                    have q_li : ((a.insts.length : Int) != (b.insts.length : Int)) = true := by simp; omega
                    have hf := no (fun g => hc_li (by rw [g.2.2.2.2.2.2.2.2]))
                    clear yes no hc
                    go_enter Try.func33, Try.ntmps33
                    go_wp2_with (go_at_call 65; refine cs.mono ?_; rintro e r1 ⟨rfl, d1⟩; have e1 := dr_below d1; obtain ⟨x0_1, x1_1, x2_1, x3_1, x4_1, x5_1, x6_1, x7_1, x8_1, x9_1⟩ := K1 _ e1; obtain ⟨y0_1, y1_1, y2_1, y3_1, y4_1, y5_1, y6_1, y7_1, y8_1, y9_1⟩ := K2 _ e1)
                    go_wp2_with (go_at_call 66; refine (cm _ (below_trans bw e1)).mono ?_; rintro e rs ⟨rfl, hs⟩; subst rs)
                    go_wp2_with (go_at_call 67; refine (ct _ (below_trans bw e1)).mono ?_; rintro e r3 ⟨rfl, d3⟩; have e3 := below_trans e1 d3; obtain ⟨x0_3, x1_3, x2_3, x3_3, x4_3, x5_3, x6_3, x7_3, x8_3, x9_3⟩ := K1 _ e3; obtain ⟨y0_3, y1_3, y2_3, y3_3, y4_3, y5_3, y6_3, y7_3, y8_3, y9_3⟩ := K2 _ e3)
                    go_ret
                    exact ⟨ret_b hf.out.symm, below_trans bw e3⟩
                · have hc := hc_lw
                  have q_lw : ((a.words.length : Int) != (b.words.length : Int)) = true := by simp; omega
                  have hf := no (fun g => hc_lw (by rw [g.2.2.2.2.2.2.2.1]))
                  clear yes no hc
                  go_enter Try.func33, Try.ntmps33
                  go_wp2_with (go_at_call 65; refine cs.mono ?_; rintro e r1 ⟨rfl, d1⟩; have e1 := dr_below d1; obtain ⟨x0_1, x1_1, x2_1, x3_1, x4_1, x5_1, x6_1, x7_1, x8_1, x9_1⟩ := K1 _ e1; obtain ⟨y0_1, y1_1, y2_1, y3_1, y4_1, y5_1, y6_1, y7_1, y8_1, y9_1⟩ := K2 _ e1)
                  go_wp2_with (go_at_call 66; refine (cm _ (below_trans bw e1)).mono ?_; rintro e rs ⟨rfl, hs⟩; subst rs)
                  go_wp2_with (go_at_call 67; refine (ct _ (below_trans bw e1)).mono ?_; rintro e r3 ⟨rfl, d3⟩; have e3 := below_trans e1 d3; obtain ⟨x0_3, x1_3, x2_3, x3_3, x4_3, x5_3, x6_3, x7_3, x8_3, x9_3⟩ := K1 _ e3; obtain ⟨y0_3, y1_3, y2_3, y3_3, y4_3, y5_3, y6_3, y7_3, y8_3, y9_3⟩ := K2 _ e3)
                  go_ret
                  exact ⟨ret_b hf.out.symm, below_trans bw e3⟩
              · have hc := hc_out
                rw [decide_eq_false hc] at hN
                have q_out : (oa.toList != ob.toList) = true := by simp [bne, hN]
                have hf := no (fun g => hc_out g.2.2.2.2.2.2.1)
                clear yes no hc
                go_enter Try.func33, Try.ntmps33
                go_wp2_with (go_at_call 65; refine cs.mono ?_; rintro e r1 ⟨rfl, d1⟩; have e1 := dr_below d1; obtain ⟨x0_1, x1_1, x2_1, x3_1, x4_1, x5_1, x6_1, x7_1, x8_1, x9_1⟩ := K1 _ e1; obtain ⟨y0_1, y1_1, y2_1, y3_1, y4_1, y5_1, y6_1, y7_1, y8_1, y9_1⟩ := K2 _ e1)
                go_wp2_with (go_at_call 66; refine (cm _ (below_trans bw e1)).mono ?_; rintro e rs ⟨rfl, hs⟩; subst rs)
                go_wp2_with (go_at_call 67; refine (ct _ (below_trans bw e1)).mono ?_; rintro e r3 ⟨rfl, d3⟩; have e3 := below_trans e1 d3; obtain ⟨x0_3, x1_3, x2_3, x3_3, x4_3, x5_3, x6_3, x7_3, x8_3, x9_3⟩ := K1 _ e3; obtain ⟨y0_3, y1_3, y2_3, y3_3, y4_3, y5_3, y6_3, y7_3, y8_3, y9_3⟩ := K2 _ e3)
                go_ret
                exact ⟨ret_b hf.out.symm, below_trans bw e3⟩
            · have hc := hc_self
              have q_self : (S1 != S2) = true := by simpa using hc
              have hf := no (fun g => hc_self g.2.2.2.2.2.1)
              clear yes no hc
              go_enter Try.func33, Try.ntmps33
              go_wp2_with (go_at_call 65; refine cs.mono ?_; rintro e r1 ⟨rfl, d1⟩; have e1 := dr_below d1; obtain ⟨x0_1, x1_1, x2_1, x3_1, x4_1, x5_1, x6_1, x7_1, x8_1, x9_1⟩ := K1 _ e1; obtain ⟨y0_1, y1_1, y2_1, y3_1, y4_1, y5_1, y6_1, y7_1, y8_1, y9_1⟩ := K2 _ e1)
              go_wp2_with (go_at_call 66; refine (cm _ (below_trans bw e1)).mono ?_; rintro e rs ⟨rfl, hs⟩; subst rs)
              go_wp2_with (go_at_call 67; refine (ct _ (below_trans bw e1)).mono ?_; rintro e r3 ⟨rfl, d3⟩; have e3 := below_trans e1 d3; obtain ⟨x0_3, x1_3, x2_3, x3_3, x4_3, x5_3, x6_3, x7_3, x8_3, x9_3⟩ := K1 _ e3; obtain ⟨y0_3, y1_3, y2_3, y3_3, y4_3, y5_3, y6_3, y7_3, y8_3, y9_3⟩ := K2 _ e3)
              go_ret
              exact ⟨ret_b hf.out.symm, below_trans bw e3⟩
          · have hc := hc_node
            have q_node : (N1 != N2) = true := by simpa using hc
            have hf := no (fun g => hc_node g.2.2.2.2.1)
            clear yes no hc
            go_enter Try.func33, Try.ntmps33
            go_wp2_with (go_at_call 65; refine cs.mono ?_; rintro e r1 ⟨rfl, d1⟩; have e1 := dr_below d1; obtain ⟨x0_1, x1_1, x2_1, x3_1, x4_1, x5_1, x6_1, x7_1, x8_1, x9_1⟩ := K1 _ e1; obtain ⟨y0_1, y1_1, y2_1, y3_1, y4_1, y5_1, y6_1, y7_1, y8_1, y9_1⟩ := K2 _ e1)
            go_wp2_with (go_at_call 66; refine (cm _ (below_trans bw e1)).mono ?_; rintro e rs ⟨rfl, hs⟩; subst rs)
            go_wp2_with (go_at_call 67; refine (ct _ (below_trans bw e1)).mono ?_; rintro e r3 ⟨rfl, d3⟩; have e3 := below_trans e1 d3; obtain ⟨x0_3, x1_3, x2_3, x3_3, x4_3, x5_3, x6_3, x7_3, x8_3, x9_3⟩ := K1 _ e3; obtain ⟨y0_3, y1_3, y2_3, y3_3, y4_3, y5_3, y6_3, y7_3, y8_3, y9_3⟩ := K2 _ e3)
            go_ret
            exact ⟨ret_b hf.out.symm, below_trans bw e3⟩
        · have hc := hc_tree
          simp only [eqT_not hc] at ct
          have hf := no (fun g => hc_tree g.2.2.2.1)
          clear yes no hc
          go_enter Try.func33, Try.ntmps33
          go_wp2_with (go_at_call 65; refine cs.mono ?_; rintro e r1 ⟨rfl, d1⟩; have e1 := dr_below d1; obtain ⟨x0_1, x1_1, x2_1, x3_1, x4_1, x5_1, x6_1, x7_1, x8_1, x9_1⟩ := K1 _ e1; obtain ⟨y0_1, y1_1, y2_1, y3_1, y4_1, y5_1, y6_1, y7_1, y8_1, y9_1⟩ := K2 _ e1)
          go_wp2_with (go_at_call 66; refine (cm _ (below_trans bw e1)).mono ?_; rintro e rs ⟨rfl, hs⟩; subst rs)
          go_wp2_with (go_at_call 67; refine (ct _ (below_trans bw e1)).mono ?_; rintro e r3 ⟨rfl, d3⟩; have e3 := below_trans e1 d3; obtain ⟨x0_3, x1_3, x2_3, x3_3, x4_3, x5_3, x6_3, x7_3, x8_3, x9_3⟩ := K1 _ e3; obtain ⟨y0_3, y1_3, y2_3, y3_3, y4_3, y5_3, y6_3, y7_3, y8_3, y9_3⟩ := K2 _ e3)
          go_ret
          exact ⟨ret_b hf.out.symm, below_trans bw e3⟩
      · have hc := hc_base
        have q_base : (B1 != B2) = true := by simpa using hc
        have hf := no (fun g => hc_base g.2.2.1)
        clear yes no hc
        go_enter Try.func33, Try.ntmps33
        go_wp2_with (go_at_call 65; refine cs.mono ?_; rintro e r1 ⟨rfl, d1⟩; have e1 := dr_below d1; obtain ⟨x0_1, x1_1, x2_1, x3_1, x4_1, x5_1, x6_1, x7_1, x8_1, x9_1⟩ := K1 _ e1; obtain ⟨y0_1, y1_1, y2_1, y3_1, y4_1, y5_1, y6_1, y7_1, y8_1, y9_1⟩ := K2 _ e1)
        go_wp2_with (go_at_call 66; refine (cm _ (below_trans bw e1)).mono ?_; rintro e rs ⟨rfl, hs⟩; subst rs)
        go_ret
        exact ⟨ret_b hf.out.symm, below_trans bw e1⟩
    · have hc := hc_mem
      simp only [decide_eq_false hc] at cm
      have hf := no (fun g => hc_mem g.2.1)
      clear yes no hc
      go_enter Try.func33, Try.ntmps33
      go_wp2_with (go_at_call 65; refine cs.mono ?_; rintro e r1 ⟨rfl, d1⟩; have e1 := dr_below d1; obtain ⟨x0_1, x1_1, x2_1, x3_1, x4_1, x5_1, x6_1, x7_1, x8_1, x9_1⟩ := K1 _ e1; obtain ⟨y0_1, y1_1, y2_1, y3_1, y4_1, y5_1, y6_1, y7_1, y8_1, y9_1⟩ := K2 _ e1)
      go_wp2_with (go_at_call 66; refine (cm _ (below_trans bw e1)).mono ?_; rintro e rs ⟨rfl, hs⟩; subst rs)
      go_ret
      exact ⟨ret_b hf.out.symm, below_trans bw e1⟩
  · have hc := hc_stack
    rw [decide_eq_false hc] at cs
    have hf := no (fun g => hc_stack g.1)
    clear yes no hc
    go_enter Try.func33, Try.ntmps33
    go_wp2_with (go_at_call 65; refine cs.mono ?_; rintro e r1 ⟨rfl, d1⟩; have e1 := dr_below d1; obtain ⟨x0_1, x1_1, x2_1, x3_1, x4_1, x5_1, x6_1, x7_1, x8_1, x9_1⟩ := K1 _ e1; obtain ⟨y0_1, y1_1, y2_1, y3_1, y4_1, y5_1, y6_1, y7_1, y8_1, y9_1⟩ := K2 _ e1)
    go_ret
    exact ⟨ret_b hf.out.symm, below_trans bw e1⟩

end Go.Proofs.Ytfljcfpcokimcaa
