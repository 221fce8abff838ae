/-
  Texts of one proof, laid one behind the other: Rda.
-/
import Derived.Test.YtfljcfpcokimcaaB32
import Derived.Deep.RegionHeld
namespace Go.Proofs.Ytfljcfpcokimcaa
open Go.ChangeShapes Go.WideShapes Go.ChangeAt Go.RowKit
set_option linter.unusedVariables false
set_option linter.unusedSimpArgs false

/-
  Formed of the document's answer for machines.
-/
theorem prm_rng : ∀ p ∈ prmL, 0 ≤ p.2 ∧ p.2 < 1000 := by
  have h : prmL.all (fun p => decide (0 ≤ p.2 ∧ p.2 < 1000)) = true := by decide +kernel
  exact fun p hp => of_decide_eq_true (List.all_eq_true.1 h p hp)
theorem prm_byt : ∀ p ∈ prmL, bytesL p.1 := by
  have h : prmL.all (fun p => p.1.all (fun c => decide (0 ≤ c ∧ c < 256))) = true := by decide +kernel
  exact fun p hp c hc => of_decide_eq_true (List.all_eq_true.1 (List.all_eq_true.1 h p hp) c hc)
/-- the word at a place is right -/
def okW (ws : List Wd) (t : List Nd) (i : Nat) (x : Wd) : Bool := if i < 111 then decide (x = prmW (prmL.getD i ([], 0))) else wofF x ws.length t
theorem wds_yes {ws : List Wd} {t : List Nd} (h1 : 111 ≤ ws.length) (h2 : ws.length ≤ 640) (h : ∀ i (hi : i < ws.length), okW ws t i ws[i] = true) : wdsF ws t = true := by
  unfold wdsF
  rw [decide_eq_true ⟨h1, h2⟩, Bool.true_and, Bool.and_eq_true]
  constructor
  · rw [decide_eq_true_eq]
    apply List.ext_getElem
    · simp [prm_len]
      omega
    · intro i hi1 hi2
      have hi : i < 111 := by simp at hi1; omega
      have := h i (by omega)
      unfold okW at this
      rw [if_pos hi, decide_eq_true_eq] at this
      rw [List.getElem_take, List.getElem_map, this, List.getD_eq_getElem?_getD, List.getElem?_eq_getElem (by rw [prm_len]; exact hi), Option.getD_some]
  · rw [List.all_eq_true]
    intro x hx
    obtain ⟨i, hi, rfl⟩ := List.getElem_of_mem hx
    have hi2 : 111 + i < ws.length := by simp at hi; omega
    have := h (111 + i) hi2
    unfold okW at this
    rw [if_neg (by omega)] at this
    rw [List.getElem_drop]
    exact this
theorem wds_no {ws : List Wd} {t : List Nd} {i : Nat} (hi : i < ws.length) (h : okW ws t i ws[i] = false) : wdsF ws t = false := by
  rw [Bool.eq_false_iff]
  intro g
  unfold wdsF at g
  simp only [Bool.and_eq_true, decide_eq_true_eq, List.all_eq_true] at g
  obtain ⟨⟨g1, g2⟩, g3, g4⟩ := g
  unfold okW at h
  split at h
  · rename_i hlt
    rw [decide_eq_false_iff_not] at h
    apply h
    have e1 : (ws.take 111)[i]? = (prmL.map prmW)[i]? := by rw [g3]
    rw [List.getElem?_take_of_lt hlt, List.getElem?_eq_getElem hi, List.getElem?_map, List.getElem?_eq_getElem (by rw [prm_len]; exact hlt)] at e1
    rw [List.getD_eq_getElem?_getD, List.getElem?_eq_getElem (by rw [prm_len]; exact hlt), Option.getD_some]
    simpa using e1
  · rename_i hge
    have hm : ws[i] ∈ ws.drop 111 := by
      rw [List.mem_drop_iff_getElem]
      exact ⟨i - 111, by omega, by congr 1; omega⟩
    rw [g4 _ hm] at h
    cases h
theorem cds_no {c : List Int} {n i : Nat} (hi : i < c.length) (h : ¬ (-1 ≤ c[i] ∧ c[i] < n)) : cdsF c n = false := by
  rw [Bool.eq_false_iff]
  intro g
  unfold cdsF at g
  simp only [Bool.and_eq_true, decide_eq_true_eq, List.all_eq_true] at g
  exact h (g.2 _ (List.getElem_mem hi))
theorem frm_no {m : Mc} (h : ¬ (m.stack.length ≤ 64 ∧ m.mem.length ≤ 4096 ∧ 2 ≤ m.base ∧ m.base ≤ 36 ∧ m.out.length ≤ 1024 ∧ frmT m.tree = true ∧ (-1 ≤ m.node ∧ m.node < m.tree.length) ∧ insF m.insts m.tree = true ∧ (m.self = -1 ∨ alvF m.insts m.self = true) ∧ wdsF m.words m.tree = true ∧ cdsF m.codes m.words.length = true)) : frmM m = false := by
  rw [Bool.eq_false_iff]
  intro g
  unfold frmM at g
  simp only [Bool.and_eq_true, Bool.or_eq_true, decide_eq_true_eq] at g
  obtain ⟨⟨g1, g2, g3, g4, g5⟩, g6, g7, g8, g9, g10, g11⟩ := g
  exact h ⟨g1, g2, g3, g4, g5, g6, g7, g8, g9, g10, g11⟩
theorem frm_yes {m : Mc} (g1 : m.stack.length ≤ 64) (g2 : m.mem.length ≤ 4096) (g3 : 2 ≤ m.base) (g4 : m.base ≤ 36) (g5 : m.out.length ≤ 1024) (g6 : frmT m.tree = true) (g7 : -1 ≤ m.node ∧ m.node < m.tree.length) (g8 : insF m.insts m.tree = true) (g9 : m.self = -1 ∨ alvF m.insts m.self = true) (g10 : wdsF m.words m.tree = true) (g11 : cdsF m.codes m.words.length = true) : frmM m = true := by
  unfold frmM
  simp only [Bool.and_eq_true, Bool.or_eq_true, decide_eq_true_eq]
  exact ⟨⟨g1, g2, g3, g4, g5⟩, g6, g7, g8, g9, g10, g11⟩
/-- what is asked of a machine that comes in: bytes, lengths, numbers -/
structure gdM (m : Mc) : Prop where
  by' : byM m
  len : ∀ x ∈ m.tree, lenN x
  nam : ∀ x ∈ m.words, x.1.length ≤ maxLen
  ops : ∀ x ∈ m.words, ∀ y ∈ x.2.2.2.2, 0 ≤ y.2 ∧ y.2 < 4294967296
  num : ∀ x ∈ m.words, 0 ≤ x.2.2.2.1 ∧ x.2.2.2.1 < 4294967296
  arg : ∀ x ∈ m.insts, x.2.2.1.length ≤ maxLen
theorem uA : Try.prog.underlying 25 = some (.slice (Try.prog.elem 25)) := by kernel_rfl

set_option maxHeartbeats 8000000 in
set_option maxRecDepth 100000 in
theorem w_r9formed (m : Mc) (v : Mv) (o : ByteArray) (w : World) (h : RdM w v m o) (g : gdM m) :
    Calls Try.prog 19 #[.agg (v.cs m o)] w fun e w' => e = .returned (.bool (frmM m)) ∧ Below w.heap.size w w' := by
  have st := stands_new w (v.cs m o) 32
  have bw := box_below w (.cells (v.cs m o) 32)
  have K := fun q (g : Below (w.alloc (.cells (v.cs m o) 32)).heap.size (w.alloc (.cells (v.cs m o) 32)) q) => mch_cells (st.below g)
  have l1 := rd_len h.stack uU (P := Try.prog)
  have l2 := rd_len h.mem uA (P := Try.prog)
  have l3 := slr_len h.words uW (P := Try.prog)
  have l4 := rd_len h.codes uJ (P := Try.prog)
  have l5 := slr_len h.tree uN (P := Try.prog)
  have hos : o.size = m.out.length := by rw [← L_len, show L o = m.out by rw [← h.out]; exact LB_nums _ g.by'.out]
  have ct := fun W (b : Below w.heap.size w W) => w_r8formed v.vt m.tree W (h.tree.below b) g.by'.tree g.len
  have ci := fun W (b : Below w.heap.size w W) => w_r9insts v.vi v.vt m.insts m.tree W (h.insts.below b) (h.tree.below b) g.by'.insts g.arg
  have ca := fun W (b : Below w.heap.size w W) => w_r9alive v.vi m.insts m.self W (h.insts.below b)
  have no := fun x => hid (frm_no (m := m) x)
  have yes := @frm_yes m
  obtain ⟨R, hR⟩ : ∃ R, frmM m = R := ⟨_, rfl⟩
  rw [hR]
  simp only [hR] at yes no
  obtain ⟨BA, hBA⟩ : ∃ X, m.base = X := ⟨_, rfl⟩
  obtain ⟨ND, hND⟩ : ∃ X, m.node = X := ⟨_, rfl⟩
  obtain ⟨SE, hSE⟩ : ∃ X, m.self = X := ⟨_, rfl⟩
  obtain ⟨U, hU⟩ : ∃ X, v.cs m o = X := ⟨_, rfl⟩
  simp only [hBA, hND, hSE, hU] at yes no ca K bw ⊢
  obtain ⟨FT, hFT⟩ : ∃ X, frmT m.tree = X := ⟨_, rfl⟩
  obtain ⟨FI, hFI⟩ : ∃ X, insF m.insts m.tree = X := ⟨_, rfl⟩
  obtain ⟨FA, hFA⟩ : ∃ X, alvF m.insts SE = X := ⟨_, rfl⟩
  simp only [hFT, hFI, hFA] at yes no ct ci ca
  obtain ⟨f0, f1, f2, f3, f4, f5, f6, f7, f8, f9⟩ := K _ (Below.refl _ _)
  have pl : (prmL.length : Int) = 111 := by rw [prm_len]; rfl
  clear hR hBA hND hSE hU hFT hFI hFA st
  by_cases c_stack : (m.stack.length : Int) ≤ 64
  · skip
    by_cases c_mem : (m.mem.length : Int) ≤ 4096
    · skip
      by_cases c_wd1 : (m.words.length : Int) ≤ 640
      · skip
        by_cases c_wd2 : (111 : Int) ≤ m.words.length
        · skip
          by_cases c_codes : (m.codes.length : Int) ≤ 2048
          · skip
            by_cases c_b1 : 2 ≤ BA
            · skip
              by_cases c_b2 : BA ≤ 36
              · skip
                by_cases c_out : (o.size : Int) ≤ 1024
                · skip
                  by_cases c_tree : FT = true
                  · subst c_tree
                    by_cases c_n1 : -1 ≤ ND
                    · skip
                      by_cases c_n2 : ND < (m.tree.length : Int)
                      · skip
                        by_cases c_ins : FI = true
                        · subst c_ins
                          by_cases c_s : SE = -1 ∨ FA = true
                          · skip
                            have hsel : (SE != -1) = false ∨ (SE != -1) = true ∧ FA = true := by
                              rcases c_s with c_s | c_s
                              · exact Or.inl (by simp [c_s])
                              · cases q : (SE != -1)
                                · exact Or.inl rfl
                                · exact Or.inr ⟨rfl, c_s⟩
                            have Yes : wdsF m.words m.tree = true → cdsF m.codes m.words.length = true → Hid (R = true) := fun a b => hid (yes (by omega) (by omega) c_b1 c_b2 (by omega) rfl ⟨c_n1, c_n2⟩ rfl c_s a b)
                            have No1 : wdsF m.words m.tree = false → Hid (R = false) := fun a => no (fun x => by have := x.2.2.2.2.2.2.2.2.2.1; rw [a] at this; cases this)
                            have No2 : cdsF m.codes m.words.length = false → Hid (R = false) := fun a => no (fun x => by have := x.2.2.2.2.2.2.2.2.2.2; rw [a] at this; cases this)
                            have Wy := @wds_yes m.words m.tree (by omega) (by omega)
                            clear yes no hos c_s
                            rcases hsel with q_s | ⟨q_s, c_f⟩
                            · skip
                              go_enter Try.func19, Try.ntmps19
                              go_wp2_with (go_at_call 14; refine (w_r9prims _).mono ?_; rintro e q1 ⟨u1, rfl, p1, b1⟩; have e1 := b1; have lp := slr_len p1 uM (P := Try.prog); rw [pl] at lp; obtain ⟨x0_1, x1_1, x2_1, x3_1, x4_1, x5_1, x6_1, x7_1, x8_1, x9_1⟩ := K _ e1)
                              go_wp2_with (go_at_call 46; refine (ct _ (below_trans bw e1)).mono ?_; rintro e q2 ⟨rfl, b2⟩; have e2 := below_trans e1 b2; obtain ⟨x0_2, x1_2, x2_2, x3_2, x4_2, x5_2, x6_2, x7_2, x8_2, x9_2⟩ := K _ e2)
                              go_wp2_with (go_at_call 47; refine (ci _ (below_trans bw e2)).mono ?_; rintro e q3 ⟨rfl, b3⟩; have e3 := below_trans e2 b3; obtain ⟨x0_3, x1_3, x2_3, x3_3, x4_3, x5_3, x6_3, x7_3, x8_3, x9_3⟩ := K _ e3)
                              go_loopw [4] (fun I wx => ∃ (k : Nat), (k : Int) ≤ m.words.length ∧ I = .int .i64 k ∧ Hid (∀ i (hi : i < k) (hx : i < m.words.length), okW m.words m.tree i m.words[i] = true) ∧ Below q3.heap.size q3 wx) (fun I _ => (m.words.length - intOf I).toNat)
                              case atStart => exact ⟨0, by omega, rfl, hid (fun i hi => by omega), Below.refl _ _⟩
                              case round =>
                                obtain ⟨i, hi, rfl, hw, hb⟩ := hrel
                                have e4 := below_trans e3 hb
                                obtain ⟨x0_4, x1_4, x2_4, x3_4, x4_4, x5_4, x6_4, x7_4, x8_4, x9_4⟩ := K _ e4
                                by_cases hlt : (i : Int) < m.words.length
                                · have hil : i < m.words.length := by omega
                                  obtain ⟨b5, o5, nm, vc, r5, w0, w1, w2, w3, w4, en, hc⟩ := wrd_at (RdW.below h.words (below_trans bw e4)) i hil
                                  obtain ⟨ca9, cq9, rfl⟩ := slr_slice hc
                                  have hm1 := List.getElem_mem hil
                                  have step : okW m.words m.tree i m.words[i] = true → Hid (∀ j (hj : j < i + 1) (hx : j < m.words.length), okW m.words m.tree j m.words[j] = true) := fun a => by
                                    show ∀ j (hj : j < i + 1) (hx : j < m.words.length), _
                                    intro j hj hx
                                    by_cases c : j = i
                                    · subst c; exact a
                                    · exact hw.out j (by omega) hx
                                  have stop : okW m.words m.tree i m.words[i] = false → Hid (R = false) := fun a => No1 (wds_no hil a)
                                  have hokW : okW m.words m.tree i m.words[i] = if i < 111 then decide (m.words[i] = prmW (prmL.getD i ([], 0))) else wofF m.words[i] m.words.length m.tree := rfl
                                  have hrd : Hid (Below wr.heap.size wr wr.drew) := below_drewN (Below.refl _ _) 1
                                  have hrdq : Hid (Below q3.heap.size q3 wr.drew) := below_drewN hb 1
                                  by_cases h111 : (i : Int) < 111
                                  · have hip : i < prmL.length := by omega
                                    rw [if_pos (by omega), List.getD_eq_getElem?_getD, List.getElem?_eq_getElem hip, Option.getD_some] at hokW
                                    obtain ⟨b6, o6, nm2, r6, y0, y1, en2⟩ := prm_cell ((p1.below b2 (prmR_below b2)).below (below_trans b3 hb) (prmR_below (below_trans b3 hb))) i hip
                                    have hrg := prm_rng _ (List.getElem_mem hip)
                                    have cW : ∀ W, Below wr.heap.size wr W → Calls Try.prog 49 #[.agg #[.string nm, .int .i64 m.words[i].2.1, .int .i64 m.words[i].2.2.1, .int .u32 m.words[i].2.2.2.1, .slice ca9 m.words[i].2.2.2.2.length cq9], .agg #[.string nm2, .int .i64 (-1), .int .i64 1, .int .u32 prmL[i].2, .slice none 0 0]] W fun e w' => e = .returned (.bool (eqW m.words[i] (prmW prmL[i]))) ∧ Below W.heap.size W w' := fun W g9 => w_r9word m.words[i] (prmW prmL[i]) nm nm2 (.slice ca9 m.words[i].2.2.2.2.length cq9) (.slice none 0 0) W en en2 (RdO.below hc g9) (OwnR.read (by decide) (OwnR.nil 78 2 opR W.heap.size W) (fun _ _ x => x)) (g.by'.words _ hm1) (prm_byt _ (List.getElem_mem hip))
                                    obtain ⟨A1, hA1⟩ : ∃ X, m.words[i].2.1 = X := ⟨_, rfl⟩
                                    obtain ⟨A2, hA2⟩ : ∃ X, m.words[i].2.2.1 = X := ⟨_, rfl⟩
                                    obtain ⟨A3, hA3⟩ : ∃ X, m.words[i].2.2.2.1 = X := ⟨_, rfl⟩
                                    obtain ⟨PC, hPC⟩ : ∃ X, prmL[i].2 = X := ⟨_, rfl⟩
                                    rw [hA1] at w1
                                    rw [hA2] at w2
                                    rw [hA3] at w3
                                    rw [hPC] at y1 hrg
                                    simp only [hA1, hA2, hA3, hPC] at cW
                                    have hwr : IntKind.u32.wrap PC = PC := by simp [IntKind.wrap, IntKind.bits, IntKind.signed]; omega
                                    have HS : Hid (∀ W, Below wr.heap.size wr W → (W.cell? ⟨w.heap.size, 2, none⟩ = some v.vw ∧ W.cell? ⟨b5, o5, none⟩ = some (.string nm) ∧ W.cell? ⟨b5, o5 + 1, none⟩ = some (.int .i64 A1) ∧ W.cell? ⟨b5, o5 + 2, none⟩ = some (.int .i64 A2) ∧ W.cell? ⟨b5, o5 + 3, none⟩ = some (.int .u32 A3) ∧ W.cell? ⟨b5, o5 + 4, none⟩ = some (.slice ca9 m.words[i].2.2.2.2.length cq9) ∧ W.cell? ⟨b6, o6, none⟩ = some (.string nm2) ∧ W.cell? ⟨b6, o6 + 1, none⟩ = some (.int .i64 PC))) := fun W x => ⟨below_cell x x2_4, below_cell x w0, below_cell x w1, below_cell x w2, below_cell x w3, below_cell x w4, below_cell x y0, below_cell x y1⟩
                                    have hEQ : eqW m.words[i] (prmW prmL[i]) = okW m.words m.tree i m.words[i] := hokW.symm
                                    simp only [hEQ] at cW
                                    obtain ⟨OK, hOK⟩ : ∃ X, okW m.words m.tree i m.words[i] = X := ⟨_, rfl⟩
                                    simp only [hOK] at cW step stop
                                    clear hA1 hA2 hA3 hPC hEQ hOK hokW hw en en2 w0 w1 w2 w3 w4 y0 y1 hm1
                                    cases OK
                                    · have hf := stop rfl
                                      clear step stop
                                      go_wp2_with fail
                                      go_region_held (fun W => W.cell? ⟨w.heap.size, 2, none⟩ = some v.vw ∧ W.cell? ⟨b5, o5, none⟩ = some (.string nm) ∧ W.cell? ⟨b5, o5 + 1, none⟩ = some (.int .i64 A1) ∧ W.cell? ⟨b5, o5 + 2, none⟩ = some (.int .i64 A2) ∧ W.cell? ⟨b5, o5 + 3, none⟩ = some (.int .u32 A3) ∧ W.cell? ⟨b5, o5 + 4, none⟩ = some (.slice ca9 m.words[i].2.2.2.2.length cq9) ∧ W.cell? ⟨b6, o6, none⟩ = some (.string nm2) ∧ W.cell? ⟨b6, o6 + 1, none⟩ = some (.int .i64 PC)) (exact HS.out _ (by first | with_reducible exact hrd.out | with_reducible exact RX.out))
                                        (first | (go_at_call 49; refine (cW _ hrd.out).mono ?_; rintro e qc ⟨rfl, bc⟩; have RX : Hid (Below wr.heap.size wr qc) := below_trans hrd.out bc; have RQ : Hid (Below q3.heap.size q3 qc) := below_trans hrdq.out bc))
                                      go_wp2_with fail
                                      go_ret
                                      exact ⟨ret_b hf.out.symm, below_trans (below_trans bw e3) RQ.out⟩
                                    · have hf := step rfl
                                      clear step stop
                                      go_wp2_with fail
                                      go_region_held (fun W => W.cell? ⟨w.heap.size, 2, none⟩ = some v.vw ∧ W.cell? ⟨b5, o5, none⟩ = some (.string nm) ∧ W.cell? ⟨b5, o5 + 1, none⟩ = some (.int .i64 A1) ∧ W.cell? ⟨b5, o5 + 2, none⟩ = some (.int .i64 A2) ∧ W.cell? ⟨b5, o5 + 3, none⟩ = some (.int .u32 A3) ∧ W.cell? ⟨b5, o5 + 4, none⟩ = some (.slice ca9 m.words[i].2.2.2.2.length cq9) ∧ W.cell? ⟨b6, o6, none⟩ = some (.string nm2) ∧ W.cell? ⟨b6, o6 + 1, none⟩ = some (.int .i64 PC)) (exact HS.out _ (by first | with_reducible exact hrd.out | with_reducible exact RX.out))
                                        (first | (go_at_call 49; refine (cW _ hrd.out).mono ?_; rintro e qc ⟨rfl, bc⟩; have RX : Hid (Below wr.heap.size wr qc) := below_trans hrd.out bc; have RQ : Hid (Below q3.heap.size q3 qc) := below_trans hrdq.out bc))
                                      go_wp2_with fail
                                      go_roundw
                                      case rel => exact ⟨i + 1, by omega, by go_num, hf, RQ.out⟩
                                      case measure => simp [intOf]; omega
                                  · rw [if_neg (by omega)] at hokW
                                    have cW := fun W (g9 : Below wr.heap.size wr W) => w_r9wof m.words[i] nm (.slice ca9 m.words[i].2.2.2.2.length cq9) v.vt m.words.length m.tree W en (RdO.below hc g9) (RdT.below h.tree (below_trans (below_trans bw e4) g9)) (g.by'.words _ hm1) (g.nam _ hm1) (g.ops _ hm1) (g.num _ hm1)
                                    obtain ⟨A1, hA1⟩ : ∃ X, m.words[i].2.1 = X := ⟨_, rfl⟩
                                    obtain ⟨A2, hA2⟩ : ∃ X, m.words[i].2.2.1 = X := ⟨_, rfl⟩
                                    obtain ⟨A3, hA3⟩ : ∃ X, m.words[i].2.2.2.1 = X := ⟨_, rfl⟩
                                    rw [hA1] at w1
                                    rw [hA2] at w2
                                    rw [hA3] at w3
                                    simp only [hA1, hA2, hA3, ← hokW] at cW
                                    have HS : Hid (∀ W, Below wr.heap.size wr W → (W.cell? ⟨w.heap.size, 2, none⟩ = some v.vw ∧ W.cell? ⟨w.heap.size, 5, none⟩ = some v.vt ∧ W.cell? ⟨b5, o5, none⟩ = some (.string nm) ∧ W.cell? ⟨b5, o5 + 1, none⟩ = some (.int .i64 A1) ∧ W.cell? ⟨b5, o5 + 2, none⟩ = some (.int .i64 A2) ∧ W.cell? ⟨b5, o5 + 3, none⟩ = some (.int .u32 A3) ∧ W.cell? ⟨b5, o5 + 4, none⟩ = some (.slice ca9 m.words[i].2.2.2.2.length cq9))) := fun W x => ⟨below_cell x x2_4, below_cell x x5_4, below_cell x w0, below_cell x w1, below_cell x w2, below_cell x w3, below_cell x w4⟩
                                    obtain ⟨OK, hOK⟩ : ∃ X, okW m.words m.tree i m.words[i] = X := ⟨_, rfl⟩
                                    simp only [hOK] at cW step stop
                                    clear hA1 hA2 hA3 hOK hokW hw en w0 w1 w2 w3 w4 hm1
                                    cases OK
                                    · have hf := stop rfl
                                      clear step stop
                                      go_wp2_with fail
                                      go_region_held (fun W => W.cell? ⟨w.heap.size, 2, none⟩ = some v.vw ∧ W.cell? ⟨w.heap.size, 5, none⟩ = some v.vt ∧ W.cell? ⟨b5, o5, none⟩ = some (.string nm) ∧ W.cell? ⟨b5, o5 + 1, none⟩ = some (.int .i64 A1) ∧ W.cell? ⟨b5, o5 + 2, none⟩ = some (.int .i64 A2) ∧ W.cell? ⟨b5, o5 + 3, none⟩ = some (.int .u32 A3) ∧ W.cell? ⟨b5, o5 + 4, none⟩ = some (.slice ca9 m.words[i].2.2.2.2.length cq9)) (exact HS.out _ (by first | with_reducible exact hrd.out | with_reducible exact RX.out))
                                        (first | (go_at_call 50; refine (cW _ hrd.out).mono ?_; rintro e qc ⟨rfl, bc⟩; have RX : Hid (Below wr.heap.size wr qc) := below_trans hrd.out bc; have RQ : Hid (Below q3.heap.size q3 qc) := below_trans hrdq.out bc))
                                      go_wp2_with fail
                                      go_ret
                                      exact ⟨ret_b hf.out.symm, below_trans (below_trans bw e3) RQ.out⟩
                                    · have hf := step rfl
                                      clear step stop
                                      go_wp2_with fail
                                      go_region_held (fun W => W.cell? ⟨w.heap.size, 2, none⟩ = some v.vw ∧ W.cell? ⟨w.heap.size, 5, none⟩ = some v.vt ∧ W.cell? ⟨b5, o5, none⟩ = some (.string nm) ∧ W.cell? ⟨b5, o5 + 1, none⟩ = some (.int .i64 A1) ∧ W.cell? ⟨b5, o5 + 2, none⟩ = some (.int .i64 A2) ∧ W.cell? ⟨b5, o5 + 3, none⟩ = some (.int .u32 A3) ∧ W.cell? ⟨b5, o5 + 4, none⟩ = some (.slice ca9 m.words[i].2.2.2.2.length cq9)) (exact HS.out _ (by first | with_reducible exact hrd.out | with_reducible exact RX.out))
                                        (first | (go_at_call 50; refine (cW _ hrd.out).mono ?_; rintro e qc ⟨rfl, bc⟩; have RX : Hid (Below wr.heap.size wr qc) := below_trans hrd.out bc; have RQ : Hid (Below q3.heap.size q3 qc) := below_trans hrdq.out bc))
                                      go_wp2_with fail
                                      go_roundw
                                      case rel => exact ⟨i + 1, by omega, by go_num, hf, RQ.out⟩
                                      case measure => simp [intOf]; omega
                                · have hW := Wy (fun j hj => hw.out j (by omega) hj)
                                  have Yes2 := Yes hW
                                  clear hw Yes No1 Wy
                                  go_wp2_with fail
                                  go_loopw [5] (fun I wx => ∃ (k : Nat), (k : Int) ≤ m.codes.length ∧ I = .int .i64 k ∧ Hid (∀ i (hi : i < k) (hx : i < m.codes.length), -1 ≤ m.codes[i] ∧ m.codes[i] < (m.words.length : Int)) ∧ Below q3.heap.size q3 wx) (fun I _ => (m.codes.length - intOf I).toNat)
                                  case atStart => exact ⟨0, by omega, rfl, hid (fun i hi => by omega), hb⟩
                                  case round =>
                                    obtain ⟨j, hj, rfl, hcd, hb5⟩ := hrel
                                    have e5 := below_trans e3 hb5
                                    obtain ⟨x0_5, x1_5, x2_5, x3_5, x4_5, x5_5, x6_5, x7_5, x8_5, x9_5⟩ := K _ e5
                                    by_cases hlj : (j : Int) < m.codes.length
                                    · have hjl : j < m.codes.length := by omega
                                      obtain ⟨ad, rj, hcj⟩ := rd_idx (h.codes.below (below_trans bw e5)) uJ zJ (j : Int) (by omega) hlj
                                      rw [Int.toNat_natCast, List.getD_eq_getElem?_getD, List.getElem?_eq_getElem hjl, Option.getD_some] at hcj
                                      have step : (-1 ≤ m.codes[j] ∧ m.codes[j] < (m.words.length : Int)) → Hid (∀ i (hi : i < j + 1) (hx : i < m.codes.length), -1 ≤ m.codes[i] ∧ m.codes[i] < (m.words.length : Int)) := fun a => by
                                        show ∀ i (hi : i < j + 1) (hx : i < m.codes.length), _
                                        intro i hi2 hx
                                        by_cases c : i = j
                                        · subst c; exact a
                                        · exact hcd.out i (by omega) hx
                                      have stop : ¬ (-1 ≤ m.codes[j] ∧ m.codes[j] < (m.words.length : Int)) → Hid (R = false) := fun a => No2 (cds_no hjl a)
                                      obtain ⟨X, hX⟩ : ∃ X, m.codes[j] = X := ⟨_, rfl⟩
                                      rw [hX] at hcj step stop
                                      clear hX hcd
                                      by_cases z1 : -1 ≤ X
                                      · have y1 : decide (X < -1) = false := by simp; omega
                                        by_cases z2 : X < (m.words.length : Int)
                                        · have y2 : decide ((m.words.length : Int) ≤ X) = false := by simp; omega
                                          have hf := step ⟨z1, z2⟩
                                          clear step stop
                                          go_wp2_with fail
                                          go_quiet (fail)
                                          go_wp2_with fail
                                          go_roundw
                                          case rel => exact ⟨j + 1, by omega, by go_num, hf, below_drewN hb5 _⟩
                                          case measure => simp [intOf]; omega
                                        · have y2 : decide ((m.words.length : Int) ≤ X) = true := by simp; omega
                                          have hf := stop (fun x => z2 x.2)
                                          clear step stop
                                          go_wp2_with fail
                                          go_quiet (fail)
                                          go_wp2_with fail
                                          go_ret
                                          exact ⟨ret_b hf.out.symm, below_trans (below_trans bw e3) (below_drewN hb5 _)⟩
                                      · have y1 : decide (X < -1) = true := by simp; omega
                                        have hf := stop (fun x => z1 x.1)
                                        clear step stop
                                        go_wp2_with fail
                                        go_quiet (fail)
                                        go_wp2_with fail
                                        go_ret
                                        exact ⟨ret_b hf.out.symm, below_trans (below_trans bw e3) (below_drewN hb5 _)⟩
                                    · have hf := Yes2 (by
                                        unfold cdsF
                                        rw [decide_eq_true (by omega), Bool.true_and, List.all_eq_true]
                                        intro x hx
                                        obtain ⟨i, hi2, rfl⟩ := List.getElem_of_mem hx
                                        exact decide_eq_true (hcd.out i (by omega) hi2))
                                      clear hcd
                                      go_wp2_with fail
                                      go_ret
                                      exact ⟨ret_b hf.out.symm, below_trans bw e5⟩
                            · subst c_f
                              go_enter Try.func19, Try.ntmps19
                              go_wp2_with (go_at_call 14; refine (w_r9prims _).mono ?_; rintro e q1 ⟨u1, rfl, p1, b1⟩; have e1 := b1; have lp := slr_len p1 uM (P := Try.prog); rw [pl] at lp; obtain ⟨x0_1, x1_1, x2_1, x3_1, x4_1, x5_1, x6_1, x7_1, x8_1, x9_1⟩ := K _ e1)
                              go_wp2_with (go_at_call 46; refine (ct _ (below_trans bw e1)).mono ?_; rintro e q2 ⟨rfl, b2⟩; have e2 := below_trans e1 b2; obtain ⟨x0_2, x1_2, x2_2, x3_2, x4_2, x5_2, x6_2, x7_2, x8_2, x9_2⟩ := K _ e2)
                              go_wp2_with (go_at_call 47; refine (ci _ (below_trans bw e2)).mono ?_; rintro e q3 ⟨rfl, b3⟩; have e3 := below_trans e2 b3; obtain ⟨x0_3, x1_3, x2_3, x3_3, x4_3, x5_3, x6_3, x7_3, x8_3, x9_3⟩ := K _ e3)
                              go_wp2_with (go_at_call 48; refine (ca _ (below_trans bw e3)).mono ?_; rintro e qs ⟨rfl, hs⟩; subst qs)
                              go_loopw [4] (fun I wx => ∃ (k : Nat), (k : Int) ≤ m.words.length ∧ I = .int .i64 k ∧ Hid (∀ i (hi : i < k) (hx : i < m.words.length), okW m.words m.tree i m.words[i] = true) ∧ Below q3.heap.size q3 wx) (fun I _ => (m.words.length - intOf I).toNat)
                              case atStart => exact ⟨0, by omega, rfl, hid (fun i hi => by omega), Below.refl _ _⟩
                              case round =>
                                obtain ⟨i, hi, rfl, hw, hb⟩ := hrel
                                have e4 := below_trans e3 hb
                                obtain ⟨x0_4, x1_4, x2_4, x3_4, x4_4, x5_4, x6_4, x7_4, x8_4, x9_4⟩ := K _ e4
                                by_cases hlt : (i : Int) < m.words.length
                                · have hil : i < m.words.length := by omega
                                  obtain ⟨b5, o5, nm, vc, r5, w0, w1, w2, w3, w4, en, hc⟩ := wrd_at (RdW.below h.words (below_trans bw e4)) i hil
                                  obtain ⟨ca9, cq9, rfl⟩ := slr_slice hc
                                  have hm1 := List.getElem_mem hil
                                  have step : okW m.words m.tree i m.words[i] = true → Hid (∀ j (hj : j < i + 1) (hx : j < m.words.length), okW m.words m.tree j m.words[j] = true) := fun a => by
                                    show ∀ j (hj : j < i + 1) (hx : j < m.words.length), _
                                    intro j hj hx
                                    by_cases c : j = i
                                    · subst c; exact a
                                    · exact hw.out j (by omega) hx
                                  have stop : okW m.words m.tree i m.words[i] = false → Hid (R = false) := fun a => No1 (wds_no hil a)
                                  have hokW : okW m.words m.tree i m.words[i] = if i < 111 then decide (m.words[i] = prmW (prmL.getD i ([], 0))) else wofF m.words[i] m.words.length m.tree := rfl
                                  have hrd : Hid (Below wr.heap.size wr wr.drew) := below_drewN (Below.refl _ _) 1
                                  have hrdq : Hid (Below q3.heap.size q3 wr.drew) := below_drewN hb 1
                                  by_cases h111 : (i : Int) < 111
                                  · have hip : i < prmL.length := by omega
                                    rw [if_pos (by omega), List.getD_eq_getElem?_getD, List.getElem?_eq_getElem hip, Option.getD_some] at hokW
                                    obtain ⟨b6, o6, nm2, r6, y0, y1, en2⟩ := prm_cell ((p1.below b2 (prmR_below b2)).below (below_trans b3 hb) (prmR_below (below_trans b3 hb))) i hip
                                    have hrg := prm_rng _ (List.getElem_mem hip)
                                    have cW : ∀ W, Below wr.heap.size wr W → Calls Try.prog 49 #[.agg #[.string nm, .int .i64 m.words[i].2.1, .int .i64 m.words[i].2.2.1, .int .u32 m.words[i].2.2.2.1, .slice ca9 m.words[i].2.2.2.2.length cq9], .agg #[.string nm2, .int .i64 (-1), .int .i64 1, .int .u32 prmL[i].2, .slice none 0 0]] W fun e w' => e = .returned (.bool (eqW m.words[i] (prmW prmL[i]))) ∧ Below W.heap.size W w' := fun W g9 => w_r9word m.words[i] (prmW prmL[i]) nm nm2 (.slice ca9 m.words[i].2.2.2.2.length cq9) (.slice none 0 0) W en en2 (RdO.below hc g9) (OwnR.read (by decide) (OwnR.nil 78 2 opR W.heap.size W) (fun _ _ x => x)) (g.by'.words _ hm1) (prm_byt _ (List.getElem_mem hip))
                                    obtain ⟨A1, hA1⟩ : ∃ X, m.words[i].2.1 = X := ⟨_, rfl⟩
                                    obtain ⟨A2, hA2⟩ : ∃ X, m.words[i].2.2.1 = X := ⟨_, rfl⟩
                                    obtain ⟨A3, hA3⟩ : ∃ X, m.words[i].2.2.2.1 = X := ⟨_, rfl⟩
                                    obtain ⟨PC, hPC⟩ : ∃ X, prmL[i].2 = X := ⟨_, rfl⟩
                                    rw [hA1] at w1
                                    rw [hA2] at w2
                                    rw [hA3] at w3
                                    rw [hPC] at y1 hrg
                                    simp only [hA1, hA2, hA3, hPC] at cW
                                    have hwr : IntKind.u32.wrap PC = PC := by simp [IntKind.wrap, IntKind.bits, IntKind.signed]; omega
                                    have HS : Hid (∀ W, Below wr.heap.size wr W → (W.cell? ⟨w.heap.size, 2, none⟩ = some v.vw ∧ W.cell? ⟨b5, o5, none⟩ = some (.string nm) ∧ W.cell? ⟨b5, o5 + 1, none⟩ = some (.int .i64 A1) ∧ W.cell? ⟨b5, o5 + 2, none⟩ = some (.int .i64 A2) ∧ W.cell? ⟨b5, o5 + 3, none⟩ = some (.int .u32 A3) ∧ W.cell? ⟨b5, o5 + 4, none⟩ = some (.slice ca9 m.words[i].2.2.2.2.length cq9) ∧ W.cell? ⟨b6, o6, none⟩ = some (.string nm2) ∧ W.cell? ⟨b6, o6 + 1, none⟩ = some (.int .i64 PC))) := fun W x => ⟨below_cell x x2_4, below_cell x w0, below_cell x w1, below_cell x w2, below_cell x w3, below_cell x w4, below_cell x y0, below_cell x y1⟩
                                    have hEQ : eqW m.words[i] (prmW prmL[i]) = okW m.words m.tree i m.words[i] := hokW.symm
                                    simp only [hEQ] at cW
                                    obtain ⟨OK, hOK⟩ : ∃ X, okW m.words m.tree i m.words[i] = X := ⟨_, rfl⟩
                                    simp only [hOK] at cW step stop
                                    clear hA1 hA2 hA3 hPC hEQ hOK hokW hw en en2 w0 w1 w2 w3 w4 y0 y1 hm1
                                    cases OK
                                    · have hf := stop rfl
                                      clear step stop
                                      go_wp2_with fail
                                      go_region_held (fun W => W.cell? ⟨w.heap.size, 2, none⟩ = some v.vw ∧ W.cell? ⟨b5, o5, none⟩ = some (.string nm) ∧ W.cell? ⟨b5, o5 + 1, none⟩ = some (.int .i64 A1) ∧ W.cell? ⟨b5, o5 + 2, none⟩ = some (.int .i64 A2) ∧ W.cell? ⟨b5, o5 + 3, none⟩ = some (.int .u32 A3) ∧ W.cell? ⟨b5, o5 + 4, none⟩ = some (.slice ca9 m.words[i].2.2.2.2.length cq9) ∧ W.cell? ⟨b6, o6, none⟩ = some (.string nm2) ∧ W.cell? ⟨b6, o6 + 1, none⟩ = some (.int .i64 PC)) (exact HS.out _ (by first | with_reducible exact hrd.out | with_reducible exact RX.out))
                                        (first | (go_at_call 49; refine (cW _ hrd.out).mono ?_; rintro e qc ⟨rfl, bc⟩; have RX : Hid (Below wr.heap.size wr qc) := below_trans hrd.out bc; have RQ : Hid (Below q3.heap.size q3 qc) := below_trans hrdq.out bc))
                                      go_wp2_with fail
                                      go_ret
                                      exact ⟨ret_b hf.out.symm, below_trans (below_trans bw e3) RQ.out⟩
                                    · have hf := step rfl
                                      clear step stop
                                      go_wp2_with fail
                                      go_region_held (fun W => W.cell? ⟨w.heap.size, 2, none⟩ = some v.vw ∧ W.cell? ⟨b5, o5, none⟩ = some (.string nm) ∧ W.cell? ⟨b5, o5 + 1, none⟩ = some (.int .i64 A1) ∧ W.cell? ⟨b5, o5 + 2, none⟩ = some (.int .i64 A2) ∧ W.cell? ⟨b5, o5 + 3, none⟩ = some (.int .u32 A3) ∧ W.cell? ⟨b5, o5 + 4, none⟩ = some (.slice ca9 m.words[i].2.2.2.2.length cq9) ∧ W.cell? ⟨b6, o6, none⟩ = some (.string nm2) ∧ W.cell? ⟨b6, o6 + 1, none⟩ = some (.int .i64 PC)) (exact HS.out _ (by first | with_reducible exact hrd.out | with_reducible exact RX.out))
                                        (first | (go_at_call 49; refine (cW _ hrd.out).mono ?_; rintro e qc ⟨rfl, bc⟩; have RX : Hid (Below wr.heap.size wr qc) := below_trans hrd.out bc; have RQ : Hid (Below q3.heap.size q3 qc) := below_trans hrdq.out bc))
                                      go_wp2_with fail
                                      go_roundw
                                      case rel => exact ⟨i + 1, by omega, by go_num, hf, RQ.out⟩
                                      case measure => simp [intOf]; omega
                                  · rw [if_neg (by omega)] at hokW
                                    have cW := fun W (g9 : Below wr.heap.size wr W) => w_r9wof m.words[i] nm (.slice ca9 m.words[i].2.2.2.2.length cq9) v.vt m.words.length m.tree W en (RdO.below hc g9) (RdT.below h.tree (below_trans (below_trans bw e4) g9)) (g.by'.words _ hm1) (g.nam _ hm1) (g.ops _ hm1) (g.num _ hm1)
                                    obtain ⟨A1, hA1⟩ : ∃ X, m.words[i].2.1 = X := ⟨_, rfl⟩
                                    obtain ⟨A2, hA2⟩ : ∃ X, m.words[i].2.2.1 = X := ⟨_, rfl⟩
                                    obtain ⟨A3, hA3⟩ : ∃ X, m.words[i].2.2.2.1 = X := ⟨_, rfl⟩
                                    rw [hA1] at w1
                                    rw [hA2] at w2
                                    rw [hA3] at w3
                                    simp only [hA1, hA2, hA3, ← hokW] at cW
                                    have HS : Hid (∀ W, Below wr.heap.size wr W → (W.cell? ⟨w.heap.size, 2, none⟩ = some v.vw ∧ W.cell? ⟨w.heap.size, 5, none⟩ = some v.vt ∧ W.cell? ⟨b5, o5, none⟩ = some (.string nm) ∧ W.cell? ⟨b5, o5 + 1, none⟩ = some (.int .i64 A1) ∧ W.cell? ⟨b5, o5 + 2, none⟩ = some (.int .i64 A2) ∧ W.cell? ⟨b5, o5 + 3, none⟩ = some (.int .u32 A3) ∧ W.cell? ⟨b5, o5 + 4, none⟩ = some (.slice ca9 m.words[i].2.2.2.2.length cq9))) := fun W x => ⟨below_cell x x2_4, below_cell x x5_4, below_cell x w0, below_cell x w1, below_cell x w2, below_cell x w3, below_cell x w4⟩
                                    obtain ⟨OK, hOK⟩ : ∃ X, okW m.words m.tree i m.words[i] = X := ⟨_, rfl⟩
                                    simp only [hOK] at cW step stop
                                    clear hA1 hA2 hA3 hOK hokW hw en w0 w1 w2 w3 w4 hm1
                                    cases OK
                                    · have hf := stop rfl
                                      clear step stop
                                      go_wp2_with fail
                                      go_region_held (fun W => W.cell? ⟨w.heap.size, 2, none⟩ = some v.vw ∧ W.cell? ⟨w.heap.size, 5, none⟩ = some v.vt ∧ W.cell? ⟨b5, o5, none⟩ = some (.string nm) ∧ W.cell? ⟨b5, o5 + 1, none⟩ = some (.int .i64 A1) ∧ W.cell? ⟨b5, o5 + 2, none⟩ = some (.int .i64 A2) ∧ W.cell? ⟨b5, o5 + 3, none⟩ = some (.int .u32 A3) ∧ W.cell? ⟨b5, o5 + 4, none⟩ = some (.slice ca9 m.words[i].2.2.2.2.length cq9)) (exact HS.out _ (by first | with_reducible exact hrd.out | with_reducible exact RX.out))
                                        (first | (go_at_call 50; refine (cW _ hrd.out).mono ?_; rintro e qc ⟨rfl, bc⟩; have RX : Hid (Below wr.heap.size wr qc) := below_trans hrd.out bc; have RQ : Hid (Below q3.heap.size q3 qc) := below_trans hrdq.out bc))
                                      go_wp2_with fail
                                      go_ret
                                      exact ⟨ret_b hf.out.symm, below_trans (below_trans bw e3) RQ.out⟩
                                    · have hf := step rfl
                                      clear step stop
                                      go_wp2_with fail
                                      go_region_held (fun W => W.cell? ⟨w.heap.size, 2, none⟩ = some v.vw ∧ W.cell? ⟨w.heap.size, 5, none⟩ = some v.vt ∧ W.cell? ⟨b5, o5, none⟩ = some (.string nm) ∧ W.cell? ⟨b5, o5 + 1, none⟩ = some (.int .i64 A1) ∧ W.cell? ⟨b5, o5 + 2, none⟩ = some (.int .i64 A2) ∧ W.cell? ⟨b5, o5 + 3, none⟩ = some (.int .u32 A3) ∧ W.cell? ⟨b5, o5 + 4, none⟩ = some (.slice ca9 m.words[i].2.2.2.2.length cq9)) (exact HS.out _ (by first | with_reducible exact hrd.out | with_reducible exact RX.out))
                                        (first | (go_at_call 50; refine (cW _ hrd.out).mono ?_; rintro e qc ⟨rfl, bc⟩; have RX : Hid (Below wr.heap.size wr qc) := below_trans hrd.out bc; have RQ : Hid (Below q3.heap.size q3 qc) := below_trans hrdq.out bc))
                                      go_wp2_with fail
                                      go_roundw
                                      case rel => exact ⟨i + 1, by omega, by go_num, hf, RQ.out⟩
                                      case measure => simp [intOf]; omega
                                · have hW := Wy (fun j hj => hw.out j (by omega) hj)
                                  have Yes2 := Yes hW
                                  clear hw Yes No1 Wy
                                  go_wp2_with fail
                                  go_loopw [5] (fun I wx => ∃ (k : Nat), (k : Int) ≤ m.codes.length ∧ I = .int .i64 k ∧ Hid (∀ i (hi : i < k) (hx : i < m.codes.length), -1 ≤ m.codes[i] ∧ m.codes[i] < (m.words.length : Int)) ∧ Below q3.heap.size q3 wx) (fun I _ => (m.codes.length - intOf I).toNat)
                                  case atStart => exact ⟨0, by omega, rfl, hid (fun i hi => by omega), hb⟩
                                  case round =>
                                    obtain ⟨j, hj, rfl, hcd, hb5⟩ := hrel
                                    have e5 := below_trans e3 hb5
                                    obtain ⟨x0_5, x1_5, x2_5, x3_5, x4_5, x5_5, x6_5, x7_5, x8_5, x9_5⟩ := K _ e5
                                    by_cases hlj : (j : Int) < m.codes.length
                                    · have hjl : j < m.codes.length := by omega
                                      obtain ⟨ad, rj, hcj⟩ := rd_idx (h.codes.below (below_trans bw e5)) uJ zJ (j : Int) (by omega) hlj
                                      rw [Int.toNat_natCast, List.getD_eq_getElem?_getD, List.getElem?_eq_getElem hjl, Option.getD_some] at hcj
                                      have step : (-1 ≤ m.codes[j] ∧ m.codes[j] < (m.words.length : Int)) → Hid (∀ i (hi : i < j + 1) (hx : i < m.codes.length), -1 ≤ m.codes[i] ∧ m.codes[i] < (m.words.length : Int)) := fun a => by
                                        show ∀ i (hi : i < j + 1) (hx : i < m.codes.length), _
                                        intro i hi2 hx
                                        by_cases c : i = j
                                        · subst c; exact a
                                        · exact hcd.out i (by omega) hx
                                      have stop : ¬ (-1 ≤ m.codes[j] ∧ m.codes[j] < (m.words.length : Int)) → Hid (R = false) := fun a => No2 (cds_no hjl a)
                                      obtain ⟨X, hX⟩ : ∃ X, m.codes[j] = X := ⟨_, rfl⟩
                                      rw [hX] at hcj step stop
                                      clear hX hcd
                                      by_cases z1 : -1 ≤ X
                                      · have y1 : decide (X < -1) = false := by simp; omega
                                        by_cases z2 : X < (m.words.length : Int)
                                        · have y2 : decide ((m.words.length : Int) ≤ X) = false := by simp; omega
                                          have hf := step ⟨z1, z2⟩
                                          clear step stop
                                          go_wp2_with fail
                                          go_quiet (fail)
                                          go_wp2_with fail
                                          go_roundw
                                          case rel => exact ⟨j + 1, by omega, by go_num, hf, below_drewN hb5 _⟩
                                          case measure => simp [intOf]; omega
                                        · have y2 : decide ((m.words.length : Int) ≤ X) = true := by simp; omega
                                          have hf := stop (fun x => z2 x.2)
                                          clear step stop
                                          go_wp2_with fail
                                          go_quiet (fail)
                                          go_wp2_with fail
                                          go_ret
                                          exact ⟨ret_b hf.out.symm, below_trans (below_trans bw e3) (below_drewN hb5 _)⟩
                                      · have y1 : decide (X < -1) = true := by simp; omega
                                        have hf := stop (fun x => z1 x.1)
                                        clear step stop
                                        go_wp2_with fail
                                        go_quiet (fail)
                                        go_wp2_with fail
                                        go_ret
                                        exact ⟨ret_b hf.out.symm, below_trans (below_trans bw e3) (below_drewN hb5 _)⟩
                                    · have hf := Yes2 (by
                                        unfold cdsF
                                        rw [decide_eq_true (by omega), Bool.true_and, List.all_eq_true]
                                        intro x hx
                                        obtain ⟨i, hi2, rfl⟩ := List.getElem_of_mem hx
                                        exact decide_eq_true (hcd.out i (by omega) hi2))
                                      clear hcd
                                      go_wp2_with fail
                                      go_ret
                                      exact ⟨ret_b hf.out.symm, below_trans bw e5⟩
                          · have c_a : ¬ SE = -1 := fun x => c_s (Or.inl x)
                            have c_f : FA = false := by cases FA <;> simp_all
                            subst c_f
                            have q_s : (SE != -1) = true := by simpa using c_a
                            have hf := no (fun x => c_s x.2.2.2.2.2.2.2.2.1)
                            clear yes no hos
                            go_enter Try.func19, Try.ntmps19
                            go_wp2_with (go_at_call 14; refine (w_r9prims _).mono ?_; rintro e q1 ⟨u1, rfl, p1, b1⟩; have e1 := b1; have lp := slr_len p1 uM (P := Try.prog); rw [pl] at lp; obtain ⟨x0_1, x1_1, x2_1, x3_1, x4_1, x5_1, x6_1, x7_1, x8_1, x9_1⟩ := K _ e1)
                            go_wp2_with (go_at_call 46; refine (ct _ (below_trans bw e1)).mono ?_; rintro e q2 ⟨rfl, b2⟩; have e2 := below_trans e1 b2; obtain ⟨x0_2, x1_2, x2_2, x3_2, x4_2, x5_2, x6_2, x7_2, x8_2, x9_2⟩ := K _ e2)
                            go_wp2_with (go_at_call 47; refine (ci _ (below_trans bw e2)).mono ?_; rintro e q3 ⟨rfl, b3⟩; have e3 := below_trans e2 b3; obtain ⟨x0_3, x1_3, x2_3, x3_3, x4_3, x5_3, x6_3, x7_3, x8_3, x9_3⟩ := K _ e3)
                            go_wp2_with (go_at_call 48; refine (ca _ (below_trans bw e3)).mono ?_; rintro e qs ⟨rfl, hs⟩; subst qs)
                            go_ret
                            exact ⟨ret_b hf.out.symm, below_trans bw e3⟩
                        · have c_f : FI = false := by simpa using c_ins
                          subst c_f
                          have hf := no (fun x => by have := x.2.2.2.2.2.2.2.1; cases this)
                          clear yes no hos
                          go_enter Try.func19, Try.ntmps19
                          go_wp2_with (go_at_call 14; refine (w_r9prims _).mono ?_; rintro e q1 ⟨u1, rfl, p1, b1⟩; have e1 := b1; have lp := slr_len p1 uM (P := Try.prog); rw [pl] at lp; obtain ⟨x0_1, x1_1, x2_1, x3_1, x4_1, x5_1, x6_1, x7_1, x8_1, x9_1⟩ := K _ e1)
                          go_wp2_with (go_at_call 46; refine (ct _ (below_trans bw e1)).mono ?_; rintro e q2 ⟨rfl, b2⟩; have e2 := below_trans e1 b2; obtain ⟨x0_2, x1_2, x2_2, x3_2, x4_2, x5_2, x6_2, x7_2, x8_2, x9_2⟩ := K _ e2)
                          go_wp2_with (go_at_call 47; refine (ci _ (below_trans bw e2)).mono ?_; rintro e q3 ⟨rfl, b3⟩; have e3 := below_trans e2 b3; obtain ⟨x0_3, x1_3, x2_3, x3_3, x4_3, x5_3, x6_3, x7_3, x8_3, x9_3⟩ := K _ e3)
                          go_ret
                          exact ⟨ret_b hf.out.symm, below_trans bw e3⟩
                      · have hf := no (fun x => c_n2 (x.2.2.2.2.2.2.1.2))
                        clear yes no hos
                        go_enter Try.func19, Try.ntmps19
                        go_wp2_with (go_at_call 14; refine (w_r9prims _).mono ?_; rintro e q1 ⟨u1, rfl, p1, b1⟩; have e1 := b1; have lp := slr_len p1 uM (P := Try.prog); rw [pl] at lp; obtain ⟨x0_1, x1_1, x2_1, x3_1, x4_1, x5_1, x6_1, x7_1, x8_1, x9_1⟩ := K _ e1)
                        go_wp2_with (go_at_call 46; refine (ct _ (below_trans bw e1)).mono ?_; rintro e q2 ⟨rfl, b2⟩; have e2 := below_trans e1 b2; obtain ⟨x0_2, x1_2, x2_2, x3_2, x4_2, x5_2, x6_2, x7_2, x8_2, x9_2⟩ := K _ e2)
                        go_ret
                        exact ⟨ret_b hf.out.symm, below_trans bw e2⟩
                    · have hf := no (fun x => c_n1 (x.2.2.2.2.2.2.1.1))
                      clear yes no hos
                      go_enter Try.func19, Try.ntmps19
                      go_wp2_with (go_at_call 14; refine (w_r9prims _).mono ?_; rintro e q1 ⟨u1, rfl, p1, b1⟩; have e1 := b1; have lp := slr_len p1 uM (P := Try.prog); rw [pl] at lp; obtain ⟨x0_1, x1_1, x2_1, x3_1, x4_1, x5_1, x6_1, x7_1, x8_1, x9_1⟩ := K _ e1)
                      go_wp2_with (go_at_call 46; refine (ct _ (below_trans bw e1)).mono ?_; rintro e q2 ⟨rfl, b2⟩; have e2 := below_trans e1 b2; obtain ⟨x0_2, x1_2, x2_2, x3_2, x4_2, x5_2, x6_2, x7_2, x8_2, x9_2⟩ := K _ e2)
                      go_ret
                      exact ⟨ret_b hf.out.symm, below_trans bw e2⟩
                  · have c_f : FT = false := by simpa using c_tree
                    subst c_f
                    have hf := no (fun x => by have := x.2.2.2.2.2.1; cases this)
                    clear yes no hos
                    go_enter Try.func19, Try.ntmps19
                    go_wp2_with (go_at_call 14; refine (w_r9prims _).mono ?_; rintro e q1 ⟨u1, rfl, p1, b1⟩; have e1 := b1; have lp := slr_len p1 uM (P := Try.prog); rw [pl] at lp; obtain ⟨x0_1, x1_1, x2_1, x3_1, x4_1, x5_1, x6_1, x7_1, x8_1, x9_1⟩ := K _ e1)
                    go_wp2_with (go_at_call 46; refine (ct _ (below_trans bw e1)).mono ?_; rintro e q2 ⟨rfl, b2⟩; have e2 := below_trans e1 b2; obtain ⟨x0_2, x1_2, x2_2, x3_2, x4_2, x5_2, x6_2, x7_2, x8_2, x9_2⟩ := K _ e2)
                    go_ret
                    exact ⟨ret_b hf.out.symm, below_trans bw e2⟩
                · have hf := no (fun x => c_out (by have := x.2.2.2.2.1; omega))
                  clear yes no hos
                  go_enter Try.func19, Try.ntmps19
                  go_wp2_with (go_at_call 14; refine (w_r9prims _).mono ?_; rintro e q1 ⟨u1, rfl, p1, b1⟩; have e1 := b1; have lp := slr_len p1 uM (P := Try.prog); rw [pl] at lp; obtain ⟨x0_1, x1_1, x2_1, x3_1, x4_1, x5_1, x6_1, x7_1, x8_1, x9_1⟩ := K _ e1)
                  go_ret
                  exact ⟨ret_b hf.out.symm, below_trans bw e1⟩
              · have hf := no (fun x => c_b2 (x.2.2.2.1))
                clear yes no hos
                go_enter Try.func19, Try.ntmps19
                go_wp2_with (go_at_call 14; refine (w_r9prims _).mono ?_; rintro e q1 ⟨u1, rfl, p1, b1⟩; have e1 := b1; have lp := slr_len p1 uM (P := Try.prog); rw [pl] at lp; obtain ⟨x0_1, x1_1, x2_1, x3_1, x4_1, x5_1, x6_1, x7_1, x8_1, x9_1⟩ := K _ e1)
                go_ret
                exact ⟨ret_b hf.out.symm, below_trans bw e1⟩
            · have hf := no (fun x => c_b1 (x.2.2.1))
              clear yes no hos
              go_enter Try.func19, Try.ntmps19
              go_wp2_with (go_at_call 14; refine (w_r9prims _).mono ?_; rintro e q1 ⟨u1, rfl, p1, b1⟩; have e1 := b1; have lp := slr_len p1 uM (P := Try.prog); rw [pl] at lp; obtain ⟨x0_1, x1_1, x2_1, x3_1, x4_1, x5_1, x6_1, x7_1, x8_1, x9_1⟩ := K _ e1)
              go_ret
              exact ⟨ret_b hf.out.symm, below_trans bw e1⟩
          · have hf := no (fun x => c_codes (by have := x.2.2.2.2.2.2.2.2.2.2; unfold cdsF at this; simp only [Bool.and_eq_true, decide_eq_true_eq] at this; omega))
            clear yes no hos
            go_enter Try.func19, Try.ntmps19
            go_wp2_with (go_at_call 14; refine (w_r9prims _).mono ?_; rintro e q1 ⟨u1, rfl, p1, b1⟩; have e1 := b1; have lp := slr_len p1 uM (P := Try.prog); rw [pl] at lp; obtain ⟨x0_1, x1_1, x2_1, x3_1, x4_1, x5_1, x6_1, x7_1, x8_1, x9_1⟩ := K _ e1)
            go_ret
            exact ⟨ret_b hf.out.symm, below_trans bw e1⟩
        · have hf := no (fun x => c_wd2 (by have := x.2.2.2.2.2.2.2.2.2.1; unfold wdsF at this; simp only [Bool.and_eq_true, decide_eq_true_eq] at this; omega))
          clear yes no hos
          go_enter Try.func19, Try.ntmps19
          go_wp2_with (go_at_call 14; refine (w_r9prims _).mono ?_; rintro e q1 ⟨u1, rfl, p1, b1⟩; have e1 := b1; have lp := slr_len p1 uM (P := Try.prog); rw [pl] at lp; obtain ⟨x0_1, x1_1, x2_1, x3_1, x4_1, x5_1, x6_1, x7_1, x8_1, x9_1⟩ := K _ e1)
          go_ret
          exact ⟨ret_b hf.out.symm, below_trans bw e1⟩
      · have hf := no (fun x => c_wd1 (by have := x.2.2.2.2.2.2.2.2.2.1; unfold wdsF at this; simp only [Bool.and_eq_true, decide_eq_true_eq] at this; omega))
        clear yes no hos
        go_enter Try.func19, Try.ntmps19
        go_wp2_with (go_at_call 14; refine (w_r9prims _).mono ?_; rintro e q1 ⟨u1, rfl, p1, b1⟩; have e1 := b1; have lp := slr_len p1 uM (P := Try.prog); rw [pl] at lp; obtain ⟨x0_1, x1_1, x2_1, x3_1, x4_1, x5_1, x6_1, x7_1, x8_1, x9_1⟩ := K _ e1)
        go_ret
        exact ⟨ret_b hf.out.symm, below_trans bw e1⟩
    · have hf := no (fun x => c_mem (by have := x.2.1; omega))
      clear yes no hos
      go_enter Try.func19, Try.ntmps19
      go_wp2_with (go_at_call 14; refine (w_r9prims _).mono ?_; rintro e q1 ⟨u1, rfl, p1, b1⟩; have e1 := b1; have lp := slr_len p1 uM (P := Try.prog); rw [pl] at lp; obtain ⟨x0_1, x1_1, x2_1, x3_1, x4_1, x5_1, x6_1, x7_1, x8_1, x9_1⟩ := K _ e1)
      go_ret
      exact ⟨ret_b hf.out.symm, below_trans bw e1⟩
  · have hf := no (fun x => c_stack (by have := x.1; omega))
    clear yes no hos
    go_enter Try.func19, Try.ntmps19
    go_wp2_with (go_at_call 14; refine (w_r9prims _).mono ?_; rintro e q1 ⟨u1, rfl, p1, b1⟩; have e1 := b1; have lp := slr_len p1 uM (P := Try.prog); rw [pl] at lp; obtain ⟨x0_1, x1_1, x2_1, x3_1, x4_1, x5_1, x6_1, x7_1, x8_1, x9_1⟩ := K _ e1)
    go_ret
    exact ⟨ret_b hf.out.symm, below_trans bw e1⟩

end Go.Proofs.Ytfljcfpcokimcaa
