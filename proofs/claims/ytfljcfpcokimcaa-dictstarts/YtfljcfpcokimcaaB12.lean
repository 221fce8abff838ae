/-
  Texts of one proof, laid one behind the other: Rt3.
-/
import Derived.Test.YtfljcfpcokimcaaB11
namespace Go.Proofs.Ytfljcfpcokimcaa
open Go.ChangeShapes Go.WideShapes Go.ChangeAt Go.RowKit
set_option linter.unusedVariables false
set_option linter.unusedSimpArgs false

/-
  Formed of the document's answer for trees.
-/
/-- the first ones of a slice -/
theorem slr_head {α : Type} {P : Program} {R : World → List Value → α → Prop} {w : World} {v : Value} {xs : List α} {sz : Nat} (h : SlR sz R w v xs) {t : TypeId} (ht : P.underlying t = some (.slice (P.elem t))) (hs : ∀ w, (sizeOf (P.elem t)).run P w = .ok sz w) (n : Nat) (hn : n ≤ xs.length) :
    ∃ v', (∀ w', (Instr.slice t v none (some (.int .i64 (n : Int))) none).run P w' = .ok v' w') ∧ SlR sz R w v' (xs.take n) := by
  obtain ⟨rows, h1, h2, h3⟩ := h
  obtain ⟨ao, cap, rfl, hc, hno, hx⟩ := h1.form
  refine ⟨sliced ao 0 n cap sz, fun w' => ?_, rows.take n, ?_, by simp [h2], fun i hi => ?_⟩
  · rw [run_slice_h w' t ao rows.length cap ht .i64 (n : Int) (by omega) (by omega), hs]
    simp [Result.andThen]
  · rcases Nat.eq_zero_or_pos n with h0 | h0
    · subst h0
      refine Or.inl ⟨if cap = 0 then ao else ao.map (·.add (0 * sz)), cap, by simp [sliced], ?_, by simp⟩
      intro he
      by_cases hc0 : cap = 0
      · exact hc0
      · rw [if_neg hc0] at he
        cases ao with
        | none => exact hno rfl
        | some a => cases he
    · obtain ⟨hm, b, off, rfl, hcell⟩ := hx (by omega)
      have hl : (rows.take n).length = n := by simp; omega
      refine Or.inr ⟨b, off, cap, ?_, by omega, by omega, hm, fun i hi => ?_⟩
      · rw [sliced, hl, if_neg (by omega)]
        simp [Addr.add]
      · rw [hl] at hi
        have e : (rows.take n).getD i [] = rows.getD i [] := by
          rw [List.getD_eq_getElem?_getD, List.getD_eq_getElem?_getD, List.getElem?_take, if_pos hi]
        rw [e]
        exact hcell i (by omega)
  · have hi2 : i < n := by simp at hi; omega
    have e : (rows.take n).getD i [] = rows.getD i [] := by
      rw [List.getD_eq_getElem?_getD, List.getD_eq_getElem?_getD, List.getElem?_take, if_pos hi2]
    rw [e, List.getElem_take]
    exact h3 i (by simp at hi; omega)
theorem frm_bad {t : List Nd} (i : Nat) (h : i < t.length) (hb : okN t i t[i] = false) : frmT t = false := by
  rw [Bool.eq_false_iff]
  intro hf
  obtain ⟨_, _, _, g⟩ := (frm_iff t).1 hf
  have := g i h
  rw [hb] at this
  cases this
theorem frm_len {t : List Nd} (h : t.length = 0 ∨ 32 < t.length) : frmT t = false := by
  rw [Bool.eq_false_iff]
  intro hf
  obtain ⟨g0, g1, _⟩ := (frm_iff t).1 hf
  omega
theorem frm_root {t : List Nd} (h : 0 < t.length) (hb : rootF t[0] = false) : frmT t = false := by
  rw [Bool.eq_false_iff]
  intro hf
  obtain ⟨_, _, g, _⟩ := (frm_iff t).1 hf
  rw [hb] at g
  cases g
theorem okN_A {t : List Nd} {i : Nat} {x : Nd} (h0 : ¬ i = 0) (h : okA t i x = false) : okN t i x = false := by
  unfold okN
  rw [h, decide_eq_false h0]
  rfl
theorem okN_16 {t : List Nd} {i : Nat} {x : Nd} (h : 16 < x.2.2.2.1.length ∨ 16 < x.2.2.2.2.length) : okN t i x = false := by
  rw [Bool.eq_false_iff]
  intro g
  unfold okN at g
  simp only [Bool.and_eq_true, decide_eq_true_eq] at g
  omega
theorem okN_R {t : List Nd} {i : Nat} {x : Nd} (h : okR x.2.2.2.1 = false) : okN t i x = false := by
  unfold okN
  rw [h]
  simp
theorem okR_bad {l : List Pp} (k : Nat) (h : k < l.length) (hb : okP l k l[k] = false) : okR l = false := by
  rw [Bool.eq_false_iff]
  intro g
  unfold okR at g
  rw [decide_eq_true_eq] at g
  have := g k h
  rw [hb] at this
  cases this
theorem okA_bad {t : List Nd} {i : Nat} {x : Nd} (h : nmF x.1 = false ∨ 4 < x.2.1.length ∨ x.2.2.1 < 0 ∨ (i : Int) ≤ x.2.2.1 ∨ twF (t.take i) x.2.2.1 x.1 x.2.1 = true) : okA t i x = false := by
  rw [Bool.eq_false_iff]
  intro g
  unfold okA at g
  simp only [Bool.and_eq_true, decide_eq_true_eq, Bool.not_eq_true'] at g
  obtain ⟨g1, g2, g3, g4, g5⟩ := g
  rcases h with h | h | h | h | h
  · rw [g1] at h; cases h
  · omega
  · omega
  · omega
  · rw [g5] at h; cases h
theorem okP_bad {l : List Pp} {k : Nat} {x : Pp} (h : nmF x.1 = false ∨ 256 < x.2.length ∨ (0 : Int) ≤ fdI (pfF (l.take k) x.1)) : okP l k x = false := by
  rw [Bool.eq_false_iff]
  intro g
  unfold okP at g
  simp only [Bool.and_eq_true, decide_eq_true_eq, Option.isNone_iff_eq_none] at g
  obtain ⟨g1, g2, g3⟩ := g
  rcases h with h | h | h
  · rw [g1] at h; cases h
  · omega
  · rw [g3] at h
    unfold fdI at h
    simp at h
theorem okP_good {l : List Pp} {k : Nat} {x : Pp} (h1 : nmF x.1 = true) (h2 : ¬ 256 < x.2.length) (h3 : ¬ (0 : Int) ≤ fdI (pfF (l.take k) x.1)) : okP l k x = true := by
  unfold okP
  simp only [Bool.and_eq_true, decide_eq_true_eq, Option.isNone_iff_eq_none]
  refine ⟨h1, by omega, ?_⟩
  cases hp : pfF (l.take k) x.1 with
  | none => rfl
  | some j =>
    rw [hp] at h3
    unfold fdI at h3
    simp at h3

set_option maxHeartbeats 8000000 in
set_option maxRecDepth 100000 in
theorem w_r8formed (v : Value) (t : List Nd) (w : World) (h : RdT w v t) (bt : ∀ x ∈ t, bytN x) (ls : ∀ x ∈ t, x.1.length ≤ maxLen ∧ ∀ p ∈ x.2.2.2.1, p.1.length ≤ maxLen) :
    Calls Try.prog 46 #[v] w fun e w' => e = .returned (.bool (frmT t)) ∧ Below w.heap.size w w' := by
  have hla := slr_len h uN (P := Try.prog)
  have hm := slr_max h
  unfold maxLen at hm
  by_cases h0 : t.length = 0
  · have hf := hid (frm_len (Or.inl h0))
    have hl1 : (t.length : Int) < 1 := by omega
    clear h0
    go_enter Try.func46, Try.ntmps46
    go_wp2_with fail
    go_ret
    exact ⟨ret_b hf.out.symm, Below.refl _ _⟩
  · by_cases h32 : 32 < t.length
    · have hf := hid (frm_len (Or.inr h32))
      have hl1 : ¬ (t.length : Int) < 1 := by omega
      have hl2 : (32 : Int) < t.length := by omega
      clear h0 h32
      go_enter Try.func46, Try.ntmps46
      go_wp2_with fail
      go_ret
      exact ⟨ret_b hf.out.symm, Below.refl _ _⟩
    · have hl1 : ¬ (t.length : Int) < 1 := by omega
      have hl2 : ¬ (32 : Int) < t.length := by omega
      have ht0 : 0 < t.length := by omega
      obtain ⟨b0, o0, N0, u0, p0, k0, r0, z0, z1, z2, z3, z4, e0, hu0, hp0, hc0⟩ := nod_at h 0 ht0
      have r0' : ∀ w', (Instr.indexAt 29 v (.int .i64 0)).run Try.prog w' = .ok (.pointer (some ⟨b0, o0, none⟩)) w' := r0
      obtain ⟨ua0, uq0, rfl⟩ := rd_slice hu0
      have hN0 : L N0 = t[0].1 := by rw [← e0]; exact LB_nums _ (bt _ (List.getElem_mem ht0)).1
      have hNe : (N0.toList == []) = decide (t[0].1 = []) := by
        rw [← hN0, Bool.eq_iff_iff, beq_iff_eq, decide_eq_true_eq]
        unfold L
        rw [ByteArray.toList_eq]
        simp
      obtain ⟨P0, hP0⟩ : ∃ X, t[0].2.2.1 = X := ⟨_, rfl⟩
      rw [hP0] at z2
      obtain ⟨n0, hn0⟩ : ∃ n, t[0].2.1.length = n := ⟨_, rfl⟩
      rw [hn0] at z1
      by_cases g1 : t[0].1 = []
      · rw [decide_eq_true g1] at hNe
        have hNn : (N0.toList != []) = false := by simp [bne, hNe]
        have hNi : N0.toList.isEmpty = true := by rw [← hNe]; cases N0.toList <;> rfl
        by_cases g2 : t[0].2.1 = []
        · have hU0 : ¬ (0 : Int) < n0 := by rw [← hn0, g2]; simp
          by_cases g3 : t[0].2.2.1 = -1
          · have hP1 : (P0 != -1) = false := by rw [← hP0, g3]; decide
            have hroot : Hid (rootF t[0] = true) := by show _ = _; unfold rootF; simp [g1, g2, g3]
            have hlen32 : Hid (t.length ≤ 32 ∧ 1 ≤ t.length) := ⟨by omega, by omega⟩
            clear g1 g2 g3 hP0 hNe hN0 e0 r0 h0 h32 hn0 hu0
            go_enter Try.func46, Try.ntmps46
            go_wp2_with fail
            go_loopw [3] (fun I wx => ∃ i : Nat, (i : Int) ≤ t.length ∧ I = .int .i64 i ∧ Hid (∀ j (g : j < i) (hj : j < t.length), okN t j t[j] = true) ∧ Below w.heap.size w wx) (fun I _ => (t.length - intOf I).toNat)
            case atStart => exact ⟨0, by omega, rfl, hid (fun j g => by omega), Below.refl _ _⟩
            case round =>
              obtain ⟨i, hi, rfl, hok, hb⟩ := hrel
              by_cases hlt : (i : Int) < t.length
              · have hil : i < t.length := by omega
                obtain ⟨b1, o1, nm, u1, p1, c1, r1, f0, f1, f2, f3, f4, e1, hu1, hp1, hc1⟩ := nod_at h i hil
                obtain ⟨ua, uq, rfl⟩ := rd_slice hu1
                obtain ⟨pa, pq, rfl⟩ := slr_slice hp1
                obtain ⟨ca, cq, rfl⟩ := rd_slice hc1
                obtain ⟨P, hP⟩ : ∃ X, t[i].2.2.1 = X := ⟨_, rfl⟩
                rw [hP] at f2
                have l0 := below_cell hb f0
                have l1 := below_cell hb f1
                have l2 := below_cell hb f2
                have l3 := below_cell hb f3
                have l4 := below_cell hb f4
                clear f0 f1 f2 f3 f4
                have hNL : L nm = t[i].1 := by rw [← e1]; exact LB_nums _ (bt _ (List.getElem_mem hil)).1
                have cn := fun w => w_rnamedQ nm w (by rw [← L_len, hNL]; exact (ls _ (List.getElem_mem hil)).1)
                have ct := fun W (g : Below w.heap.size w W) => w_r8twin v t i P nm _ t[i].2.1 W (h.below g) (hu1.below g) bt (by omega)
                simp only [hNL] at cn ct
                have st0 := stands_new wr #[.string nm, .slice ua t[i].2.1.length uq, .int .i64 P, .slice pa t[i].2.2.2.1.length pq, .slice ca t[i].2.2.2.2.length cq] 91
                have hbx := box_below wr (.cells #[.string nm, .slice ua t[i].2.1.length uq, .int .i64 P, .slice pa t[i].2.2.2.1.length pq, .slice ca t[i].2.2.2.2.length cq] 91)
                have hb0 := below_trans hb hbx
                have bad := fun (h0 : ¬ i = 0) g => hid (frm_bad i hil (okN_A h0 (okA_bad g)))
                by_cases hz : i = 0
                · have hi0 : ¬ (0 : Int) < i := by omega
                  have hA : Hid ((decide (i = 0) || okA t i t[i]) = true) := by show _ = _; rw [decide_eq_true hz]; rfl
                  clear bad cn ct hNL e1 hP hz
                  go_upto_region 9 with (fail)
                  obtain ⟨W0, hW0⟩ : ∃ W0, wr.alloc (.cells #[.string nm, .slice ua t[i].2.1.length uq, .int .i64 P, .slice pa t[i].2.2.2.1.length pq, .slice ca t[i].2.2.2.2.length cq] 91) = W0 := ⟨_, rfl⟩
                  rw [hW0] at st0 hb0 ⊢
                  clear hW0 hbx l0 l1 l2 l3 l4
                  have m3 := st0.cell 3 _ rfl
                  have m4 := st0.cell 4 _ rfl
                  by_cases hp16 : 16 < t[i].2.2.2.1.length
                  · have hf := hid (frm_bad i hil (okN_16 (Or.inl hp16)))
                    have y1 : (16 : Int) < t[i].2.2.2.1.length := by omega
                    go_wp2_with fail
                    go_ret
                    exact ⟨ret_b hf.out.symm, hb0⟩
                  · have y1 : ¬ (16 : Int) < t[i].2.2.2.1.length := by omega
                    by_cases hc16 : 16 < t[i].2.2.2.2.length
                    · have hf := hid (frm_bad i hil (okN_16 (Or.inr hc16)))
                      have y2 : (16 : Int) < t[i].2.2.2.2.length := by omega
                      go_wp2_with fail
                      go_ret
                      exact ⟨ret_b hf.out.symm, hb0⟩
                    · have y2 : ¬ (16 : Int) < t[i].2.2.2.2.length := by omega
                      have h16 : Hid (t[i].2.2.2.1.length ≤ 16 ∧ t[i].2.2.2.2.length ≤ 16) := ⟨by omega, by omega⟩
                      go_wp2_with fail
                      go_loopw [5] (fun K wx => ∃ k : Nat, (k : Int) ≤ t[i].2.2.2.1.length ∧ K = .int .i64 k ∧ Hid (∀ m (g : m < k) (hm : m < t[i].2.2.2.1.length), okP t[i].2.2.2.1 m t[i].2.2.2.1[m] = true) ∧ Below W0.heap.size W0 wx) (fun K _ => (t[i].2.2.2.1.length - intOf K).toNat)
                      case atStart => exact ⟨0, by omega, rfl, hid (fun m g => by omega), Below.refl _ _⟩
                      case round =>
                        obtain ⟨k, hk, rfl, hkp, hgk⟩ := hrel
                        have bk := below_trans hb0 hgk
                        have sk := st0.below hgk
                        have j3 := sk.cell 3 _ rfl
                        by_cases hkt : (k : Int) < t[i].2.2.2.1.length
                        · have hkl : k < t[i].2.2.2.1.length := by omega
                          have hpk := hp1.below bk (propR_below bk)
                          obtain ⟨bp, op, pn, vd, rp, s0, s1, en, hd⟩ := prp_at8 hpk k hkl
                          obtain ⟨da, dq, rfl⟩ := rd_slice hd
                          obtain ⟨vt, it, rt⟩ := slr_head hpk uR zR k (by omega)
                          have hpL : L pn = t[i].2.2.2.1[k].1 := by rw [← en]; exact LB_nums _ (((bt _ (List.getElem_mem hil)).2 _ (List.getElem_mem hkl)).1)
                          have cn9 := fun w => w_rnamedQ pn w (by rw [← L_len, hpL]; exact (ls _ (List.getElem_mem hil)).2 _ (List.getElem_mem hkl))
                          have cf9 := fun W (g : Below wr.heap.size wr W) => w_r8find vt _ pn W (rt.below g (propR_below g)) (fun x hx => ((bt _ (List.getElem_mem hil)).2 x (List.mem_of_mem_take hx)).1)
                          simp only [hpL] at cn9 cf9
                          have bad : okP t[i].2.2.2.1 k t[i].2.2.2.1[k] = false → Hid (frmT t = false) := fun g => frm_bad i hil (okN_R (okR_bad k hkl g))
                          cases hnm : nmF t[i].2.2.2.1[k].1
                          · have hf := bad (okP_bad (Or.inl hnm))
                            rw [hnm] at cn9
                            clear hnm bad cf9 en hpL
                            go_wp2_with fail
                            go_quiet (first | (go_at_call 78; exact Calls.quiet_of (cn9 _)))
                            go_wp2_with fail
                            go_ret
                            exact ⟨ret_b hf.out.symm, below_drewN bk _⟩
                          · rw [hnm] at cn9
                            by_cases hd256 : 256 < t[i].2.2.2.1[k].2.length
                            · have hf := bad (okP_bad (Or.inr (Or.inl hd256)))
                              have y5 : (256 : Int) < t[i].2.2.2.1[k].2.length := by omega
                              clear hnm bad cf9 en hpL hd256
                              go_wp2_with fail
                              go_quiet (first | (go_at_call 78; exact Calls.quiet_of (cn9 _)))
                              go_wp2_with fail
                              go_ret
                              exact ⟨ret_b hf.out.symm, below_drewN bk _⟩
                            · have y5 : ¬ (256 : Int) < t[i].2.2.2.1[k].2.length := by omega
                              have good : ¬ (0 : Int) ≤ fdI (pfF (t[i].2.2.2.1.take k) t[i].2.2.2.1[k].1) → okP t[i].2.2.2.1 k t[i].2.2.2.1[k] = true := okP_good hnm hd256
                              have bad2 := fun g => bad (okP_bad (Or.inr (Or.inr g)))
                              obtain ⟨F, hF⟩ : ∃ F, fdI (pfF (t[i].2.2.2.1.take k) t[i].2.2.2.1[k].1) = F := ⟨_, rfl⟩
                              rw [hF] at good bad2
                              simp only [hF] at cf9
                              by_cases hF0 : 0 ≤ F
                              · have hf := bad2 hF0
                                clear hnm bad bad2 good en hpL hd256 hF
                                go_wp2_with fail
                                go_quiet (first | (go_at_call 78; exact Calls.quiet_of (cn9 _)) | (go_at_call 80; exact Calls.quiet_of_same (cf9 _ (below_drewN (Below.refl _ _) _))))
                                go_wp2_with fail
                                go_ret
                                exact ⟨ret_b hf.out.symm, below_drewN bk _⟩
                              · have hkp2 : Hid (∀ m (g : m < k + 1) (hm : m < t[i].2.2.2.1.length), okP t[i].2.2.2.1 m t[i].2.2.2.1[m] = true) := by
                                  show ∀ m _ _, _
                                  intro m g hm
                                  by_cases hmk : m < k
                                  · exact hkp.out m hmk hm
                                  · have : m = k := by omega
                                    subst this
                                    exact good hF0
                                clear hnm bad bad2 good en hpL hd256 hF
                                go_wp2_with fail
                                go_quiet (first | (go_at_call 78; exact Calls.quiet_of (cn9 _)) | (go_at_call 80; exact Calls.quiet_of_same (cf9 _ (below_drewN (Below.refl _ _) _))))
                                go_wp2_with fail
                                go_roundw
                                case rel => exact ⟨k + 1, by omega, by go_num, hkp2, below_drewN hgk _⟩
                                case measure => simp [intOf]; omega
                        · have hok2 : Hid (∀ j (g : j < i + 1) (hj : j < t.length), okN t j t[j] = true) := by
                            show ∀ j _ _, _
                            intro j g hj
                            by_cases hji : j < i
                            · exact hok.out j hji hj
                            · have : j = i := by omega
                              subst this
                              have hR : okR t[j].2.2.2.1 = true := by unfold okR; rw [decide_eq_true_eq]; exact fun m hm => hkp.out m (by omega) hm
                              unfold okN
                              rw [hR, decide_eq_true h16.out.1, decide_eq_true h16.out.2]
                              have := hA.out
                              simpa using this
                          go_wp2_with fail
                          go_roundw
                          case rel => exact ⟨i + 1, by omega, by go_num, hok2, bk⟩
                          case measure => simp [intOf]; omega
                · have hi0 : (0 : Int) < i := by omega
                  have a3 := st0.cell 0 _ rfl
                  cases hnm : nmF t[i].1
                  · have hf := bad hz (Or.inl hnm)
                    rw [hnm] at cn
                    clear bad ct hNL e1 hP hz hnm
                    go_wp2_with (go_at_call 78; refine (cn _).mono ?_; rintro e q1 ⟨rfl, d1⟩; have st1 := st0.below (dr_below d1); have a1 := st1.cell 1 _ rfl; have a2 := st1.cell 2 _ rfl; have a0 := st1.cell 0 _ rfl; have bb1 := below_trans hb0 (dr_below d1))
                    go_ret
                    exact ⟨ret_b hf.out.symm, bb1⟩
                  · rw [hnm] at cn
                    by_cases hu4 : 4 < t[i].2.1.length
                    · have hf := bad hz (Or.inr (Or.inl hu4))
                      have y0 : (4 : Int) < t[i].2.1.length := by omega
                      clear bad ct hNL e1 hP hz hnm hu4
                      go_wp2_with (go_at_call 78; refine (cn _).mono ?_; rintro e q1 ⟨rfl, d1⟩; have st1 := st0.below (dr_below d1); have a1 := st1.cell 1 _ rfl; have a2 := st1.cell 2 _ rfl; have a0 := st1.cell 0 _ rfl; have bb1 := below_trans hb0 (dr_below d1))
                      go_ret
                      exact ⟨ret_b hf.out.symm, bb1⟩
                    · have y0 : ¬ (4 : Int) < t[i].2.1.length := by omega
                      by_cases hp0 : P < 0
                      · have hf := bad hz (Or.inr (Or.inr (Or.inl (by rw [hP]; exact hp0))))
                        clear bad ct hNL e1 hP hz hnm hu4
                        go_wp2_with (go_at_call 78; refine (cn _).mono ?_; rintro e q1 ⟨rfl, d1⟩; have st1 := st0.below (dr_below d1); have a1 := st1.cell 1 _ rfl; have a2 := st1.cell 2 _ rfl; have a0 := st1.cell 0 _ rfl; have bb1 := below_trans hb0 (dr_below d1))
                        go_ret
                        exact ⟨ret_b hf.out.symm, bb1⟩
                      · by_cases hpi : (i : Int) ≤ P
                        · have hf := bad hz (Or.inr (Or.inr (Or.inr (Or.inl (by rw [hP]; exact hpi)))))
                          clear bad ct hNL e1 hP hz hnm hu4
                          go_wp2_with (go_at_call 78; refine (cn _).mono ?_; rintro e q1 ⟨rfl, d1⟩; have st1 := st0.below (dr_below d1); have a1 := st1.cell 1 _ rfl; have a2 := st1.cell 2 _ rfl; have a0 := st1.cell 0 _ rfl; have bb1 := below_trans hb0 (dr_below d1))
                          go_ret
                          exact ⟨ret_b hf.out.symm, bb1⟩
                        · cases htw : twF (t.take i) P t[i].1 t[i].2.1
                          · simp only [htw] at ct
                            have hA : Hid ((decide (i = 0) || okA t i t[i]) = true) := by
                              show _ = _
                              unfold okA
                              rw [hnm, hP, htw]
                              simp
                              omega
                            clear bad hNL e1 hP hz hnm hu4 htw
                            go_upto_region 9 with (first | (go_at_call 78; refine (cn _).mono ?_; rintro e q1 ⟨rfl, d1⟩; have st1 := st0.below (dr_below d1); have a1 := st1.cell 1 _ rfl; have a2 := st1.cell 2 _ rfl; have a0 := st1.cell 0 _ rfl; have bb1 := below_trans hb0 (dr_below d1)) | (go_at_call 79; refine (ct _ bb1).mono ?_; rintro e q2 ⟨rfl, d2⟩; have bb2 := below_trans bb1 (dr_below d2); have st2 := st1.below (dr_below d2)))
                            clear hbx l0 l1 l2 l3 l4
                            have m3 := st2.cell 3 _ rfl
                            have m4 := st2.cell 4 _ rfl
                            by_cases hp16 : 16 < t[i].2.2.2.1.length
                            · have hf := hid (frm_bad i hil (okN_16 (Or.inl hp16)))
                              have y1 : (16 : Int) < t[i].2.2.2.1.length := by omega
                              go_wp2_with fail
                              go_ret
                              exact ⟨ret_b hf.out.symm, bb2⟩
                            · have y1 : ¬ (16 : Int) < t[i].2.2.2.1.length := by omega
                              by_cases hc16 : 16 < t[i].2.2.2.2.length
                              · have hf := hid (frm_bad i hil (okN_16 (Or.inr hc16)))
                                have y2 : (16 : Int) < t[i].2.2.2.2.length := by omega
                                go_wp2_with fail
                                go_ret
                                exact ⟨ret_b hf.out.symm, bb2⟩
                              · have y2 : ¬ (16 : Int) < t[i].2.2.2.2.length := by omega
                                have h16 : Hid (t[i].2.2.2.1.length ≤ 16 ∧ t[i].2.2.2.2.length ≤ 16) := ⟨by omega, by omega⟩
                                go_wp2_with fail
                                go_loopw [5] (fun K wx => ∃ k : Nat, (k : Int) ≤ t[i].2.2.2.1.length ∧ K = .int .i64 k ∧ Hid (∀ m (g : m < k) (hm : m < t[i].2.2.2.1.length), okP t[i].2.2.2.1 m t[i].2.2.2.1[m] = true) ∧ Below q2.heap.size q2 wx) (fun K _ => (t[i].2.2.2.1.length - intOf K).toNat)
                                case atStart => exact ⟨0, by omega, rfl, hid (fun m g => by omega), Below.refl _ _⟩
                                case round =>
                                  obtain ⟨k, hk, rfl, hkp, hgk⟩ := hrel
                                  have bk := below_trans bb2 hgk
                                  have sk := st2.below hgk
                                  have j3 := sk.cell 3 _ rfl
                                  by_cases hkt : (k : Int) < t[i].2.2.2.1.length
                                  · have hkl : k < t[i].2.2.2.1.length := by omega
                                    have hpk := hp1.below bk (propR_below bk)
                                    obtain ⟨bp, op, pn, vd, rp, s0, s1, en, hd⟩ := prp_at8 hpk k hkl
                                    obtain ⟨da, dq, rfl⟩ := rd_slice hd
                                    obtain ⟨vt, it, rt⟩ := slr_head hpk uR zR k (by omega)
                                    have hpL : L pn = t[i].2.2.2.1[k].1 := by rw [← en]; exact LB_nums _ (((bt _ (List.getElem_mem hil)).2 _ (List.getElem_mem hkl)).1)
                                    have cn9 := fun w => w_rnamedQ pn w (by rw [← L_len, hpL]; exact (ls _ (List.getElem_mem hil)).2 _ (List.getElem_mem hkl))
                                    have cf9 := fun W (g : Below wr.heap.size wr W) => w_r8find vt _ pn W (rt.below g (propR_below g)) (fun x hx => ((bt _ (List.getElem_mem hil)).2 x (List.mem_of_mem_take hx)).1)
                                    simp only [hpL] at cn9 cf9
                                    have bad : okP t[i].2.2.2.1 k t[i].2.2.2.1[k] = false → Hid (frmT t = false) := fun g => frm_bad i hil (okN_R (okR_bad k hkl g))
                                    cases hnm : nmF t[i].2.2.2.1[k].1
                                    · have hf := bad (okP_bad (Or.inl hnm))
                                      rw [hnm] at cn9
                                      clear hnm bad cf9 en hpL
                                      go_wp2_with fail
                                      go_quiet (first | (go_at_call 78; exact Calls.quiet_of (cn9 _)))
                                      go_wp2_with fail
                                      go_ret
                                      exact ⟨ret_b hf.out.symm, below_drewN bk _⟩
                                    · rw [hnm] at cn9
                                      by_cases hd256 : 256 < t[i].2.2.2.1[k].2.length
                                      · have hf := bad (okP_bad (Or.inr (Or.inl hd256)))
                                        have y5 : (256 : Int) < t[i].2.2.2.1[k].2.length := by omega
                                        clear hnm bad cf9 en hpL hd256
                                        go_wp2_with fail
                                        go_quiet (first | (go_at_call 78; exact Calls.quiet_of (cn9 _)))
                                        go_wp2_with fail
                                        go_ret
                                        exact ⟨ret_b hf.out.symm, below_drewN bk _⟩
                                      · have y5 : ¬ (256 : Int) < t[i].2.2.2.1[k].2.length := by omega
                                        have good : ¬ (0 : Int) ≤ fdI (pfF (t[i].2.2.2.1.take k) t[i].2.2.2.1[k].1) → okP t[i].2.2.2.1 k t[i].2.2.2.1[k] = true := okP_good hnm hd256
                                        have bad2 := fun g => bad (okP_bad (Or.inr (Or.inr g)))
                                        obtain ⟨F, hF⟩ : ∃ F, fdI (pfF (t[i].2.2.2.1.take k) t[i].2.2.2.1[k].1) = F := ⟨_, rfl⟩
                                        rw [hF] at good bad2
                                        simp only [hF] at cf9
                                        by_cases hF0 : 0 ≤ F
                                        · have hf := bad2 hF0
                                          clear hnm bad bad2 good en hpL hd256 hF
                                          go_wp2_with fail
                                          go_quiet (first | (go_at_call 78; exact Calls.quiet_of (cn9 _)) | (go_at_call 80; exact Calls.quiet_of_same (cf9 _ (below_drewN (Below.refl _ _) _))))
                                          go_wp2_with fail
                                          go_ret
                                          exact ⟨ret_b hf.out.symm, below_drewN bk _⟩
                                        · have hkp2 : Hid (∀ m (g : m < k + 1) (hm : m < t[i].2.2.2.1.length), okP t[i].2.2.2.1 m t[i].2.2.2.1[m] = true) := by
                                            show ∀ m _ _, _
                                            intro m g hm
                                            by_cases hmk : m < k
                                            · exact hkp.out m hmk hm
                                            · have : m = k := by omega
                                              subst this
                                              exact good hF0
                                          clear hnm bad bad2 good en hpL hd256 hF
                                          go_wp2_with fail
                                          go_quiet (first | (go_at_call 78; exact Calls.quiet_of (cn9 _)) | (go_at_call 80; exact Calls.quiet_of_same (cf9 _ (below_drewN (Below.refl _ _) _))))
                                          go_wp2_with fail
                                          go_roundw
                                          case rel => exact ⟨k + 1, by omega, by go_num, hkp2, below_drewN hgk _⟩
                                          case measure => simp [intOf]; omega
                                  · have hok2 : Hid (∀ j (g : j < i + 1) (hj : j < t.length), okN t j t[j] = true) := by
                                      show ∀ j _ _, _
                                      intro j g hj
                                      by_cases hji : j < i
                                      · exact hok.out j hji hj
                                      · have : j = i := by omega
                                        subst this
                                        have hR : okR t[j].2.2.2.1 = true := by unfold okR; rw [decide_eq_true_eq]; exact fun m hm => hkp.out m (by omega) hm
                                        unfold okN
                                        rw [hR, decide_eq_true h16.out.1, decide_eq_true h16.out.2]
                                        have := hA.out
                                        simpa using this
                                    go_wp2_with fail
                                    go_roundw
                                    case rel => exact ⟨i + 1, by omega, by go_num, hok2, bk⟩
                                    case measure => simp [intOf]; omega
                          · have hf := bad hz (Or.inr (Or.inr (Or.inr (Or.inr (by rw [hP]; exact htw)))))
                            simp only [htw] at ct
                            clear bad hNL e1 hP hz hnm hu4 htw
                            go_wp2_with (first | (go_at_call 78; refine (cn _).mono ?_; rintro e q1 ⟨rfl, d1⟩; have st1 := st0.below (dr_below d1); have a1 := st1.cell 1 _ rfl; have a2 := st1.cell 2 _ rfl; have a0 := st1.cell 0 _ rfl; have bb1 := below_trans hb0 (dr_below d1)) | (go_at_call 79; refine (ct _ bb1).mono ?_; rintro e q2 ⟨rfl, d2⟩; have bb2 := below_trans bb1 (dr_below d2); have st2 := st1.below (dr_below d2)))
                            go_ret
                            exact ⟨ret_b hf.out.symm, bb2⟩
              · have hf : Hid (frmT t = true) := by
                  show _ = _
                  rw [frm_iff]
                  exact ⟨hlen32.out.2, hlen32.out.1, hroot.out, fun j hj => hok.out j (by omega) hj⟩
                go_wp2_with fail
                go_ret
                exact ⟨ret_b hf.out.symm, hb⟩
          · have hP1 : (P0 != -1) = true := by rw [← hP0]; simpa using g3
            have hf := hid (frm_root ht0 (show rootF t[0] = false by unfold rootF; simp [g3]))
            clear g1 g2 g3 hP0 hNe hN0 e0 r0 h0 h32 hn0 hu0
            go_enter Try.func46, Try.ntmps46
            go_wp2_with fail
            go_ret
            exact ⟨ret_b hf.out.symm, Below.refl _ _⟩
        · have hU0 : (0 : Int) < n0 := by have := List.length_pos_iff.2 g2; omega
          have hf := hid (frm_root ht0 (show rootF t[0] = false by unfold rootF; simp [g2]))
          clear g1 g2 hP0 hNe hN0 e0 r0 h0 h32 hn0 hu0
          go_enter Try.func46, Try.ntmps46
          go_wp2_with fail
          go_ret
          exact ⟨ret_b hf.out.symm, Below.refl _ _⟩
      · rw [decide_eq_false g1] at hNe
        have hNn : (N0.toList != []) = true := by simp [bne, hNe]
        have hNi : N0.toList.isEmpty = false := by rw [← hNe]; cases N0.toList <;> rfl
        have hf := hid (frm_root ht0 (show rootF t[0] = false by unfold rootF; simp [g1]))
        clear g1 hP0 hNe hN0 e0 r0 h0 h32 hn0 hu0
        go_enter Try.func46, Try.ntmps46
        go_wp2_with fail
        go_ret
        exact ⟨ret_b hf.out.symm, Below.refl _ _⟩

end Go.Proofs.Ytfljcfpcokimcaa
