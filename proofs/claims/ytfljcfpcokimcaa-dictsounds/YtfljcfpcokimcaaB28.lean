/-
  Texts of one proof, laid one behind the other: Dp6.
-/
import Derived.Test.YtfljcfpcokimcaaB27
namespace Go.Proofs.Ytfljcfpcokimcaa
open Go.ChangeShapes Go.WideShapes Go.ChangeAt Go.RowKit
set_option linter.unusedVariables false
set_option linter.unusedSimpArgs false

/-
  Package dict's Formed.
-/
theorem uA9 : Try.prog.underlying 25 = some (.slice (Try.prog.elem 25)) := by kernel_rfl
theorem gW.ok {x : Wd} (h : gW x) : okV x := ⟨h.byt, h.len, fun y hy => (h.ops y hy).2, h.num⟩
theorem mch_cells9 {q : World} {b : Nat} {v : Mv} {m : Mc} {o : ByteArray} {T : TypeId} (h : Stands q b (v.cs m o) T) :
    q.cell? ⟨b, 0, none⟩ = some v.vs ∧ q.cell? ⟨b, 1, none⟩ = some v.vm ∧ q.cell? ⟨b, 2, none⟩ = some v.vw ∧ q.cell? ⟨b, 3, none⟩ = some v.vc ∧ q.cell? ⟨b, 4, none⟩ = some (.int .u32 m.base) ∧ q.cell? ⟨b, 5, none⟩ = some v.vt ∧ q.cell? ⟨b, 6, none⟩ = some (.int .i64 m.node) ∧ q.cell? ⟨b, 7, none⟩ = some v.vi ∧ q.cell? ⟨b, 8, none⟩ = some (.int .i64 m.self) ∧ q.cell? ⟨b, 9, none⟩ = some (.string o) :=
  ⟨h.cell 0 _ rfl, h.cell 1 _ rfl, h.cell 2 _ rfl, h.cell 3 _ rfl, h.cell 4 _ rfl, h.cell 5 _ rfl, h.cell 6 _ rfl, h.cell 7 _ rfl, h.cell 8 _ rfl, h.cell 9 _ rfl⟩
theorem frm_as (m : Mc) : frmM m = (decide (m.stack.length ≤ 64) && (decide (m.mem.length ≤ 4096) && (decide (m.out.length ≤ 1024) && (decide (2 ≤ m.base) && (decide (m.base ≤ 36) && (frmT m.tree && (decide (-1 ≤ m.node ∧ m.node < m.tree.length) && (wdsF m.words m.tree && (cdsF m.codes m.words.length && (insF m.insts m.tree && noaF m.insts m.self)))))))))) := by
  have hI : (insF m.insts m.tree && (decide (m.self = -1) || alvF m.insts m.self)) = (insF m.insts m.tree && noaF m.insts m.self) := by
    cases h : insF m.insts m.tree
    · rfl
    · rw [Bool.true_and, Bool.true_and]
      rw [insF_as] at h
      unfold inpF at h
      simp only [Bool.and_eq_true] at h
      exact (noa_paK h.2.1 m.self).symm
  unfold frmM
  rw [Bool.eq_iff_iff]
  simp only [Bool.and_eq_true, decide_eq_true_eq]
  have hI2 : (insF m.insts m.tree = true ∧ (decide (m.self = -1) || alvF m.insts m.self) = true) ↔ (insF m.insts m.tree = true ∧ noaF m.insts m.self = true) := by
    rw [← Bool.and_eq_true, ← Bool.and_eq_true, hI]
  constructor
  · rintro ⟨⟨a1, a2, a3, a4, a5⟩, a6, a7, a8, a9, a10, a11⟩
    have := hI2.1 ⟨a8, a9⟩
    exact ⟨a1, a2, a5, a3, a4, a6, a7, a10, a11, this.1, this.2⟩
  · rintro ⟨a1, a2, a5, a3, a4, a6, a7, a10, a11, a8, a9⟩
    have := hI2.2 ⟨a8, a9⟩
    exact ⟨⟨a1, a2, a3, a4, a5⟩, a6, a7, this.1, this.2, a10, a11⟩

set_option maxHeartbeats 8000000 in
set_option maxRecDepth 100000 in
theorem w_p9formed' (m : Mc) (v : Mv) (o : ByteArray) (w : World) (h : RdM w v m o) (g : gM m) :
    Calls Try.prog 18 #[.agg (v.cs m o)] w fun e w' => e = .returned (.bool (frmM m)) ∧ Below w.heap.size w w' := by
  have st := stands_new w (v.cs m o) 32
  have bw := box_below w (.cells (v.cs m o) 32)
  have K := fun q (g : Below (w.alloc (.cells (v.cs m o) 32)).heap.size (w.alloc (.cells (v.cs m o) 32)) q) => mch_cells9 (st.below g)
  have l1 := rd_len h.stack uU (P := Try.prog)
  have l2 := rd_len h.mem uA9 (P := Try.prog)
  have l3 := slr_len h.words uW (P := Try.prog)
  have l5 := slr_len h.tree uN (P := Try.prog)
  have hos : (m.out.length : Int) = o.size := by rw [← L_len, show L o = m.out by rw [← h.out]; exact LB_nums _ g.out]
  have ct := fun W (b : Below w.heap.size w W) => w_p8formed' v.vt m.tree W (h.tree.below b) (fun x hx => (g.tree x hx).1) (fun x hx => (g.tree x hx).2.1)
  have cb := fun W => w_pnob m.node m.tree.length W
  have cw := fun W (b : Below w.heap.size w W) => w_pwords v.vw v.vt m.words m.tree W (h.words.below b) (h.tree.below b) (fun x hx => (g.words x hx).ok)
  have cc := fun W (b : Below w.heap.size w W) => w_pcodes v.vc m.codes m.words.length W (h.codes.below b)
  have ci := fun W (b : Below w.heap.size w W) => w_pinsts v.vi v.vt m.insts m.tree W (h.insts.below b) (h.tree.below b) (fun x hx => (g.insts x hx).byt)
  have ca := fun W (b : Below w.heap.size w W) => w_pnoal v.vi m.insts m.self W (h.insts.below b)
  obtain ⟨R, hR⟩ : ∃ R, frmM m = R := ⟨_, rfl⟩
  rw [hR]
  rw [frm_as] at hR
  have gb := g.base
  obtain ⟨BA, hBA⟩ : ∃ X, m.base = X := ⟨_, rfl⟩
  obtain ⟨ND, hND⟩ : ∃ X, m.node = X := ⟨_, rfl⟩
  obtain ⟨SE, hSE⟩ : ∃ X, m.self = X := ⟨_, rfl⟩
  obtain ⟨U, hU⟩ : ∃ X, v.cs m o = X := ⟨_, rfl⟩
  simp only [hBA, hND, hSE, hU] at hR ca cb K bw gb ⊢
  obtain ⟨FT, hFT⟩ : ∃ X, frmT m.tree = X := ⟨_, rfl⟩
  obtain ⟨FN, hFN⟩ : ∃ X, decide (-1 ≤ ND ∧ ND < (m.tree.length : Int)) = X := ⟨_, rfl⟩
  obtain ⟨FW, hFW⟩ : ∃ X, wdsF m.words m.tree = X := ⟨_, rfl⟩
  obtain ⟨FC, hFC⟩ : ∃ X, cdsF m.codes m.words.length = X := ⟨_, rfl⟩
  obtain ⟨FI, hFI⟩ : ∃ X, insF m.insts m.tree = X := ⟨_, rfl⟩
  obtain ⟨FA, hFA⟩ : ∃ X, noaF m.insts SE = X := ⟨_, rfl⟩
  simp only [hFT, hFN, hFW, hFC, hFI, hFA] at hR ct cb cw cc ci ca
  obtain ⟨f0, f1, f2, f3, f4, f5, f6, f7, f8, f9⟩ := K _ (Below.refl _ _)
  obtain ⟨n1, hn1⟩ : ∃ n, m.stack.length = n := ⟨_, rfl⟩
  obtain ⟨n2, hn2⟩ : ∃ n, m.mem.length = n := ⟨_, rfl⟩
  obtain ⟨n9, hn9⟩ : ∃ n, m.out.length = n := ⟨_, rfl⟩
  rw [hn1] at hR l1
  rw [hn2] at hR l2
  rw [hn9] at hR hos
  clear hBA hND hSE hU hFT hFN hFW hFC hFI hFA st hn1 hn2 hn9
  by_cases c_stack : (64 : Int) < n1
  · have q_stack : decide ((64 : Int) < n1) = true := decide_eq_true c_stack
    have hF : R = false := by rw [← hR, decide_eq_false (by omega : ¬ n1 ≤ 64), Bool.false_and]
    subst hF
    clear hR
    go_enter Try.func18, Try.ntmps18
    go_wp2_with fail
    go_ret
    exact ⟨rfl, bw⟩
  · have q_stack : decide ((64 : Int) < n1) = false := decide_eq_false c_stack
    rw [decide_eq_true (by omega : n1 ≤ 64), Bool.true_and] at hR
    by_cases c_mem : (4096 : Int) < n2
    · have q_mem : decide ((4096 : Int) < n2) = true := decide_eq_true c_mem
      have hF : R = false := by rw [← hR, decide_eq_false (by omega : ¬ n2 ≤ 4096), Bool.false_and]
      subst hF
      clear hR
      go_enter Try.func18, Try.ntmps18
      go_wp2_with fail
      go_ret
      exact ⟨rfl, bw⟩
    · have q_mem : decide ((4096 : Int) < n2) = false := decide_eq_false c_mem
      rw [decide_eq_true (by omega : n2 ≤ 4096), Bool.true_and] at hR
      by_cases c_out : (1024 : Int) < o.size
      · have q_out : decide ((1024 : Int) < o.size) = true := decide_eq_true c_out
        have hF : R = false := by rw [← hR, decide_eq_false (by omega : ¬ n9 ≤ 1024), Bool.false_and]
        subst hF
        clear hR
        go_enter Try.func18, Try.ntmps18
        go_wp2_with fail
        go_ret
        exact ⟨rfl, bw⟩
      · have q_out : decide ((1024 : Int) < o.size) = false := decide_eq_false c_out
        rw [decide_eq_true (by omega : n9 ≤ 1024), Bool.true_and] at hR
        by_cases c_b2 : BA < 2
        · have q_b2 : decide (BA < 2) = true := decide_eq_true c_b2
          have hF : R = false := by rw [← hR, decide_eq_false (by omega : ¬ 2 ≤ BA), Bool.false_and]
          subst hF
          clear hR
          go_enter Try.func18, Try.ntmps18
          go_wp2_with fail
          go_ret
          exact ⟨rfl, bw⟩
        · have q_b2 : decide (BA < 2) = false := decide_eq_false c_b2
          rw [decide_eq_true (by omega : 2 ≤ BA), Bool.true_and] at hR
          by_cases c_b36 : 36 < BA
          · have q_b36 : decide (36 < BA) = true := decide_eq_true c_b36
            have hF : R = false := by rw [← hR, decide_eq_false (by omega : ¬ BA ≤ 36), Bool.false_and]
            subst hF
            clear hR
            go_enter Try.func18, Try.ntmps18
            go_wp2_with fail
            go_ret
            exact ⟨rfl, bw⟩
          · have q_b36 : decide (36 < BA) = false := decide_eq_false c_b36
            rw [decide_eq_true (by omega : BA ≤ 36), Bool.true_and] at hR
            cases FT
            · have hF : R = false := by rw [← hR, Bool.false_and]
              subst hF
              clear hR
              go_enter Try.func18, Try.ntmps18
              go_wp2_with (first | (go_at_call 40; refine (ct _ bw).mono ?_; rintro e r1 ⟨rfl, b1⟩; obtain ⟨p0, p1, p2, p3, p4, p5, p6, p7, p8, p9⟩ := K _ b1))
              go_ret
              exact ⟨rfl, below_trans bw b1⟩
            · rw [Bool.true_and] at hR
              cases FN
              · have hF : R = false := by rw [← hR, Bool.false_and]
                subst hF
                clear hR
                go_enter Try.func18, Try.ntmps18
                go_wp2_with (first | (go_at_call 40; refine (ct _ bw).mono ?_; rintro e r1 ⟨rfl, b1⟩; obtain ⟨p0, p1, p2, p3, p4, p5, p6, p7, p8, p9⟩ := K _ b1) | (go_at_call 41; refine (cb _).mono ?_; rintro e r2 ⟨rfl, hw2⟩; obtain rfl := hw2.symm))
                go_ret
                exact ⟨rfl, below_trans bw b1⟩
              · rw [Bool.true_and] at hR
                cases FW
                · have hF : R = false := by rw [← hR, Bool.false_and]
                  subst hF
                  clear hR
                  go_enter Try.func18, Try.ntmps18
                  go_wp2_with (first | (go_at_call 40; refine (ct _ bw).mono ?_; rintro e r1 ⟨rfl, b1⟩; obtain ⟨p0, p1, p2, p3, p4, p5, p6, p7, p8, p9⟩ := K _ b1) | (go_at_call 41; refine (cb _).mono ?_; rintro e r2 ⟨rfl, hw2⟩; obtain rfl := hw2.symm) | (go_at_call 42; refine (cw _ (below_trans bw b1)).mono ?_; rintro e r3 ⟨rfl, b3⟩; have b13 := below_trans b1 b3; obtain ⟨s0, s1, s2, s3, s4, s5, s6, s7, s8, s9⟩ := K _ b13))
                  go_ret
                  exact ⟨rfl, below_trans bw b13⟩
                · rw [Bool.true_and] at hR
                  cases FC
                  · have hF : R = false := by rw [← hR, Bool.false_and]
                    subst hF
                    clear hR
                    go_enter Try.func18, Try.ntmps18
                    go_wp2_with (first | (go_at_call 40; refine (ct _ bw).mono ?_; rintro e r1 ⟨rfl, b1⟩; obtain ⟨p0, p1, p2, p3, p4, p5, p6, p7, p8, p9⟩ := K _ b1) | (go_at_call 41; refine (cb _).mono ?_; rintro e r2 ⟨rfl, hw2⟩; obtain rfl := hw2.symm) | (go_at_call 42; refine (cw _ (below_trans bw b1)).mono ?_; rintro e r3 ⟨rfl, b3⟩; have b13 := below_trans b1 b3; obtain ⟨s0, s1, s2, s3, s4, s5, s6, s7, s8, s9⟩ := K _ b13) | (go_at_call 43; refine (cc _ (below_trans bw b13)).mono ?_; rintro e r4 ⟨rfl, b4⟩; have b14 := below_trans b13 b4; obtain ⟨t0, t1, t2, t3, t4, t5, t6, t7, t8, t9⟩ := K _ b14))
                    go_ret
                    exact ⟨rfl, below_trans bw b14⟩
                  · rw [Bool.true_and] at hR
                    cases FI
                    · have hF : R = false := by rw [← hR, Bool.false_and]
                      subst hF
                      clear hR
                      go_enter Try.func18, Try.ntmps18
                      go_wp2_with (first | (go_at_call 40; refine (ct _ bw).mono ?_; rintro e r1 ⟨rfl, b1⟩; obtain ⟨p0, p1, p2, p3, p4, p5, p6, p7, p8, p9⟩ := K _ b1) | (go_at_call 41; refine (cb _).mono ?_; rintro e r2 ⟨rfl, hw2⟩; obtain rfl := hw2.symm) | (go_at_call 42; refine (cw _ (below_trans bw b1)).mono ?_; rintro e r3 ⟨rfl, b3⟩; have b13 := below_trans b1 b3; obtain ⟨s0, s1, s2, s3, s4, s5, s6, s7, s8, s9⟩ := K _ b13) | (go_at_call 43; refine (cc _ (below_trans bw b13)).mono ?_; rintro e r4 ⟨rfl, b4⟩; have b14 := below_trans b13 b4; obtain ⟨t0, t1, t2, t3, t4, t5, t6, t7, t8, t9⟩ := K _ b14) | (go_at_call 44; refine (ci _ (below_trans bw b14)).mono ?_; rintro e r5 ⟨rfl, b5⟩; have b15 := below_trans b14 b5; obtain ⟨u0, u1, u2, u3, u4, u5, u6, u7, u8, u9⟩ := K _ b15))
                      go_ret
                      exact ⟨rfl, below_trans bw b15⟩
                    · rw [Bool.true_and] at hR
                      subst hR
                      go_enter Try.func18, Try.ntmps18
                      go_wp2_with (first | (go_at_call 40; refine (ct _ bw).mono ?_; rintro e r1 ⟨rfl, b1⟩; obtain ⟨p0, p1, p2, p3, p4, p5, p6, p7, p8, p9⟩ := K _ b1) | (go_at_call 41; refine (cb _).mono ?_; rintro e r2 ⟨rfl, hw2⟩; obtain rfl := hw2.symm) | (go_at_call 42; refine (cw _ (below_trans bw b1)).mono ?_; rintro e r3 ⟨rfl, b3⟩; have b13 := below_trans b1 b3; obtain ⟨s0, s1, s2, s3, s4, s5, s6, s7, s8, s9⟩ := K _ b13) | (go_at_call 43; refine (cc _ (below_trans bw b13)).mono ?_; rintro e r4 ⟨rfl, b4⟩; have b14 := below_trans b13 b4; obtain ⟨t0, t1, t2, t3, t4, t5, t6, t7, t8, t9⟩ := K _ b14) | (go_at_call 44; refine (ci _ (below_trans bw b14)).mono ?_; rintro e r5 ⟨rfl, b5⟩; have b15 := below_trans b14 b5; obtain ⟨u0, u1, u2, u3, u4, u5, u6, u7, u8, u9⟩ := K _ b15) | (go_at_call 45; refine (ca _ (below_trans bw b15)).mono ?_; rintro e r6 ⟨rfl, hw6⟩; obtain rfl := hw6.symm))
                      go_ret
                      exact ⟨rfl, below_trans bw b15⟩

end Go.Proofs.Ytfljcfpcokimcaa
