/-
  Finish of the document's answer for code.
-/
import Derived.Test.YtfmpeminfcehaaaRk7
namespace Go.Proofs.Ytfmpeminfcehaaa
open Go.ChangeShapes Go.WideShapes Go.ChangeAt Go.RowKit
set_option linter.unusedVariables false
set_option linter.unusedSimpArgs false

theorem fin_no1 {d : Dft} (h : frmD d = false) : finD d = ([], 1) := by unfold finD; rw [if_pos h]
theorem fin_no2 {d : Dft} (h : frmD d = true) (h2 : 0 < d.origs.length + d.dests.length + d.loops.length + d.cases.length) : finD d = ([], 13) := by
  unfold finD
  rw [if_neg (by rw [h]; simp), if_pos]
  rintro ⟨h3, h4, h5, h6⟩
  rw [h3, h4, h5, h6] at h2
  simp at h2
theorem fin_yes {d : Dft} (h : frmD d = true) (h2 : ¬ 0 < d.origs.length + d.dests.length + d.loops.length + d.cases.length) : finD d = (d.code, 0) := by
  unfold finD
  rw [if_neg (by rw [h]; simp), if_neg]
  intro h3
  exact h3 ⟨List.length_eq_zero_iff.1 (by omega), List.length_eq_zero_iff.1 (by omega), List.length_eq_zero_iff.1 (by omega), List.length_eq_zero_iff.1 (by omega)⟩

set_option maxHeartbeats 8000000 in
set_option maxRecDepth 100000 in
theorem w_r10finish (v : Dv) (d : Dft) (w : World) (h : RdD w v d) (z : szD d) (hs : d.origs.length * 8 ≤ 140737488355328 ∧ d.dests.length * 8 ≤ 140737488355328 ∧ d.loops.length * 32 ≤ 140737488355328 ∧ d.cases.length * 32 ≤ 140737488355328) :
    Calls Try.prog 18 #[.agg v.cs] w fun e w' => ∃ v1, e = .returned (.tuple #[v1, .int .i64 (finD d).2]) ∧ RdO w' v1 (finD d).1 ∧ Below w.heap.size w w' := by
  have cf := fun W (b : Below w.heap.size w W) => w_r10formed v d W (h.below b)
  have cc := fun W (b : Below w.heap.size w W) => w_r10copy v d W (h.below b) z
  have l1 := rd_len h.origs uJ (P := Try.prog)
  have l2 := rd_len h.dests uJ (P := Try.prog)
  have l3 := slr_len h.loops uK (P := Try.prog)
  have l4 := slr_len h.cases uK (P := Try.prog)
  obtain ⟨z1, z2, z3, z4⟩ := hs
  have s0 := stands_new w v.cs 26
  have bw := box_below w (.cells v.cs 26)
  have nilO : ∀ W : World, RdO W (.slice none 0 0) [] := fun W => OwnR.read (e := 37) (O := opR) (base := 0) (by decide) (OwnR.nil _ _ _ _ _) (fun _ _ q => q)
  have hfd : ∀ (a : Option Addr) (n c : Nat) (y1 y2 y3 y4 : Value) (W : World), (Instr.field 26 (.agg #[.slice a n c, y1, y2, y3, y4]) 0).run Try.prog W = .ok (.slice a n c) W := fun _ _ _ _ _ _ _ _ => by kernel_rfl
  have CC := hid cc
  have NO := hid nilO
  clear cc z h nilO
  obtain ⟨x0, x1, x2, x3, x4⟩ := v
  simp only [Dv.cs] at cf s0 bw l1 l2 l3 l4 CC ⊢
  cases c1 : frmD d with
  | false =>
    rw [fin_no1 c1]
    simp only [c1] at cf
    go_enter Try.func18, Try.ntmps18
    go_upto_region 1 with fail
    generalize w.alloc (.cells #[x0, x1, x2, x3, x4] 26) = W0 at s0 bw ⊢
    have f0 := s0.cell 0 _ rfl
    have f1 := s0.cell 1 _ rfl
    have f2 := s0.cell 2 _ rfl
    have f3 := s0.cell 3 _ rfl
    have f4 := s0.cell 4 _ rfl
    go_wp2_with (go_at_call 13; refine (cf _ bw).mono ?_; rintro e q1 ⟨rfl, b1⟩; have p0 := (s0.below b1).cell 0 _ rfl; have p1 := (s0.below b1).cell 1 _ rfl; have p2 := (s0.below b1).cell 2 _ rfl; have p3 := (s0.below b1).cell 3 _ rfl; have p4 := (s0.below b1).cell 4 _ rfl)
    go_ret2
    exact ⟨_, rfl, NO.out _, below_trans bw b1⟩
  | true =>
    simp only [c1] at cf
    by_cases c2 : 0 < d.origs.length + d.dests.length + d.loops.length + d.cases.length
    · rw [fin_no2 c1 c2]
      have c3 : (0 : Int) < (d.origs.length : Int) + d.dests.length + d.loops.length + d.cases.length := by omega
      go_enter Try.func18, Try.ntmps18
      go_upto_region 1 with fail
      generalize w.alloc (.cells #[x0, x1, x2, x3, x4] 26) = W0 at s0 bw ⊢
      have f0 := s0.cell 0 _ rfl
      have f1 := s0.cell 1 _ rfl
      have f2 := s0.cell 2 _ rfl
      have f3 := s0.cell 3 _ rfl
      have f4 := s0.cell 4 _ rfl
      go_wp2_with (go_at_call 13; refine (cf _ bw).mono ?_; rintro e q1 ⟨rfl, b1⟩; have p0 := (s0.below b1).cell 0 _ rfl; have p1 := (s0.below b1).cell 1 _ rfl; have p2 := (s0.below b1).cell 2 _ rfl; have p3 := (s0.below b1).cell 3 _ rfl; have p4 := (s0.below b1).cell 4 _ rfl)
      go_ret2
      exact ⟨_, rfl, NO.out _, below_trans bw b1⟩
    · rw [fin_yes c1 c2]
      have c3 : (d.origs.length : Int) + d.dests.length + d.loops.length + d.cases.length ≤ 0 := by omega
      go_enter Try.func18, Try.ntmps18
      go_upto_region 1 with fail
      generalize w.alloc (.cells #[x0, x1, x2, x3, x4] 26) = W0 at s0 bw ⊢
      have f0 := s0.cell 0 _ rfl
      have f1 := s0.cell 1 _ rfl
      have f2 := s0.cell 2 _ rfl
      have f3 := s0.cell 3 _ rfl
      have f4 := s0.cell 4 _ rfl
      go_wp2_with (first | (go_at_call 13; refine (cf _ bw).mono ?_; rintro e q1 ⟨rfl, b1⟩; have p0 := (s0.below b1).cell 0 _ rfl; have p1 := (s0.below b1).cell 1 _ rfl; have p2 := (s0.below b1).cell 2 _ rfl; have p3 := (s0.below b1).cell 3 _ rfl; have p4 := (s0.below b1).cell 4 _ rfl) | (go_at_call 9; refine (CC.out _ (below_trans bw b1)).mono ?_; rintro e q3 ⟨v1, t1, t2, t3, rfl, oD, b3⟩; obtain ⟨cs0, r0⟩ := oD.code.row; obtain ⟨ca, cq, e0⟩ := own_form r0; obtain ⟨oa, oq, e1⟩ := own_form oD.origs; obtain ⟨da, dq, e2⟩ := own_form oD.dests; obtain ⟨cs3, r3⟩ := oD.loops.own.row; obtain ⟨la, lq, e3⟩ := own_form r3; obtain ⟨cs4, r4⟩ := oD.cases.own.row; obtain ⟨ka, kq, e4⟩ := own_form r4; obtain ⟨y0, y1, y2, y3, y4⟩ := v1; (try dsimp only at e0 e1 e2 e3 e4); subst e0 e1 e2 e3 e4; simp only [Dv.cs]))
      go_ret2
      exact ⟨_, rfl, oD.read.code, below_trans (below_trans bw b1) b3⟩
end Go.Proofs.Ytfmpeminfcehaaa
