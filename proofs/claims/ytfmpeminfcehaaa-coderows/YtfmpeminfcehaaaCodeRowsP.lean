/-
  Rows of acts are built step by step as the document says, up to the first one that is refused.
-/
import Derived.Test.YtfmpeminfcehaaaRows
import Derived.WalkKit
import Derived.ProofKit
import Derived.OpenShut
import Derived.ShutString
import Derived.ChangeOld
import Derived.Below
import Derived.Carry
import Derived.SizedLaws
import Derived.Test.YtfmpeminfcehaaaSl
import Derived.Test.YtfmpeminfcehaaaCal
import Derived.Test.YtfmpeminfcehaaaPk4
import Derived.Test.YtfmpeminfcehaaaDfp
import Derived.Test.YtfmpeminfcehaaaRka
import Derived.Test.YtfmpeminfcehaaaRkb
import Derived.Test.YtfmpeminfcehaaaRkc
import Derived.Test.YtfmpeminfcehaaaRkd
import Derived.Test.YtfmpeminfcehaaaRke
import Derived.Test.YtfmpeminfcehaaaRkf
import Derived.Test.YtfmpeminfcehaaaRk1
namespace Go.Proofs.Ytfmpeminfcehaaa
open Go.ChangeShapes Go.WideShapes Go.ChangeAt Go.RowKit
set_option linter.unusedVariables false
set_option linter.unusedSimpArgs false

set_option maxHeartbeats 8000000 in
set_option maxRecDepth 100000 in
theorem w_r10act0 (v : Dv) (d : Dft) (a : Int) (w : World) (h : RdD w v d) (ha : a < 1 ∨ 15 < a) :
    Calls Try.prog 11 #[.agg v.cs, .int .i64 a] w fun e w' => ∃ v1, e = .returned (.tuple #[.agg (Dv.cs v1), .int .i64 (actD d a).2]) ∧ OwQ w' v1 (actD d a).1 ∧ Below w.heap.size w w' := by
  have cf := fun W (b : Below w.heap.size w W) => w_r10formed v d W (h.below b)
  have hD : actD d a = (nilD, 1) := by unfold actD; rw [if_pos (Or.inr (by omega))]
  rw [hD]
  have s0 := (stands_new w v.cs 26).below (box_below _ (.cells #[.slice none 0 0, .slice none 0 0, .slice none 0 0, .slice none 0 0, .slice none 0 0] 26))
  have s2 := stands_new (w.alloc (.cells v.cs 26)) #[.slice none 0 0, .slice none 0 0, .slice none 0 0, .slice none 0 0, .slice none 0 0] 26
  rw [size_al] at s2
  have bw := below_trans (box_below w (.cells v.cs 26)) (box_below _ (.cells #[.slice none 0 0, .slice none 0 0, .slice none 0 0, .slice none 0 0, .slice none 0 0] 26))
  clear h hD
  obtain ⟨x0, x1, x2, x3, x4⟩ := v
  simp only [Dv.cs] at cf s0 s2 bw ⊢
  cases c1 : frmD d with
  | false =>
    simp only [c1] at cf
    clear ha
    go_enter Try.func11, Try.ntmps11
    go_upto_region 1 with fail
    generalize (w.alloc (.cells #[x0, x1, x2, x3, x4] 26)).alloc (.cells #[.slice none 0 0, .slice none 0 0, .slice none 0 0, .slice none 0 0, .slice none 0 0] 26) = W0 at s0 s2 bw ⊢
    have f0 := s0.cell 0 _ rfl
    have f1 := s0.cell 1 _ rfl
    have f2 := s0.cell 2 _ rfl
    have f3 := s0.cell 3 _ rfl
    have f4 := s0.cell 4 _ rfl
    go_wp2_with (first | (go_at_call 13; refine (cf _ bw).mono ?_; rintro e q1 ⟨rfl, b1⟩; have p0 := (s0.below b1).cell 0 _ rfl; have p1 := (s0.below b1).cell 1 _ rfl; have p2 := (s0.below b1).cell 2 _ rfl; have p3 := (s0.below b1).cell 3 _ rfl; have p4 := (s0.below b1).cell 4 _ rfl; have zz0 := (s2.below b1).cell 0 _ rfl; have zz1 := (s2.below b1).cell 1 _ rfl; have zz2 := (s2.below b1).cell 2 _ rfl; have zz3 := (s2.below b1).cell 3 _ rfl; have zz4 := (s2.below b1).cell 4 _ rfl; have zf := (s2.below b1).free))
    obtain ⟨g1, g2⟩ := set5q (s2.below b1) (.slice none 0 0) (.slice none 0 0) (.slice none 0 0) (.slice none 0 0) (.slice none 0 0)
    have J7 := below_set (below_set (below_set (below_set (below_set (below_trans bw b1) (w.heap.size + 1) 0 (.slice none 0 0) (by omega)) (w.heap.size + 1) 1 (.slice none 0 0) (by omega)) (w.heap.size + 1) 2 (.slice none 0 0) (by omega)) (w.heap.size + 1) 3 (.slice none 0 0) (by omega)) (w.heap.size + 1) 4 (.slice none 0 0) (by omega)
    (try simp only [Exit.inBlock, Exit.then])
    refine bodyPost_ret (res_row2 rfl _ _ (w.heap.size + 1) 26 _ (0, 0) _ rfl g1 Try.underlying26 rfl (show _ = some 5 by kernel_rfl)) rfl ?_
    exact ⟨nilDv, rfl, OwQ.nil _, J7⟩
  | true =>
    simp only [c1] at cf
    by_cases c3 : a < 1
    · clear ha
      go_enter Try.func11, Try.ntmps11
      go_upto_region 1 with fail
      generalize (w.alloc (.cells #[x0, x1, x2, x3, x4] 26)).alloc (.cells #[.slice none 0 0, .slice none 0 0, .slice none 0 0, .slice none 0 0, .slice none 0 0] 26) = W0 at s0 s2 bw ⊢
      have f0 := s0.cell 0 _ rfl
      have f1 := s0.cell 1 _ rfl
      have f2 := s0.cell 2 _ rfl
      have f3 := s0.cell 3 _ rfl
      have f4 := s0.cell 4 _ rfl
      go_wp2_with (first | (go_at_call 13; refine (cf _ bw).mono ?_; rintro e q1 ⟨rfl, b1⟩; have p0 := (s0.below b1).cell 0 _ rfl; have p1 := (s0.below b1).cell 1 _ rfl; have p2 := (s0.below b1).cell 2 _ rfl; have p3 := (s0.below b1).cell 3 _ rfl; have p4 := (s0.below b1).cell 4 _ rfl; have zz0 := (s2.below b1).cell 0 _ rfl; have zz1 := (s2.below b1).cell 1 _ rfl; have zz2 := (s2.below b1).cell 2 _ rfl; have zz3 := (s2.below b1).cell 3 _ rfl; have zz4 := (s2.below b1).cell 4 _ rfl; have zf := (s2.below b1).free))
      obtain ⟨g1, g2⟩ := set5q (s2.below b1) (.slice none 0 0) (.slice none 0 0) (.slice none 0 0) (.slice none 0 0) (.slice none 0 0)
      have J7 := below_set (below_set (below_set (below_set (below_set (below_trans bw b1) (w.heap.size + 1) 0 (.slice none 0 0) (by omega)) (w.heap.size + 1) 1 (.slice none 0 0) (by omega)) (w.heap.size + 1) 2 (.slice none 0 0) (by omega)) (w.heap.size + 1) 3 (.slice none 0 0) (by omega)) (w.heap.size + 1) 4 (.slice none 0 0) (by omega)
      (try simp only [Exit.inBlock, Exit.then])
      refine bodyPost_ret (res_row2 rfl _ _ (w.heap.size + 1) 26 _ (0, 0) _ rfl g1 Try.underlying26 rfl (show _ = some 5 by kernel_rfl)) rfl ?_
      exact ⟨nilDv, rfl, OwQ.nil _, J7⟩
    · have c4 : 15 < a := by omega
      clear ha
      go_enter Try.func11, Try.ntmps11
      go_upto_region 1 with fail
      generalize (w.alloc (.cells #[x0, x1, x2, x3, x4] 26)).alloc (.cells #[.slice none 0 0, .slice none 0 0, .slice none 0 0, .slice none 0 0, .slice none 0 0] 26) = W0 at s0 s2 bw ⊢
      have f0 := s0.cell 0 _ rfl
      have f1 := s0.cell 1 _ rfl
      have f2 := s0.cell 2 _ rfl
      have f3 := s0.cell 3 _ rfl
      have f4 := s0.cell 4 _ rfl
      go_wp2_with (first | (go_at_call 13; refine (cf _ bw).mono ?_; rintro e q1 ⟨rfl, b1⟩; have p0 := (s0.below b1).cell 0 _ rfl; have p1 := (s0.below b1).cell 1 _ rfl; have p2 := (s0.below b1).cell 2 _ rfl; have p3 := (s0.below b1).cell 3 _ rfl; have p4 := (s0.below b1).cell 4 _ rfl; have zz0 := (s2.below b1).cell 0 _ rfl; have zz1 := (s2.below b1).cell 1 _ rfl; have zz2 := (s2.below b1).cell 2 _ rfl; have zz3 := (s2.below b1).cell 3 _ rfl; have zz4 := (s2.below b1).cell 4 _ rfl; have zf := (s2.below b1).free))
      obtain ⟨g1, g2⟩ := set5q (s2.below b1) (.slice none 0 0) (.slice none 0 0) (.slice none 0 0) (.slice none 0 0) (.slice none 0 0)
      have J7 := below_set (below_set (below_set (below_set (below_set (below_trans bw b1) (w.heap.size + 1) 0 (.slice none 0 0) (by omega)) (w.heap.size + 1) 1 (.slice none 0 0) (by omega)) (w.heap.size + 1) 2 (.slice none 0 0) (by omega)) (w.heap.size + 1) 3 (.slice none 0 0) (by omega)) (w.heap.size + 1) 4 (.slice none 0 0) (by omega)
      (try simp only [Exit.inBlock, Exit.then])
      refine bodyPost_ret (res_row2 rfl _ _ (w.heap.size + 1) 26 _ (0, 0) _ rfl g1 Try.underlying26 rfl (show _ = some 5 by kernel_rfl)) rfl ?_
      exact ⟨nilDv, rfl, OwQ.nil _, J7⟩

theorem w_r10act (v : Dv) (d : Dft) (a : Int) (w : World) (h : RdD w v d) (z : szD d) (ze : szE d) :
    Calls Try.prog 11 #[.agg v.cs, .int .i64 a] w fun e w' => ∃ v1, e = .returned (.tuple #[.agg (Dv.cs v1), .int .i64 (actD d a).2]) ∧ OwQ w' v1 (actD d a).1 ∧ Below w.heap.size w w' := by
  by_cases ha : a < 1 ∨ 15 < a
  · exact w_r10act0 v d a w h ha
  · have hcs : a = 1 ∨ a = 2 ∨ a = 3 ∨ a = 4 ∨ a = 5 ∨ a = 6 ∨ a = 7 ∨ a = 8 ∨ a = 9 ∨ a = 10 ∨ a = 11 ∨ a = 12 ∨ a = 13 ∨ a = 14 ∨ a = 15 := by omega
    rcases hcs with rfl | rfl | rfl | rfl | rfl | rfl | rfl | rfl | rfl | rfl | rfl | rfl | rfl | rfl | rfl
    · exact w_r10act1 v d w h z ze
    · exact w_r10act2 v d w h z ze
    · exact w_r10act3 v d w h z ze
    · exact w_r10act4 v d w h z ze
    · exact w_r10act5 v d w h z ze
    · exact w_r10act6 v d w h z ze
    · exact w_r10act7 v d w h z ze
    · exact w_r10act8 v d w h z ze
    · exact w_r10act9 v d w h z ze
    · exact w_r10act10 v d w h z ze
    · exact w_r10act11 v d w h z ze
    · exact w_r10act12 v d w h z ze
    · exact w_r10act13 v d w h z ze
    · exact w_r10act14 v d w h z ze
    · exact w_r10act15 v d w h z ze
end Go.Proofs.Ytfmpeminfcehaaa
namespace Go.Proofs.Ytfmpeminfcehaaa.codeRows
open Go.ChangeShapes Go.WideShapes Go.ChangeAt Go.RowKit
open Go.ChangeMaps (open_string shut_string)
set_option linter.unusedVariables false
set_option linter.unusedSimpArgs false

theorem own : ownKnob Try.prog.godebug = none := by kernel_rfl
theorem laidOut : laidOutB Try.prog = true := by kernel_rfl

set_option maxHeartbeats 4000000 in
set_option maxRecDepth 100000 in
theorem walk (v0 : Value) (x0 : List (Int × Opd)) (w : World) (r0 : RdE w v0 x0) (g0 : ∀ x ∈ x0, gE x) (z0 : x0.length * 24 ≤ 140737488351232) :
    Calls Try.prog 6 #[v0] w fun e w' => e = .returned (.bool true) ∧ Below w.heap.size w w' := by
  have hz0 := bld_sz lng_nil x0 (by omega) (by omega)
  have cb0 := fun W (b : Below w.heap.size w W) => w_build ⟨.slice none 0 0, .slice none 0 0, .slice none 0 0, .slice none 0 0, .slice none 0 0⟩ nilD v0 x0 W (OwQ.nil W).read (r0.below b) hz0
  obtain ⟨D0, hD0⟩ : ∃ D, (bldD nilD x0).1 = D := ⟨_, rfl⟩
  obtain ⟨M, hM⟩ : ∃ D, (bldD nilD x0).2.1 = D := ⟨_, rfl⟩
  obtain ⟨E, hE⟩ : ∃ D, (bldD nilD x0).2.2 = D := ⟨_, rfl⟩
  simp only [hD0, hM, hE, Dv.cs] at cb0
  have HB : Hid (bldD nilD x0 = (D0, M, E)) := by show _ = _; rw [← hD0, ← hM, ← hE]
  have hla := slr_len r0 uE (P := Try.prog)
  have hm := slr_max r0
  unfold maxLen at hm
  have CB := hid cb0
  have HL := hid r0
  have HZ := hid hz0
  clear hz0 cb0 hD0 hM hE g0 z0 r0
  go_enter Try.func6, Try.ntmps6
  go_upto_region 4 with (first | (go_at_call 8; refine (w_alive10 _).mono ?_; rintro e q1 ⟨rfl, b1⟩) | (go_at_call 20; refine (CB.out _ b1).mono ?_; rintro e q2 ⟨u2, rfl, r2, b2⟩; obtain ⟨pa0, pc0, pa1, pc1, pa2, pc2, pa3, pc3, pa4, pc4, rfl⟩ := rdD_forms r2))
  have bx3 := box_below q2 (.cells #[.slice pa0 D0.code.length pc0, .slice pa1 D0.origs.length pc1, .slice pa2 D0.dests.length pc2, .slice pa3 D0.loops.length pc3, .slice pa4 D0.cases.length pc4] 26)
  have sx3 := stands_new q2 #[.slice pa0 D0.code.length pc0, .slice pa1 D0.origs.length pc1, .slice pa2 D0.dests.length pc2, .slice pa3 D0.loops.length pc3, .slice pa4 D0.cases.length pc4] 26
  have rx3 : RdD _ ⟨.slice pa0 D0.code.length pc0, .slice pa1 D0.origs.length pc1, .slice pa2 D0.dests.length pc2, .slice pa3 D0.loops.length pc3, .slice pa4 D0.cases.length pc4⟩ D0 := r2.below bx3
  obtain ⟨X3, hX3⟩ : ∃ X, q2.heap.size = X := ⟨_, rfl⟩
  rw [hX3] at sx3
  (try simp only [hX3])
  generalize q2.alloc (.cells #[.slice pa0 D0.code.length pc0, .slice pa1 D0.origs.length pc1, .slice pa2 D0.dests.length pc2, .slice pa3 D0.loops.length pc3, .slice pa4 D0.cases.length pc4] 26) = w3 at bx3 sx3 rx3 ⊢
  clear hX3
  have BW := below_trans (below_trans b1 b2) bx3
  clear b1 b2 bx3 r2 CB
  go_upto_region 5 with fail
  have s0 := stands_new w3 #[.slice none 0 0, .slice none 0 0, .slice none 0 0, .slice none 0 0, .slice none 0 0] 26
  have bw := box_below w3 (.cells #[.slice none 0 0, .slice none 0 0, .slice none 0 0, .slice none 0 0, .slice none 0 0] 26)
  obtain ⟨XW, hXW⟩ : ∃ X, w3.heap.size = X := ⟨_, rfl⟩
  have hXw : w3.heap.size ≤ XW := by omega
  have hX3 : X3 < XW := by rw [← hXW]; exact (Array.getElem?_eq_some_iff.1 sx3).1
  rw [hXW] at s0
  (try simp only [hXW])
  generalize w3.alloc (.cells #[.slice none 0 0, .slice none 0 0, .slice none 0 0, .slice none 0 0, .slice none 0 0] 26) = W0 at s0 bw ⊢
  clear hXW
  have SD := hid sx3
  have RD0 := hid rx3
  clear sx3 rx3
  go_wp2_with fail
  go_loopw [7] (fun I wx => ∃ (k : Nat) (D : Dft) (u : Dv), (k : Int) ≤ x0.length ∧ I = .int .i64 k ∧ Hid (bldD nilD (x0.take k) = (D, k, 0)) ∧ Stands wx XW u.cs 26 ∧ Hid (OwQ wx u D) ∧ Below w3.heap.size w3 wx) (fun I _ => (x0.length - intOf I).toNat)
  case atStart => exact ⟨0, nilD, ⟨.slice none 0 0, .slice none 0 0, .slice none 0 0, .slice none 0 0, .slice none 0 0⟩, by omega, rfl, hid rfl, s0, hid (OwQ.nil _), bw⟩
  case round =>
    clear s0 bw
    obtain ⟨k, D, u, hk, rfl, hD, s0, RQ, hg⟩ := hrel
    obtain ⟨da0, dc0, da1, dc1, da2, dc2, da3, dc3, da4, dc4, rfl⟩ := rdD_forms RQ.out.read
    simp only [Dv.cs] at s0
    have hXr : XW < wr.heap.size := (Array.getElem?_eq_some_iff.1 s0).1
    obtain ⟨zD, zE2⟩ := HZ.out k (by omega) (by rw [hD.out])
    rw [hD.out] at zD zE2
    by_cases hlt : (k : Int) < x0.length
    · have hkl : k < x0.length := by omega
      obtain ⟨p1, q1, i1, c0, c1, c2⟩ := ded_at (HL.out.below (below_trans BW hg)) k hkl
      have hst : stpD D x0[k] = if x0[k].1 = 0 then putD D x0[k].2 else actD D x0[k].1 := rfl
      have good := fun g => hid (bld_step hkl hD.out g)
      have bad := fun g => hid (bld_stop hkl hD.out g)
      obtain ⟨A, hA⟩ : ∃ A, x0[k].1 = A := ⟨_, rfl⟩
      obtain ⟨K, hK⟩ : ∃ A, x0[k].2.1 = A := ⟨_, rfl⟩
      obtain ⟨N, hN⟩ : ∃ A, x0[k].2.2 = A := ⟨_, rfl⟩
      have hKN : x0[k].2 = (K, N) := by rw [← hK, ← hN]
      rw [hA] at c0 hst
      rw [hK] at c1
      rw [hN] at c2
      rw [hKN] at hst
      rw [hst] at good bad
      have GOOD := hid good
      have BAD := hid bad
      have cA := fun W (b : Below wr.heap.size wr W) => w_r10act _ D A W (RQ.out.read.below b) zD zE2
      have cP := fun W (b : Below wr.heap.size wr W) => w_r10put _ D K N W (RQ.out.read.below b) zD
      simp only [Dv.cs] at cA cP
      have CA := hid cA
      have CP := hid cP
      clear cA cP hA hK hN hKN hst good bad
      have ST0 := hid s0
      go_upto_region 8 with fail
      go_cut [8, 9] (fun X E wx => ∃ (B : Nat) (vx : Dv), X = .pointer (some ⟨B, 0, none⟩) ∧ E = .int .i64 (actD D A).2 ∧ wr.heap.size ≤ B ∧ Stands wx B vx.cs 26 ∧ OwQ wx vx (actD D A).1 ∧ Below wr.heap.size wr wx)
      case first =>
        have Z : Hid (∀ W, Below wr.heap.size wr W → (W.cell? ⟨XW, 0, none⟩ = some (.slice da0 D.code.length dc0) ∧ W.cell? ⟨XW, 1, none⟩ = some (.slice da1 D.origs.length dc1) ∧ W.cell? ⟨XW, 2, none⟩ = some (.slice da2 D.dests.length dc2) ∧ W.cell? ⟨XW, 3, none⟩ = some (.slice da3 D.loops.length dc3) ∧ W.cell? ⟨XW, 4, none⟩ = some (.slice da4 D.cases.length dc4)) ∧ W.cell? ⟨p1, q1, none⟩ = some (.int .i64 A)) := by
          show ∀ W, _
          intro W q
          have s := ST0.out.below q
          exact ⟨⟨s.cell 0 _ rfl, s.cell 1 _ rfl, s.cell 2 _ rfl, s.cell 3 _ rfl, s.cell 4 _ rfl⟩, below_cell q c0⟩
        have hrd : Hid (Below wr.heap.size wr wr.drew) := below_drewN (Below.refl _ _) 1
        have hrA : Hid (Below wr.heap.size wr (wr.drew.alloc (.cells #[.slice none 0 0, .slice none 0 0, .slice none 0 0, .slice none 0 0, .slice none 0 0] 26))) := hrd.out.alloc hrd.out.size _
        have hrD : Hid (Below wr.heap.size wr (wr.alloc (.cells #[.slice none 0 0, .slice none 0 0, .slice none 0 0, .slice none 0 0, .slice none 0 0] 26)).drew) := below_drewN (box_below wr _) 1
        have sA : Hid (Stands (wr.drew.alloc (.cells #[.slice none 0 0, .slice none 0 0, .slice none 0 0, .slice none 0 0, .slice none 0 0] 26)) wr.heap.size #[.slice none 0 0, .slice none 0 0, .slice none 0 0, .slice none 0 0, .slice none 0 0] 26) := stands_new wr.drew #[.slice none 0 0, .slice none 0 0, .slice none 0 0, .slice none 0 0, .slice none 0 0] 26
        have sD : Hid (Stands (wr.alloc (.cells #[.slice none 0 0, .slice none 0 0, .slice none 0 0, .slice none 0 0, .slice none 0 0] 26)).drew wr.heap.size #[.slice none 0 0, .slice none 0 0, .slice none 0 0, .slice none 0 0, .slice none 0 0] 26) := (stands_new wr #[.slice none 0 0, .slice none 0 0, .slice none 0 0, .slice none 0 0, .slice none 0 0] 26).below (below_drewN (Below.refl _ _) 1)
        clear s0 c0 c1 c2
        go_region_held2 (fun W => (W.cell? ⟨XW, 0, none⟩ = some (.slice da0 D.code.length dc0) ∧ W.cell? ⟨XW, 1, none⟩ = some (.slice da1 D.origs.length dc1) ∧ W.cell? ⟨XW, 2, none⟩ = some (.slice da2 D.dests.length dc2) ∧ W.cell? ⟨XW, 3, none⟩ = some (.slice da3 D.loops.length dc3) ∧ W.cell? ⟨XW, 4, none⟩ = some (.slice da4 D.cases.length dc4)) ∧ W.cell? ⟨p1, q1, none⟩ = some (.int .i64 A)) (exact Z.out _ (by first | with_reducible exact hrd.out | with_reducible exact hrA.out | with_reducible exact hrD.out | with_reducible exact R2.out | with_reducible exact R2.out.alloc R2.out.size _ | with_reducible exact set5b R2.out wr.heap.size (Nat.le_refl _) _ _ _ _ _))
          (first | (go_at_call 11; refine (CA.out _ (by first | with_reducible exact hrd.out | with_reducible exact hrA.out | with_reducible exact hrD.out)).mono ?_; rintro e q2 ⟨vx, rfl, rx, d2⟩; have R2 : Hid (Below wr.heap.size wr q2) := below_trans (by first | with_reducible exact hrd.out | with_reducible exact hrA.out | with_reducible exact hrD.out) d2; obtain ⟨ea0, ec0, ea1, ec1, ea2, ec2, ea3, ec3, ea4, ec4, rfl⟩ := rdD_forms rx.read; have RX := hid rx; (try simp only [Dv.cs]); (try (have sB : Stands q2 wr.heap.size #[.slice none 0 0, .slice none 0 0, .slice none 0 0, .slice none 0 0, .slice none 0 0] 26 := (by first | with_reducible exact sA.out.below d2 | with_reducible exact sD.out.below d2); have z0 := sB.cell 0 _ rfl; have z1 := sB.cell 1 _ rfl; have z2 := sB.cell 2 _ rfl; have z3 := sB.cell 3 _ rfl; have z4 := sB.cell 4 _ rfl; have zf := sB.free)); clear rx d2))
        all_goals go_wp2_with fail
        · go_meet
          case rel => exact ⟨q2.heap.size, ⟨.slice ea0 (actD D A).1.code.length ec0, .slice ea1 (actD D A).1.origs.length ec1, .slice ea2 (actD D A).1.dests.length ec2, .slice ea3 (actD D A).1.loops.length ec3, .slice ea4 (actD D A).1.cases.length ec4⟩, rfl, rfl, R2.out.size, stands_new q2 _ _, RX.out.below (box_below _ _), R2.out.alloc R2.out.size _⟩
        · obtain ⟨g1, g2⟩ := set5q sB (.slice ea0 (actD D A).1.code.length ec0) (.slice ea1 (actD D A).1.origs.length ec1) (.slice ea2 (actD D A).1.dests.length ec2) (.slice ea3 (actD D A).1.loops.length ec3) (.slice ea4 (actD D A).1.cases.length ec4)
          have J7 := set5b R2.out wr.heap.size (Nat.le_refl _) (.slice ea0 (actD D A).1.code.length ec0) (.slice ea1 (actD D A).1.origs.length ec1) (.slice ea2 (actD D A).1.dests.length ec2) (.slice ea3 (actD D A).1.loops.length ec3) (.slice ea4 (actD D A).1.cases.length ec4)
          have RY := g2 (fun u => OwQ u ⟨.slice ea0 (actD D A).1.code.length ec0, .slice ea1 (actD D A).1.origs.length ec1, .slice ea2 (actD D A).1.dests.length ec2, .slice ea3 (actD D A).1.loops.length ec3, .slice ea4 (actD D A).1.cases.length ec4⟩ (actD D A).1) (fun u u' kk q => q.kept kk (by decide) (by decide) (by decide)) RX.out
          have G1 := hid g1
          have RYH := hid RY
          have J := hid J7
          clear g1 g2 RY J7
          go_meet
          case rel => exact ⟨wr.heap.size, ⟨.slice ea0 (actD D A).1.code.length ec0, .slice ea1 (actD D A).1.origs.length ec1, .slice ea2 (actD D A).1.dests.length ec2, .slice ea3 (actD D A).1.loops.length ec3, .slice ea4 (actD D A).1.cases.length ec4⟩, rfl, rfl, Nat.le_refl _, G1.out, RYH.out, J.out⟩
      case rest =>
        obtain ⟨B, vx, rfl, rfl, hB, sB, oX, b2⟩ := hcut
        obtain ⟨ea0, ec0, ea1, ec1, ea2, ec2, ea3, ec3, ea4, ec4, rfl⟩ := rdD_forms oX.read
        simp only [Dv.cs] at sB
        obtain ⟨W1, hW1⟩ : ∃ x, x = wc := ⟨_, rfl⟩
        subst hW1
        have k0 := below_cell b2 c0
        have OX := hid oX
        clear oX c0 CA
        by_cases hA0 : A = 0
        · subst hA0
          have good := GOOD.out
          have bad := BAD.out
          rw [if_pos rfl] at good bad
          have GP := hid good
          have BP := hid bad
          clear good bad GOOD BAD
          go_upto_region 10 with fail
          go_cut [9] (fun E wx => ∃ vy : Dv, E = .int .i64 (putD D (K, N)).2 ∧ Stands wx B vy.cs 26 ∧ OwQ wx vy (putD D (K, N)).1 ∧ Below wr.heap.size wr wx)
          case first =>
            have Z : Hid (∀ W, Below wr.heap.size wr W → (W.cell? ⟨XW, 0, none⟩ = some (.slice da0 D.code.length dc0) ∧ W.cell? ⟨XW, 1, none⟩ = some (.slice da1 D.origs.length dc1) ∧ W.cell? ⟨XW, 2, none⟩ = some (.slice da2 D.dests.length dc2) ∧ W.cell? ⟨XW, 3, none⟩ = some (.slice da3 D.loops.length dc3) ∧ W.cell? ⟨XW, 4, none⟩ = some (.slice da4 D.cases.length dc4)) ∧ W.cell? ⟨p1, q1 + 1, none⟩ = some (.int .i64 K) ∧ W.cell? ⟨p1, q1 + 2, none⟩ = some (.int .u32 N)) := by
              show ∀ W, _
              intro W q
              have s := ST0.out.below q
              exact ⟨⟨s.cell 0 _ rfl, s.cell 1 _ rfl, s.cell 2 _ rfl, s.cell 3 _ rfl, s.cell 4 _ rfl⟩, below_cell q c1, below_cell q c2⟩
            have hrd : Hid (Below W1.heap.size W1 W1.drew) := below_drewN (Below.refl _ _) 1
            have hr2 : Hid (Below wr.heap.size wr W1.drew) := below_trans b2 hrd.out
            have SB := hid sB
            clear s0 c1 c2 k0 sB b2
            go_region_held2 (fun W => (W.cell? ⟨XW, 0, none⟩ = some (.slice da0 D.code.length dc0) ∧ W.cell? ⟨XW, 1, none⟩ = some (.slice da1 D.origs.length dc1) ∧ W.cell? ⟨XW, 2, none⟩ = some (.slice da2 D.dests.length dc2) ∧ W.cell? ⟨XW, 3, none⟩ = some (.slice da3 D.loops.length dc3) ∧ W.cell? ⟨XW, 4, none⟩ = some (.slice da4 D.cases.length dc4)) ∧ W.cell? ⟨p1, q1 + 1, none⟩ = some (.int .i64 K) ∧ W.cell? ⟨p1, q1 + 2, none⟩ = some (.int .u32 N)) (exact Z.out _ (by first | with_reducible exact hr2.out | with_reducible exact R3.out | with_reducible exact set5b R3.out B hB _ _ _ _ _))
              (first | (go_at_call 16; refine (CP.out _ hr2.out).mono ?_; rintro e q3 ⟨vy, rfl, ry, d3⟩; have R3 : Hid (Below wr.heap.size wr q3) := below_trans hr2.out d3; obtain ⟨fa0, fc0, fa1, fc1, fa2, fc2, fa3, fc3, fa4, fc4, rfl⟩ := rdD_forms ry.read; have RX := hid ry; (try simp only [Dv.cs]); have sB := SB.out.below (below_trans hrd.out d3); have z0 := sB.cell 0 _ rfl; have z1 := sB.cell 1 _ rfl; have z2 := sB.cell 2 _ rfl; have z3 := sB.cell 3 _ rfl; have z4 := sB.cell 4 _ rfl; have zf := sB.free; clear ry d3))
            all_goals go_wp2_with fail
            · obtain ⟨g1, g2⟩ := set5q sB (.slice fa0 (putD D (K, N)).1.code.length fc0) (.slice fa1 (putD D (K, N)).1.origs.length fc1) (.slice fa2 (putD D (K, N)).1.dests.length fc2) (.slice fa3 (putD D (K, N)).1.loops.length fc3) (.slice fa4 (putD D (K, N)).1.cases.length fc4)
              have J7 := set5b R3.out B hB (.slice fa0 (putD D (K, N)).1.code.length fc0) (.slice fa1 (putD D (K, N)).1.origs.length fc1) (.slice fa2 (putD D (K, N)).1.dests.length fc2) (.slice fa3 (putD D (K, N)).1.loops.length fc3) (.slice fa4 (putD D (K, N)).1.cases.length fc4)
              have RY := g2 (fun u => OwQ u ⟨.slice fa0 (putD D (K, N)).1.code.length fc0, .slice fa1 (putD D (K, N)).1.origs.length fc1, .slice fa2 (putD D (K, N)).1.dests.length fc2, .slice fa3 (putD D (K, N)).1.loops.length fc3, .slice fa4 (putD D (K, N)).1.cases.length fc4⟩ (putD D (K, N)).1) (fun u u' kk q => q.kept kk (by decide) (by decide) (by decide)) RX.out
              have G1 := hid g1
              have RYH := hid RY
              have J := hid J7
              clear g1 g2 RY J7
              go_meet
              case rel => exact ⟨⟨.slice fa0 (putD D (K, N)).1.code.length fc0, .slice fa1 (putD D (K, N)).1.origs.length fc1, .slice fa2 (putD D (K, N)).1.dests.length fc2, .slice fa3 (putD D (K, N)).1.loops.length fc3, .slice fa4 (putD D (K, N)).1.cases.length fc4⟩, rfl, G1.out, RYH.out, J.out⟩
          case rest =>
            obtain ⟨vy, rfl, sY, oY, b3⟩ := hcut
            obtain ⟨fa0, fc0, fa1, fc1, fa2, fc2, fa3, fc3, fa4, fc4, rfl⟩ := rdD_forms oY.read
            simp only [Dv.cs] at sY
            obtain ⟨W3, hW3⟩ : ∃ x, x = wc := ⟨_, rfl⟩
            subst hW3
            have OY := hid oY
            clear oY OX k0 sB b2 c1 c2
            by_cases hE : (putD D (K, N)).2 = 0
            · have hne : ((putD D (K, N)).2 != 0) = false := by simp [hE]
              have ht2 := GP.out hE
              have sd := ST0.out.below b3
              have u0 := sY.cell 0 _ rfl
              have xx0 := sd.cell 0 _ rfl
              have u1 := sY.cell 1 _ rfl
              have xx1 := sd.cell 1 _ rfl
              have u2 := sY.cell 2 _ rfl
              have xx2 := sd.cell 2 _ rfl
              have u3 := sY.cell 3 _ rfl
              have xx3 := sd.cell 3 _ rfl
              have u4 := sY.cell 4 _ rfl
              have xx4 := sd.cell 4 _ rfl
              have xf := sd.free
              obtain ⟨g1, g2⟩ := set5q sd (.slice fa0 (putD D (K, N)).1.code.length fc0) (.slice fa1 (putD D (K, N)).1.origs.length fc1) (.slice fa2 (putD D (K, N)).1.dests.length fc2) (.slice fa3 (putD D (K, N)).1.loops.length fc3) (.slice fa4 (putD D (K, N)).1.cases.length fc4)
              have oZ := g2 (fun u => OwQ u ⟨.slice fa0 (putD D (K, N)).1.code.length fc0, .slice fa1 (putD D (K, N)).1.origs.length fc1, .slice fa2 (putD D (K, N)).1.dests.length fc2, .slice fa3 (putD D (K, N)).1.loops.length fc3, .slice fa4 (putD D (K, N)).1.cases.length fc4⟩ (putD D (K, N)).1) (fun u u' kk q => q.kept kk (by decide) (by decide) (by decide)) OY.out
              have J7 := set5b (below_trans hg b3) XW hXw (.slice fa0 (putD D (K, N)).1.code.length fc0) (.slice fa1 (putD D (K, N)).1.origs.length fc1) (.slice fa2 (putD D (K, N)).1.dests.length fc2) (.slice fa3 (putD D (K, N)).1.loops.length fc3) (.slice fa4 (putD D (K, N)).1.cases.length fc4)
              have G1 := hid g1
              have OZ := hid oZ
              have J := hid J7
              clear g1 g2 oZ J7 hE sd s0
              go_wp2_with fail
              go_roundw
              case rel => exact ⟨k + 1, _, ⟨.slice fa0 (putD D (K, N)).1.code.length fc0, .slice fa1 (putD D (K, N)).1.origs.length fc1, .slice fa2 (putD D (K, N)).1.dests.length fc2, .slice fa3 (putD D (K, N)).1.loops.length fc3, .slice fa4 (putD D (K, N)).1.cases.length fc4⟩, by omega, by go_num, ht2, G1.out, hid OZ.out, J.out⟩
              case measure => simp [intOf]; omega
            · have hne : ((putD D (K, N)).2 != 0) = true := by simp [hE]
              have hbl := (BP.out hE).out.symm.trans HB.out
              have h1 : D = D0 := congrArg (fun x => x.1) hbl
              have h2 : k = M := congrArg (fun x => x.2.1) hbl
              have h3 : (putD D (K, N)).2 = E := congrArg (fun x => x.2.2) hbl
              subst h1
              subst h2
              have jE : (E == (putD D (K, N)).2) = true := by rw [h3]; exact beq_self_eq_true E
              have jE2 : (E == E) = true := beq_self_eq_true E
              have sd := ST0.out.below b3
              have s3 := SD.out.below (below_trans hg b3)
              have xx0 := sd.cell 0 _ rfl
              have y0 := s3.cell 0 _ rfl
              have xx1 := sd.cell 1 _ rfl
              have y1 := s3.cell 1 _ rfl
              have xx2 := sd.cell 2 _ rfl
              have y2 := s3.cell 2 _ rfl
              have xx3 := sd.cell 3 _ rfl
              have y3 := s3.cell 3 _ rfl
              have xx4 := sd.cell 4 _ rfl
              have y4 := s3.cell 4 _ rfl
              have cS := w_r10same D D ⟨.slice pa0 D.code.length pc0, .slice pa1 D.origs.length pc1, .slice pa2 D.dests.length pc2, .slice pa3 D.loops.length pc3, .slice pa4 D.cases.length pc4⟩ ⟨.slice da0 D.code.length dc0, .slice da1 D.origs.length dc1, .slice da2 D.dests.length dc2, .slice da3 D.loops.length dc3, .slice da4 D.cases.length dc4⟩ W3 (RD0.out.below (below_trans hg b3)) (RQ.out.below b3).read
              simp only [Dv.cs] at cS
              have BZ := below_trans BW (below_trans hg b3)
              clear hbl h3 hE sd s3 s0
              go_wp2_with (go_at_call 14; refine cS.mono ?_; rintro e q20 ⟨rfl, e20⟩)
              go_ret
              exact ⟨by simp, below_trans BZ e20⟩
        · have hA1 : (A == 0) = false := by rw [beq_eq_false_iff_ne]; exact hA0
          have good := GOOD.out
          have bad := BAD.out
          rw [if_neg hA0] at good bad
          have GP := hid good
          have BP := hid bad
          clear good bad GOOD BAD hA0 c1 c2 CP
          by_cases hE : (actD D A).2 = 0
          · have hne : ((actD D A).2 != 0) = false := by simp [hE]
            have ht2 := GP.out hE
            have sd := ST0.out.below b2
            have u0 := sB.cell 0 _ rfl
            have xx0 := sd.cell 0 _ rfl
            have u1 := sB.cell 1 _ rfl
            have xx1 := sd.cell 1 _ rfl
            have u2 := sB.cell 2 _ rfl
            have xx2 := sd.cell 2 _ rfl
            have u3 := sB.cell 3 _ rfl
            have xx3 := sd.cell 3 _ rfl
            have u4 := sB.cell 4 _ rfl
            have xx4 := sd.cell 4 _ rfl
            have xf := sd.free
            obtain ⟨g1, g2⟩ := set5q sd (.slice ea0 (actD D A).1.code.length ec0) (.slice ea1 (actD D A).1.origs.length ec1) (.slice ea2 (actD D A).1.dests.length ec2) (.slice ea3 (actD D A).1.loops.length ec3) (.slice ea4 (actD D A).1.cases.length ec4)
            have oZ := g2 (fun u => OwQ u ⟨.slice ea0 (actD D A).1.code.length ec0, .slice ea1 (actD D A).1.origs.length ec1, .slice ea2 (actD D A).1.dests.length ec2, .slice ea3 (actD D A).1.loops.length ec3, .slice ea4 (actD D A).1.cases.length ec4⟩ (actD D A).1) (fun u u' kk q => q.kept kk (by decide) (by decide) (by decide)) OX.out
            have J7 := set5b (below_trans hg b2) XW hXw (.slice ea0 (actD D A).1.code.length ec0) (.slice ea1 (actD D A).1.origs.length ec1) (.slice ea2 (actD D A).1.dests.length ec2) (.slice ea3 (actD D A).1.loops.length ec3) (.slice ea4 (actD D A).1.cases.length ec4)
            have G1 := hid g1
            have OZ := hid oZ
            have J := hid J7
            clear g1 g2 oZ J7 hE sd s0
            go_wp2_with fail
            go_roundw
            case rel => exact ⟨k + 1, _, ⟨.slice ea0 (actD D A).1.code.length ec0, .slice ea1 (actD D A).1.origs.length ec1, .slice ea2 (actD D A).1.dests.length ec2, .slice ea3 (actD D A).1.loops.length ec3, .slice ea4 (actD D A).1.cases.length ec4⟩, by omega, by go_num, ht2, G1.out, hid OZ.out, J.out⟩
            case measure => simp [intOf]; omega
          · have hne : ((actD D A).2 != 0) = true := by simp [hE]
            have hbl := (BP.out hE).out.symm.trans HB.out
            have h1 : D = D0 := congrArg (fun x => x.1) hbl
            have h2 : k = M := congrArg (fun x => x.2.1) hbl
            have h3 : (actD D A).2 = E := congrArg (fun x => x.2.2) hbl
            subst h1
            subst h2
            have jE : (E == (actD D A).2) = true := by rw [h3]; exact beq_self_eq_true E
            have jE2 : (E == E) = true := beq_self_eq_true E
            have sd := ST0.out.below b2
            have s3 := SD.out.below (below_trans hg b2)
            have xx0 := sd.cell 0 _ rfl
            have y0 := s3.cell 0 _ rfl
            have xx1 := sd.cell 1 _ rfl
            have y1 := s3.cell 1 _ rfl
            have xx2 := sd.cell 2 _ rfl
            have y2 := s3.cell 2 _ rfl
            have xx3 := sd.cell 3 _ rfl
            have y3 := s3.cell 3 _ rfl
            have xx4 := sd.cell 4 _ rfl
            have y4 := s3.cell 4 _ rfl
            have cS := w_r10same D D ⟨.slice pa0 D.code.length pc0, .slice pa1 D.origs.length pc1, .slice pa2 D.dests.length pc2, .slice pa3 D.loops.length pc3, .slice pa4 D.cases.length pc4⟩ ⟨.slice da0 D.code.length dc0, .slice da1 D.origs.length dc1, .slice da2 D.dests.length dc2, .slice da3 D.loops.length dc3, .slice da4 D.cases.length dc4⟩ W1 (RD0.out.below (below_trans hg b2)) (RQ.out.below b2).read
            simp only [Dv.cs] at cS
            have BZ := below_trans BW (below_trans hg b2)
            clear hbl h3 hE sd s3 s0
            go_wp2_with (go_at_call 14; refine cS.mono ?_; rintro e q20 ⟨rfl, e20⟩)
            go_ret
            exact ⟨by simp, below_trans BZ e20⟩
    · have hbl := (bld_end (by omega) hD.out).symm.trans HB.out
      have h1 : D = D0 := congrArg (fun x => x.1) hbl
      have h2 : k = M := congrArg (fun x => x.2.1) hbl
      have h3 : (0 : Int) = E := congrArg (fun x => x.2.2) hbl
      subst h1
      subst h2
      subst h3
      have hkk : (x0.length : Int) = k := by omega
      have jK : ((k : Int) == (x0.length : Int)) = true := by rw [hkk]; exact beq_self_eq_true _
      have s3 := SD.out.below hg
      have xx0 := s0.cell 0 _ rfl
      have y0 := s3.cell 0 _ rfl
      have xx1 := s0.cell 1 _ rfl
      have y1 := s3.cell 1 _ rfl
      have xx2 := s0.cell 2 _ rfl
      have y2 := s3.cell 2 _ rfl
      have xx3 := s0.cell 3 _ rfl
      have y3 := s3.cell 3 _ rfl
      have xx4 := s0.cell 4 _ rfl
      have y4 := s3.cell 4 _ rfl
      have cS := w_r10same D D ⟨.slice pa0 D.code.length pc0, .slice pa1 D.origs.length pc1, .slice pa2 D.dests.length pc2, .slice pa3 D.loops.length pc3, .slice pa4 D.cases.length pc4⟩ ⟨.slice da0 D.code.length dc0, .slice da1 D.origs.length dc1, .slice da2 D.dests.length dc2, .slice da3 D.loops.length dc3, .slice da4 D.cases.length dc4⟩ wr (RD0.out.below hg) RQ.out.read
      simp only [Dv.cs] at cS
      have BZ := below_trans BW hg
      clear hbl hkk s3 s0
      go_wp2_with (go_at_call 14; refine cS.mono ?_; rintro e q20 ⟨rfl, e20⟩)
      go_ret
      exact ⟨by simp, below_trans BZ e20⟩

set_option maxRecDepth 100000 in
theorem lifted (os : Os) (started : os.Started) (H : Type) (enc : TypeId × Value → H) :
    ReturnsInHanded {} Try.checked os 6 .any (Rows.codeRowsSpec.pre6 enc Try.prog Try.f6 Rows.codeRowsRow.domain false) (Rows.codeRowsSpec.post enc Try.prog Try.f6 false true false false) := by
  refine returnsInHanded_of_change_sized (C := Try.checked) own started (by kernel_rfl) Try.func6
    (ChangeSpec.witness6 (enc := enc) (C := Try.checked) false ⟨#[], #[.slice none 0 0], []⟩ 8 (by kernel_rfl) (by kernel_rfl) (by kernel_rfl) (by kernel_rfl)) ?_
  intro W base args ds gs before hval0 hW hcnd hsz0 _
  have hval : ∀ (j : Nat) t v, Try.f6.params[j]? = some t → args[j]? = some v → Value.okWide Try.prog W .any base t v := hval0
  have hsz : (DataW.weightsEach Try.prog (Try.f6.params.toList ++ Rows.codeRowsSpec.plain.varTypes Try.prog) (ds ++ gs)).all (· ≤ reachBytes) = true := hsz0
  have hW' := hW
  obtain ⟨p, q, hA0, hV, rfl, hfz, hnd⟩ := hW
  have hA : DataW.TrodAll enc Try.prog W 0 (fun _ => true) true Try.f6.params.toList args.toList ds p := hA0
  rw [Try.params6] at hA hval hsz
  obtain ⟨v0, vs0, d0, ds0, p0, q0, hargs, rfl, rfl, h0, r0⟩ := trodAll_cons hA
  obtain ⟨rfl, rfl, rfl⟩ := trodAll_nil r0
  obtain rfl : args = #[v0] := by cases args; simp_all
  obtain ⟨rfl, rfl⟩ := trodVars_none hV
  obtain ⟨s0, l0, c0, rfl⟩ := okWide_slice Try.underlying43 (hval 0 43 v0 rfl rfl)
  have k0 := h0
  have lt0 : ∀ x ∈ p0, x.block < W.heap.size := by obtain ⟨m, hm⟩ := k0; exact DataW.trod_lt m _ _ _ hm
  obtain ⟨x0, r100, g0, z0⟩ := ded_open h0 (fun n hn => by simpa using List.all_eq_true.1 hsz n (DataW.weights_mem_each (j := 0) (t := 43) (d := d0) rfl rfl n hn))
  clear hA0 hval0 hsz0
  refine (walk (.slice s0 l0 c0) x0 W r100 g0 z0).mono fun e W' ⟨he, bel⟩ => ?_
  subst he
  exact ⟨_, rfl, _, _, _, [], _, [], hW', trodAll_mk1 (shut_bool Try.underlying4 _), (trodAll_cons_mk (Below.trod laidOut (by kernel_rfl) (of_decide_eq_true (by kernel_rfl)) k0 bel lt0) trodAll_mk0), rfl, bel.frame _, fun h => by cases h⟩

theorem over : Rows.codeRowsRow.holds Try.pinned (OpenSpec.ofChange Rows.codeRowsSpec) :=
  OpenClaim.holds_of_wide 6 Try.f6 rfl rfl rfl rfl rfl rfl rfl ⟨rfl, rfl, rfl, rfl, rfl⟩ rfl rfl rfl rfl rfl (by kernel_rfl) Try.func6 (by kernel_rfl)
    (of_decide_eq_true (by kernel_rfl)) (by unfold Func.isWrapper; first | (rw [if_pos (by decide +kernel)]; kernel_rfl) | (rw [if_neg (by decide +kernel)]; exact ⟨rfl, rfl⟩))
    (fun os started H enc _ => lifted os started H enc)
end Go.Proofs.Ytfmpeminfcehaaa.codeRows
namespace Go.Proofs.Ytfmpeminfcehaaa
theorem codeRows_holds : Rows.CodeRowsSaid := codeRows.over
#print axioms codeRows_holds
end Go.Proofs.Ytfmpeminfcehaaa
