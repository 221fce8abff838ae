/-
  Deeds done one behind the other on a draft, by the landed package: what the laws' own build comes to.
-/
import Derived.Test.YtfmpeminfcehaaaCka
import Derived.Test.YtfmpeminfcehaaaPk3
import Derived.Test.YtfmpeminfcehaaaDfp
import Derived.Deep.Cut
import Derived.Deep.CutRange
import Derived.Deep.DeepCutAuto
namespace Go.Proofs.Ytfmpeminfcehaaa
open Go.ChangeShapes Go.WideShapes Go.ChangeAt Go.RowKit
set_option linter.unusedVariables false
set_option linter.unusedSimpArgs false

theorem rdD_forms {w : World} {v : Dv} {d : Dft} (h : RdD w v d) : ∃ a0 c0 a1 c1 a2 c2 a3 c3 a4 c4, v = ⟨.slice a0 d.code.length c0, .slice a1 d.origs.length c1, .slice a2 d.dests.length c2, .slice a3 d.loops.length c3, .slice a4 d.cases.length c4⟩ := by
  obtain ⟨v0, v1, v2, v3, v4⟩ := v
  obtain ⟨a0, c0, e0⟩ := slr_slice h.code
  obtain ⟨a1, c1, e1⟩ := rd_slice h.origs
  obtain ⟨a2, c2, e2⟩ := rd_slice h.dests
  obtain ⟨a3, c3, e3⟩ := slr_slice h.loops
  obtain ⟨a4, c4, e4⟩ := slr_slice h.cases
  dsimp only at e0 e1 e2 e3 e4
  exact ⟨a0, c0, a1, c1, a2, c2, a3, c3, a4, c4, by rw [e0, e1, e2, e3, e4]⟩
theorem uE : Try.prog.underlying 43 = some (.slice (Try.prog.elem 43)) := by kernel_rfl
theorem eE : Try.prog.elem 43 = 48 := by kernel_rfl
theorem zE (w : World) : (sizeOf (Try.prog.elem 43)).run Try.prog w = .ok 3 w := by rw [eE]; exact Try.sizeOf48 w
theorem ded_at {w : World} {v : Value} {l : List Ded} (h : RdE w v l) (i : Nat) (h1 : i < l.length) :
    ∃ (b o : Nat), (∀ w', (Instr.indexAt 43 v (.int .i64 (i : Int))).run Try.prog w' = .ok (.pointer (some ⟨b, o, none⟩)) w') ∧ w.cell? ⟨b, o, none⟩ = some (.int .i64 l[i].1) ∧ w.cell? ⟨b, o + 1, none⟩ = some (.int .i64 l[i].2.1) ∧ w.cell? ⟨b, o + 2, none⟩ = some (.int .u32 l[i].2.2) := by
  obtain ⟨b, o, cs, r, hl, hc, h2⟩ := slr_idxN h uE zE i h1
  have h3 : cs = [.int .i64 l[i].1, .int .i64 l[i].2.1, .int .u32 l[i].2.2] := h2
  subst h3
  exact ⟨b, o, r, hc 0 (by omega), hc 1 (by omega), hc 2 (by omega)⟩
/-- a draft of which there is more than one like it in memory stands, where blocks of another kind or new ones are written -/
theorem rdD_set {w : World} {v : Dv} {d : Dft} {W : World} (h : RdD w v d) (g : Below w.heap.size w W) : RdD W v d := h.below g

set_option maxHeartbeats 16000000 in
set_option maxRecDepth 100000 in
theorem w_build (v : Dv) (d : Dft) (vl : Value) (l : List Ded) (w : World) (h : RdD w v d) (hl : RdE w vl l) (hz : ∀ k, k ≤ l.length → (bldD d (l.take k)).2.2 = 0 → szD (bldD d (l.take k)).1 ∧ szE (bldD d (l.take k)).1) :
    Calls Try.prog 20 #[.agg v.cs, vl] w fun e w' => ∃ v1, e = .returned (.tuple #[.agg (Dv.cs v1), .int .i64 (bldD d l).2.1, .int .i64 (bldD d l).2.2]) ∧ RdD w' v1 (bldD d l).1 ∧ Below w.heap.size w w' := by
  have hla := slr_len hl uE (P := Try.prog)
  have hm := slr_max hl
  unfold maxLen at hm
  have s0 := (stands_new w v.cs 26).below (box_below _ (.cells #[.slice none 0 0, .slice none 0 0, .slice none 0 0, .slice none 0 0, .slice none 0 0] 26))
  have s2 := stands_new (w.alloc (.cells v.cs 26)) #[.slice none 0 0, .slice none 0 0, .slice none 0 0, .slice none 0 0, .slice none 0 0] 26
  rw [size_al] at s2
  have bw := below_trans (box_below w (.cells v.cs 26)) (box_below _ (.cells #[.slice none 0 0, .slice none 0 0, .slice none 0 0, .slice none 0 0, .slice none 0 0] 26))
  have HL := hid hl
  have HZ := hid hz
  have H0 := hid h
  clear hl hz
  go_enter Try.func20, Try.ntmps20
  go_upto_region 1 with fail
  simp only [Dv.cs] at s0 s2 bw ⊢
  generalize (w.alloc (.cells #[v.vc, v.vo, v.vd, v.vl, v.vk] 26)).alloc (.cells #[.slice none 0 0, .slice none 0 0, .slice none 0 0, .slice none 0 0, .slice none 0 0] 26) = W0 at s0 s2 bw ⊢
  have hb0 : w.heap.size + 1 < W0.heap.size := (Array.getElem?_eq_some_iff.1 s2).1
  go_wp2_with fail
  go_loopw [7] (fun I wx => ∃ (k : Nat) (D : Dft) (u : Dv), (k : Int) ≤ l.length ∧ I = .int .i64 k ∧ Hid (bldD d (l.take k) = (D, k, 0)) ∧ Stands wx w.heap.size u.cs 26 ∧ Stands wx (w.heap.size + 1) #[.slice none 0 0, .slice none 0 0, .slice none 0 0, .slice none 0 0, .slice none 0 0] 26 ∧ Hid (RdD w u D ∨ OwQ wx u D) ∧ Below w.heap.size w wx ∧ W0.heap.size ≤ wx.heap.size) (fun I _ => (l.length - intOf I).toNat)
  case atStart => exact ⟨0, d, v, by omega, rfl, hid rfl, s0, s2, hid (Or.inl H0.out), bw, Nat.le_refl _⟩
  case round =>
    clear s0 s2 bw
    obtain ⟨k, D, u, hk, rfl, hD, s0, s2, RQ, hg, hsz⟩ := hrel
    have rD : RdD wr u D := RQ.out.elim (fun q => q.below hg) (fun q => q.read)
    obtain ⟨da0, dc0, da1, dc1, da2, dc2, da3, dc3, da4, dc4, rfl⟩ := rdD_forms rD
    simp only [Dv.cs] at s0
    obtain ⟨zD, zE2⟩ := HZ.out k (by omega) (by rw [hD.out])
    rw [hD.out] at zD zE2
    by_cases hlt : (k : Int) < l.length
    · have hkl : k < l.length := by omega
      obtain ⟨p1, q1, i1, c0, c1, c2⟩ := ded_at (HL.out.below hg) k hkl
      have hst : stpD D l[k] = if l[k].1 = 0 then putD D l[k].2 else actD D l[k].1 := rfl
      have good := fun g => hid (bld_step hkl hD.out g)
      have bad := fun g => hid (bld_stop hkl hD.out g)
      obtain ⟨A, hA⟩ : ∃ A, l[k].1 = A := ⟨_, rfl⟩
      obtain ⟨K, hK⟩ : ∃ A, l[k].2.1 = A := ⟨_, rfl⟩
      obtain ⟨N, hN⟩ : ∃ A, l[k].2.2 = A := ⟨_, rfl⟩
      have hKN : l[k].2 = (K, N) := by rw [← hK, ← hN]
      rw [hA] at c0 hst
      rw [hK] at c1
      rw [hN] at c2
      rw [hKN] at hst
      rw [hst] at good bad
      have GOOD := hid good
      have BAD := hid bad
      have cA := fun W (b : Below wr.heap.size wr W) => w_p10actA _ D A W (rD.below b) zD zE2
      have cP := fun W (b : Below wr.heap.size wr W) => w_p10putA _ D K N W (rD.below b) zD
      simp only [Dv.cs] at cA cP
      have CA := hid cA
      have CP := hid cP
      clear cA cP hA hK hN hKN hst good bad
      have RD := hid rD
      have ST0 := hid s0
      have ST2 := hid s2
      clear rD
      go_upto_region 4 with fail
      go_cut [8, 9] (fun X E wx => ∃ (B : Nat) (vx : Dv), X = .pointer (some ⟨B, 0, none⟩) ∧ E = .int .i64 (actD D A).2 ∧ wr.heap.size ≤ B ∧ Stands wx B vx.cs 26 ∧ OwQ wx vx (actD D A).1 ∧ Below wr.heap.size wr wx)
      case first =>
        have Z : Hid (∀ W, Below wr.heap.size wr W → (W.cell? ⟨w.heap.size, 0, none⟩ = some (.slice da0 D.code.length dc0) ∧ W.cell? ⟨w.heap.size, 1, none⟩ = some (.slice da1 D.origs.length dc1) ∧ W.cell? ⟨w.heap.size, 2, none⟩ = some (.slice da2 D.dests.length dc2) ∧ W.cell? ⟨w.heap.size, 3, none⟩ = some (.slice da3 D.loops.length dc3) ∧ W.cell? ⟨w.heap.size, 4, none⟩ = some (.slice da4 D.cases.length dc4)) ∧ W.cell? ⟨p1, q1, none⟩ = some (.int .i64 A)) := by
          show ∀ W, _
          intro W q
          have s := ST0.out.below q
          exact ⟨⟨s.cell 0 _ rfl, s.cell 1 _ rfl, s.cell 2 _ rfl, s.cell 3 _ rfl, s.cell 4 _ rfl⟩, below_cell q c0⟩
        have hrd : Hid (Below wr.heap.size wr wr.drew) := below_drewN (Below.refl _ _) 1
        have hrA : Hid (Below wr.heap.size wr (wr.drew.alloc (.cells #[.slice none 0 0, .slice none 0 0, .slice none 0 0, .slice none 0 0, .slice none 0 0] 26))) := hrd.out.alloc hrd.out.size _
        have hrD : Hid (Below wr.heap.size wr (wr.alloc (.cells #[.slice none 0 0, .slice none 0 0, .slice none 0 0, .slice none 0 0, .slice none 0 0] 26)).drew) := below_drewN (box_below wr _) 1
        have sA : Hid (Stands (wr.drew.alloc (.cells #[.slice none 0 0, .slice none 0 0, .slice none 0 0, .slice none 0 0, .slice none 0 0] 26)) wr.heap.size #[.slice none 0 0, .slice none 0 0, .slice none 0 0, .slice none 0 0, .slice none 0 0] 26) := stands_new wr.drew #[.slice none 0 0, .slice none 0 0, .slice none 0 0, .slice none 0 0, .slice none 0 0] 26
        have sD : Hid (Stands (wr.alloc (.cells #[.slice none 0 0, .slice none 0 0, .slice none 0 0, .slice none 0 0, .slice none 0 0] 26)).drew wr.heap.size #[.slice none 0 0, .slice none 0 0, .slice none 0 0, .slice none 0 0, .slice none 0 0] 26) := (stands_new wr #[.slice none 0 0, .slice none 0 0, .slice none 0 0, .slice none 0 0, .slice none 0 0] 26).below (below_drewN (Below.refl _ _) 1)
        skip
        clear s0 s2 c0 c1 c2
        go_region_held2 (fun W => (W.cell? ⟨w.heap.size, 0, none⟩ = some (.slice da0 D.code.length dc0) ∧ W.cell? ⟨w.heap.size, 1, none⟩ = some (.slice da1 D.origs.length dc1) ∧ W.cell? ⟨w.heap.size, 2, none⟩ = some (.slice da2 D.dests.length dc2) ∧ W.cell? ⟨w.heap.size, 3, none⟩ = some (.slice da3 D.loops.length dc3) ∧ W.cell? ⟨w.heap.size, 4, none⟩ = some (.slice da4 D.cases.length dc4)) ∧ W.cell? ⟨p1, q1, none⟩ = some (.int .i64 A)) (exact Z.out _ (by first | with_reducible exact hrd.out | with_reducible exact hrA.out | with_reducible exact hrD.out | with_reducible exact R2.out | with_reducible exact R2.out.alloc R2.out.size _ | with_reducible exact set5b R2.out wr.heap.size (Nat.le_refl _) _ _ _ _ _))
          (first | (go_at_call 10; refine (CA.out _ (by first | with_reducible exact hrd.out | with_reducible exact hrA.out | with_reducible exact hrD.out)).mono ?_; rintro e q2 ⟨vx, rfl, rx, d2⟩; have R2 : Hid (Below wr.heap.size wr q2) := below_trans (by first | with_reducible exact hrd.out | with_reducible exact hrA.out | with_reducible exact hrD.out) d2; obtain ⟨ea0, ec0, ea1, ec1, ea2, ec2, ea3, ec3, ea4, ec4, rfl⟩ := rdD_forms rx.read; have RX := hid rx; (try simp only [Dv.cs]); (try (have sB : Stands q2 wr.heap.size #[.slice none 0 0, .slice none 0 0, .slice none 0 0, .slice none 0 0, .slice none 0 0] 26 := (by first | with_reducible exact sA.out.below d2 | with_reducible exact sD.out.below d2); have z0 := sB.cell 0 _ rfl; have z1 := sB.cell 1 _ rfl; have z2 := sB.cell 2 _ rfl; have z3 := sB.cell 3 _ rfl; have z4 := sB.cell 4 _ rfl; have zf := sB.free)); clear rx d2))
        all_goals go_wp2_with fail
        · go_meet
          case rel => exact ⟨q2.heap.size, ⟨.slice ea0 (actD D A).1.code.length ec0, .slice ea1 (actD D A).1.origs.length ec1, .slice ea2 (actD D A).1.dests.length ec2, .slice ea3 (actD D A).1.loops.length ec3, .slice ea4 (actD D A).1.cases.length ec4⟩, rfl, rfl, R2.out.size, stands_new q2 _ _, RX.out.below (box_below _ _), R2.out.alloc R2.out.size _⟩
        · obtain ⟨g1, g2⟩ := set5q sB (.slice ea0 (actD D A).1.code.length ec0) (.slice ea1 (actD D A).1.origs.length ec1) (.slice ea2 (actD D A).1.dests.length ec2) (.slice ea3 (actD D A).1.loops.length ec3) (.slice ea4 (actD D A).1.cases.length ec4)
          have J7 := set5b R2.out wr.heap.size (Nat.le_refl _) (.slice ea0 (actD D A).1.code.length ec0) (.slice ea1 (actD D A).1.origs.length ec1) (.slice ea2 (actD D A).1.dests.length ec2) (.slice ea3 (actD D A).1.loops.length ec3) (.slice ea4 (actD D A).1.cases.length ec4)
          have RY := g2 (fun u => OwQ u ⟨.slice ea0 (actD D A).1.code.length ec0, .slice ea1 (actD D A).1.origs.length ec1, .slice ea2 (actD D A).1.dests.length ec2, .slice ea3 (actD D A).1.loops.length ec3, .slice ea4 (actD D A).1.cases.length ec4⟩ (actD D A).1) (fun u u' kk q => q.kept kk (by decide) (by decide) (by decide)) RX.out
          have G1 := hid g1
          have RYH := hid RY
          have J := hid J7
          clear g1 g2 RY J7
          go_meet
          case rel => exact ⟨wr.heap.size, ⟨.slice ea0 (actD D A).1.code.length ec0, .slice ea1 (actD D A).1.origs.length ec1, .slice ea2 (actD D A).1.dests.length ec2, .slice ea3 (actD D A).1.loops.length ec3, .slice ea4 (actD D A).1.cases.length ec4⟩, rfl, rfl, Nat.le_refl _, G1.out, RYH.out, J.out⟩
      case rest =>
        obtain ⟨B, vx, rfl, rfl, hB, sB, oX, b2⟩ := hcut
        obtain ⟨ea0, ec0, ea1, ec1, ea2, ec2, ea3, ec3, ea4, ec4, rfl⟩ := rdD_forms oX.read
        simp only [Dv.cs] at sB
        obtain ⟨W1, hW1⟩ : ∃ x, x = wc := ⟨_, rfl⟩
        subst hW1
        have k0 := below_cell b2 c0
        have hBb : ¬ B = w.heap.size ∧ ¬ B = w.heap.size + 1 := by omega
        have OX := hid oX
        clear oX c0 CA
        by_cases hA0 : A = 0
        · subst hA0
          have good := GOOD.out
          have bad := BAD.out
          rw [if_pos rfl] at good bad
          have GP := hid good
          have BP := hid bad
          clear good bad GOOD BAD
          go_upto_region 6 with fail
          go_cut [9] (fun E wx => ∃ vy : Dv, E = .int .i64 (putD D (K, N)).2 ∧ Stands wx B vy.cs 26 ∧ OwQ wx vy (putD D (K, N)).1 ∧ Below wr.heap.size wr wx)
          case first =>
            have Z : Hid (∀ W, Below wr.heap.size wr W → (W.cell? ⟨w.heap.size, 0, none⟩ = some (.slice da0 D.code.length dc0) ∧ W.cell? ⟨w.heap.size, 1, none⟩ = some (.slice da1 D.origs.length dc1) ∧ W.cell? ⟨w.heap.size, 2, none⟩ = some (.slice da2 D.dests.length dc2) ∧ W.cell? ⟨w.heap.size, 3, none⟩ = some (.slice da3 D.loops.length dc3) ∧ W.cell? ⟨w.heap.size, 4, none⟩ = some (.slice da4 D.cases.length dc4)) ∧ W.cell? ⟨p1, q1 + 1, none⟩ = some (.int .i64 K) ∧ W.cell? ⟨p1, q1 + 2, none⟩ = some (.int .u32 N)) := by
              show ∀ W, _
              intro W q
              have s := ST0.out.below q
              exact ⟨⟨s.cell 0 _ rfl, s.cell 1 _ rfl, s.cell 2 _ rfl, s.cell 3 _ rfl, s.cell 4 _ rfl⟩, below_cell q c1, below_cell q c2⟩
            have hrd : Hid (Below W1.heap.size W1 W1.drew) := below_drewN (Below.refl _ _) 1
            have hr2 : Hid (Below wr.heap.size wr W1.drew) := below_trans b2 hrd.out
            have SB := hid sB
            clear s0 s2 c1 c2 k0 sB b2
            go_region_held2 (fun W => (W.cell? ⟨w.heap.size, 0, none⟩ = some (.slice da0 D.code.length dc0) ∧ W.cell? ⟨w.heap.size, 1, none⟩ = some (.slice da1 D.origs.length dc1) ∧ W.cell? ⟨w.heap.size, 2, none⟩ = some (.slice da2 D.dests.length dc2) ∧ W.cell? ⟨w.heap.size, 3, none⟩ = some (.slice da3 D.loops.length dc3) ∧ W.cell? ⟨w.heap.size, 4, none⟩ = some (.slice da4 D.cases.length dc4)) ∧ W.cell? ⟨p1, q1 + 1, none⟩ = some (.int .i64 K) ∧ W.cell? ⟨p1, q1 + 2, none⟩ = some (.int .u32 N)) (exact Z.out _ (by first | with_reducible exact hr2.out | with_reducible exact R3.out | with_reducible exact set5b R3.out B hB _ _ _ _ _))
              (first | (go_at_call 15; refine (CP.out _ hr2.out).mono ?_; rintro e q3 ⟨vy, rfl, ry, d3⟩; have R3 : Hid (Below wr.heap.size wr q3) := below_trans hr2.out d3; obtain ⟨fa0, fc0, fa1, fc1, fa2, fc2, fa3, fc3, fa4, fc4, rfl⟩ := rdD_forms ry.read; have RX := hid ry; (try simp only [Dv.cs]); have sB := SB.out.below (below_trans hrd.out d3); have z0 := sB.cell 0 _ rfl; have z1 := sB.cell 1 _ rfl; have z2 := sB.cell 2 _ rfl; have z3 := sB.cell 3 _ rfl; have z4 := sB.cell 4 _ rfl; have zf := sB.free; clear ry d3))
            all_goals go_wp2_with fail
            · obtain ⟨g1, g2⟩ := set5q sB (.slice fa0 (putD D (K, N)).1.code.length fc0) (.slice fa1 (putD D (K, N)).1.origs.length fc1) (.slice fa2 (putD D (K, N)).1.dests.length fc2) (.slice fa3 (putD D (K, N)).1.loops.length fc3) (.slice fa4 (putD D (K, N)).1.cases.length fc4)
              have J7 := set5b R3.out B hB (.slice fa0 (putD D (K, N)).1.code.length fc0) (.slice fa1 (putD D (K, N)).1.origs.length fc1) (.slice fa2 (putD D (K, N)).1.dests.length fc2) (.slice fa3 (putD D (K, N)).1.loops.length fc3) (.slice fa4 (putD D (K, N)).1.cases.length fc4)
              have RY := g2 (fun u => OwQ u ⟨.slice fa0 (putD D (K, N)).1.code.length fc0, .slice fa1 (putD D (K, N)).1.origs.length fc1, .slice fa2 (putD D (K, N)).1.dests.length fc2, .slice fa3 (putD D (K, N)).1.loops.length fc3, .slice fa4 (putD D (K, N)).1.cases.length fc4⟩ (putD D (K, N)).1) (fun u u' kk q => q.kept kk (by decide) (by decide) (by decide)) RX.out
              have G1 := hid g1
              have RYH := hid RY
              have J := hid J7
              clear g1 g2 RY J7
              go_meet
              case rel => exact ⟨⟨.slice fa0 (putD D (K, N)).1.code.length fc0, .slice fa1 (putD D (K, N)).1.origs.length fc1, .slice fa2 (putD D (K, N)).1.dests.length fc2, .slice fa3 (putD D (K, N)).1.loops.length fc3, .slice fa4 (putD D (K, N)).1.cases.length fc4⟩, rfl, G1.out, RYH.out, J.out⟩
          case rest =>
            obtain ⟨vy, rfl, sY, oY, b3⟩ := hcut
            obtain ⟨fa0, fc0, fa1, fc1, fa2, fc2, fa3, fc3, fa4, fc4, rfl⟩ := rdD_forms oY.read
            simp only [Dv.cs] at sY
            obtain ⟨W3, hW3⟩ : ∃ x, x = wc := ⟨_, rfl⟩
            subst hW3
            have OY := hid oY
            clear oY OX k0 sB b2 c1 c2
            by_cases hE : (putD D (K, N)).2 = 0
            · have hne : ((putD D (K, N)).2 != 0) = false := by simp [hE]
              have ht2 := GP.out hE
              have sd := ST0.out.below b3
              have sr := (ST2.out.below b3)
              have u0 := sY.cell 0 _ rfl
              have x0 := sd.cell 0 _ rfl
              have u1 := sY.cell 1 _ rfl
              have x1 := sd.cell 1 _ rfl
              have u2 := sY.cell 2 _ rfl
              have x2 := sd.cell 2 _ rfl
              have u3 := sY.cell 3 _ rfl
              have x3 := sd.cell 3 _ rfl
              have u4 := sY.cell 4 _ rfl
              have x4 := sd.cell 4 _ rfl
              have xf := sd.free
              obtain ⟨g1, g2⟩ := set5q sd (.slice fa0 (putD D (K, N)).1.code.length fc0) (.slice fa1 (putD D (K, N)).1.origs.length fc1) (.slice fa2 (putD D (K, N)).1.dests.length fc2) (.slice fa3 (putD D (K, N)).1.loops.length fc3) (.slice fa4 (putD D (K, N)).1.cases.length fc4)
              have oZ := g2 (fun u => OwQ u ⟨.slice fa0 (putD D (K, N)).1.code.length fc0, .slice fa1 (putD D (K, N)).1.origs.length fc1, .slice fa2 (putD D (K, N)).1.dests.length fc2, .slice fa3 (putD D (K, N)).1.loops.length fc3, .slice fa4 (putD D (K, N)).1.cases.length fc4⟩ (putD D (K, N)).1) (fun u u' kk q => q.kept kk (by decide) (by decide) (by decide)) OY.out
              have srZ := (((((sr.other (b' := w.heap.size) 0 (.slice fa0 (putD D (K, N)).1.code.length fc0) (by omega)).other (b' := w.heap.size) 1 (.slice fa1 (putD D (K, N)).1.origs.length fc1) (by omega)).other (b' := w.heap.size) 2 (.slice fa2 (putD D (K, N)).1.dests.length fc2) (by omega)).other (b' := w.heap.size) 3 (.slice fa3 (putD D (K, N)).1.loops.length fc3) (by omega)).other (b' := w.heap.size) 4 (.slice fa4 (putD D (K, N)).1.cases.length fc4) (by omega))
              have J7 := set5b (below_trans hg b3) w.heap.size (Nat.le_refl _) (.slice fa0 (putD D (K, N)).1.code.length fc0) (.slice fa1 (putD D (K, N)).1.origs.length fc1) (.slice fa2 (putD D (K, N)).1.dests.length fc2) (.slice fa3 (putD D (K, N)).1.loops.length fc3) (.slice fa4 (putD D (K, N)).1.cases.length fc4)
              have hz7 : W0.heap.size ≤ ((((((W3.setCell ⟨w.heap.size, 0, none⟩ (.slice fa0 (putD D (K, N)).1.code.length fc0)).setCell ⟨w.heap.size, 1, none⟩ (.slice fa1 (putD D (K, N)).1.origs.length fc1)).setCell ⟨w.heap.size, 2, none⟩ (.slice fa2 (putD D (K, N)).1.dests.length fc2)).setCell ⟨w.heap.size, 3, none⟩ (.slice fa3 (putD D (K, N)).1.loops.length fc3)).setCell ⟨w.heap.size, 4, none⟩ (.slice fa4 (putD D (K, N)).1.cases.length fc4))).heap.size := by have := b3.size; simp only [World.setCell, Array.size_modify]; omega
              have G1 := hid g1
              have OZ := hid oZ
              have SRZ := hid srZ
              have J := hid J7
              have HZ7 := hid hz7
              clear g1 g2 oZ srZ J7 hz7 hE sr sd s0 s2
              go_wp2_with fail
              go_roundw
              case rel => exact ⟨k + 1, _, ⟨.slice fa0 (putD D (K, N)).1.code.length fc0, .slice fa1 (putD D (K, N)).1.origs.length fc1, .slice fa2 (putD D (K, N)).1.dests.length fc2, .slice fa3 (putD D (K, N)).1.loops.length fc3, .slice fa4 (putD D (K, N)).1.cases.length fc4⟩, by omega, by go_num, ht2, G1.out, SRZ.out, hid (Or.inr OZ.out), J.out, HZ7.out⟩
              case measure => simp [intOf]; omega
            · have hne : ((putD D (K, N)).2 != 0) = true := by simp [hE]
              have hbl := BP.out hE
              have sd := ST0.out.below b3
              have sr := ST2.out.below b3
              have x0 := sd.cell 0 _ rfl
              have y0 := sr.cell 0 _ rfl
              have x1 := sd.cell 1 _ rfl
              have y1 := sr.cell 1 _ rfl
              have x2 := sd.cell 2 _ rfl
              have y2 := sr.cell 2 _ rfl
              have x3 := sd.cell 3 _ rfl
              have y3 := sr.cell 3 _ rfl
              have x4 := sd.cell 4 _ rfl
              have y4 := sr.cell 4 _ rfl
              have yf := sr.free
              obtain ⟨g1, g2⟩ := set5q sr (.slice da0 D.code.length dc0) (.slice da1 D.origs.length dc1) (.slice da2 D.dests.length dc2) (.slice da3 D.loops.length dc3) (.slice da4 D.cases.length dc4)
              have J7 := set5b (below_trans hg b3) (w.heap.size + 1) (by omega) (.slice da0 D.code.length dc0) (.slice da1 D.origs.length dc1) (.slice da2 D.dests.length dc2) (.slice da3 D.loops.length dc3) (.slice da4 D.cases.length dc4)
              have rZ : RdD ((((((W3.setCell ⟨(w.heap.size + 1), 0, none⟩ (.slice da0 D.code.length dc0)).setCell ⟨(w.heap.size + 1), 1, none⟩ (.slice da1 D.origs.length dc1)).setCell ⟨(w.heap.size + 1), 2, none⟩ (.slice da2 D.dests.length dc2)).setCell ⟨(w.heap.size + 1), 3, none⟩ (.slice da3 D.loops.length dc3)).setCell ⟨(w.heap.size + 1), 4, none⟩ (.slice da4 D.cases.length dc4))) ⟨.slice da0 D.code.length dc0, .slice da1 D.origs.length dc1, .slice da2 D.dests.length dc2, .slice da3 D.loops.length dc3, .slice da4 D.cases.length dc4⟩ D := RQ.out.elim (fun q => q.below J7) (fun q => (g2 (fun u => OwQ u ⟨.slice da0 D.code.length dc0, .slice da1 D.origs.length dc1, .slice da2 D.dests.length dc2, .slice da3 D.loops.length dc3, .slice da4 D.cases.length dc4⟩ D) (fun u u' kk q => q.kept kk (by decide) (by decide) (by decide)) (q.below b3)).read)
              have G1 := hid g1
              have RZ := hid rZ
              have J := hid J7
              clear g1 g2 rZ J7 hE sr sd s0 s2
              go_wp2_with fail
              (try simp only [Exit.inBlock, Exit.then])
              refine bodyPost_ret (res_row3 rfl _ _ (w.heap.size + 1) 26 _ (0, 0) _ rfl G1.out Try.underlying26 rfl (show _ = some 5 by kernel_rfl)) rfl ?_
              rw [hbl.out]
              exact ⟨⟨.slice da0 D.code.length dc0, .slice da1 D.origs.length dc1, .slice da2 D.dests.length dc2, .slice da3 D.loops.length dc3, .slice da4 D.cases.length dc4⟩, rfl, RZ.out, J.out⟩
        · have hA1 : (A == 0) = false := by rw [beq_eq_false_iff_ne]; exact hA0
          have good := GOOD.out
          have bad := BAD.out
          rw [if_neg hA0] at good bad
          have GP := hid good
          have BP := hid bad
          clear good bad GOOD BAD hA0 c1 c2 CP
          by_cases hE : (actD D A).2 = 0
          · have hne : ((actD D A).2 != 0) = false := by simp [hE]
            have ht2 := GP.out hE
            have sd := ST0.out.below b2
            have sr := (ST2.out.below b2)
            have u0 := sB.cell 0 _ rfl
            have x0 := sd.cell 0 _ rfl
            have u1 := sB.cell 1 _ rfl
            have x1 := sd.cell 1 _ rfl
            have u2 := sB.cell 2 _ rfl
            have x2 := sd.cell 2 _ rfl
            have u3 := sB.cell 3 _ rfl
            have x3 := sd.cell 3 _ rfl
            have u4 := sB.cell 4 _ rfl
            have x4 := sd.cell 4 _ rfl
            have xf := sd.free
            obtain ⟨g1, g2⟩ := set5q sd (.slice ea0 (actD D A).1.code.length ec0) (.slice ea1 (actD D A).1.origs.length ec1) (.slice ea2 (actD D A).1.dests.length ec2) (.slice ea3 (actD D A).1.loops.length ec3) (.slice ea4 (actD D A).1.cases.length ec4)
            have oZ := g2 (fun u => OwQ u ⟨.slice ea0 (actD D A).1.code.length ec0, .slice ea1 (actD D A).1.origs.length ec1, .slice ea2 (actD D A).1.dests.length ec2, .slice ea3 (actD D A).1.loops.length ec3, .slice ea4 (actD D A).1.cases.length ec4⟩ (actD D A).1) (fun u u' kk q => q.kept kk (by decide) (by decide) (by decide)) OX.out
            have srZ := (((((sr.other (b' := w.heap.size) 0 (.slice ea0 (actD D A).1.code.length ec0) (by omega)).other (b' := w.heap.size) 1 (.slice ea1 (actD D A).1.origs.length ec1) (by omega)).other (b' := w.heap.size) 2 (.slice ea2 (actD D A).1.dests.length ec2) (by omega)).other (b' := w.heap.size) 3 (.slice ea3 (actD D A).1.loops.length ec3) (by omega)).other (b' := w.heap.size) 4 (.slice ea4 (actD D A).1.cases.length ec4) (by omega))
            have J7 := set5b (below_trans hg b2) w.heap.size (Nat.le_refl _) (.slice ea0 (actD D A).1.code.length ec0) (.slice ea1 (actD D A).1.origs.length ec1) (.slice ea2 (actD D A).1.dests.length ec2) (.slice ea3 (actD D A).1.loops.length ec3) (.slice ea4 (actD D A).1.cases.length ec4)
            have hz7 : W0.heap.size ≤ ((((((W1.setCell ⟨w.heap.size, 0, none⟩ (.slice ea0 (actD D A).1.code.length ec0)).setCell ⟨w.heap.size, 1, none⟩ (.slice ea1 (actD D A).1.origs.length ec1)).setCell ⟨w.heap.size, 2, none⟩ (.slice ea2 (actD D A).1.dests.length ec2)).setCell ⟨w.heap.size, 3, none⟩ (.slice ea3 (actD D A).1.loops.length ec3)).setCell ⟨w.heap.size, 4, none⟩ (.slice ea4 (actD D A).1.cases.length ec4))).heap.size := by have := b2.size; simp only [World.setCell, Array.size_modify]; omega
            have G1 := hid g1
            have OZ := hid oZ
            have SRZ := hid srZ
            have J := hid J7
            have HZ7 := hid hz7
            clear g1 g2 oZ srZ J7 hz7 hE sr sd s0 s2
            go_wp2_with fail
            go_roundw
            case rel => exact ⟨k + 1, _, ⟨.slice ea0 (actD D A).1.code.length ec0, .slice ea1 (actD D A).1.origs.length ec1, .slice ea2 (actD D A).1.dests.length ec2, .slice ea3 (actD D A).1.loops.length ec3, .slice ea4 (actD D A).1.cases.length ec4⟩, by omega, by go_num, ht2, G1.out, SRZ.out, hid (Or.inr OZ.out), J.out, HZ7.out⟩
            case measure => simp [intOf]; omega
          · have hne : ((actD D A).2 != 0) = true := by simp [hE]
            have hbl := BP.out hE
            have sd := ST0.out.below b2
            have sr := ST2.out.below b2
            have x0 := sd.cell 0 _ rfl
            have y0 := sr.cell 0 _ rfl
            have x1 := sd.cell 1 _ rfl
            have y1 := sr.cell 1 _ rfl
            have x2 := sd.cell 2 _ rfl
            have y2 := sr.cell 2 _ rfl
            have x3 := sd.cell 3 _ rfl
            have y3 := sr.cell 3 _ rfl
            have x4 := sd.cell 4 _ rfl
            have y4 := sr.cell 4 _ rfl
            have yf := sr.free
            obtain ⟨g1, g2⟩ := set5q sr (.slice da0 D.code.length dc0) (.slice da1 D.origs.length dc1) (.slice da2 D.dests.length dc2) (.slice da3 D.loops.length dc3) (.slice da4 D.cases.length dc4)
            have J7 := set5b (below_trans hg b2) (w.heap.size + 1) (by omega) (.slice da0 D.code.length dc0) (.slice da1 D.origs.length dc1) (.slice da2 D.dests.length dc2) (.slice da3 D.loops.length dc3) (.slice da4 D.cases.length dc4)
            have rZ : RdD ((((((W1.setCell ⟨(w.heap.size + 1), 0, none⟩ (.slice da0 D.code.length dc0)).setCell ⟨(w.heap.size + 1), 1, none⟩ (.slice da1 D.origs.length dc1)).setCell ⟨(w.heap.size + 1), 2, none⟩ (.slice da2 D.dests.length dc2)).setCell ⟨(w.heap.size + 1), 3, none⟩ (.slice da3 D.loops.length dc3)).setCell ⟨(w.heap.size + 1), 4, none⟩ (.slice da4 D.cases.length dc4))) ⟨.slice da0 D.code.length dc0, .slice da1 D.origs.length dc1, .slice da2 D.dests.length dc2, .slice da3 D.loops.length dc3, .slice da4 D.cases.length dc4⟩ D := RQ.out.elim (fun q => q.below J7) (fun q => (g2 (fun u => OwQ u ⟨.slice da0 D.code.length dc0, .slice da1 D.origs.length dc1, .slice da2 D.dests.length dc2, .slice da3 D.loops.length dc3, .slice da4 D.cases.length dc4⟩ D) (fun u u' kk q => q.kept kk (by decide) (by decide) (by decide)) (q.below b2)).read)
            have G1 := hid g1
            have RZ := hid rZ
            have J := hid J7
            clear g1 g2 rZ J7 hE sr sd s0 s2
            go_wp2_with fail
            (try simp only [Exit.inBlock, Exit.then])
            refine bodyPost_ret (res_row3 rfl _ _ (w.heap.size + 1) 26 _ (0, 0) _ rfl G1.out Try.underlying26 rfl (show _ = some 5 by kernel_rfl)) rfl ?_
            rw [hbl.out]
            exact ⟨⟨.slice da0 D.code.length dc0, .slice da1 D.origs.length dc1, .slice da2 D.dests.length dc2, .slice da3 D.loops.length dc3, .slice da4 D.cases.length dc4⟩, rfl, RZ.out, J.out⟩
    · have hbl := hid (bld_end (by omega) hD.out)
      have x0 := s0.cell 0 _ rfl
      have y0 := s2.cell 0 _ rfl
      have x1 := s0.cell 1 _ rfl
      have y1 := s2.cell 1 _ rfl
      have x2 := s0.cell 2 _ rfl
      have y2 := s2.cell 2 _ rfl
      have x3 := s0.cell 3 _ rfl
      have y3 := s2.cell 3 _ rfl
      have x4 := s0.cell 4 _ rfl
      have y4 := s2.cell 4 _ rfl
      have yf := s2.free
      obtain ⟨g1, g2⟩ := set5q s2 (.slice da0 D.code.length dc0) (.slice da1 D.origs.length dc1) (.slice da2 D.dests.length dc2) (.slice da3 D.loops.length dc3) (.slice da4 D.cases.length dc4)
      have J7 := set5b hg (w.heap.size + 1) (by omega) (.slice da0 D.code.length dc0) (.slice da1 D.origs.length dc1) (.slice da2 D.dests.length dc2) (.slice da3 D.loops.length dc3) (.slice da4 D.cases.length dc4)
      have rZ : RdD ((((((wr.setCell ⟨(w.heap.size + 1), 0, none⟩ (.slice da0 D.code.length dc0)).setCell ⟨(w.heap.size + 1), 1, none⟩ (.slice da1 D.origs.length dc1)).setCell ⟨(w.heap.size + 1), 2, none⟩ (.slice da2 D.dests.length dc2)).setCell ⟨(w.heap.size + 1), 3, none⟩ (.slice da3 D.loops.length dc3)).setCell ⟨(w.heap.size + 1), 4, none⟩ (.slice da4 D.cases.length dc4))) ⟨.slice da0 D.code.length dc0, .slice da1 D.origs.length dc1, .slice da2 D.dests.length dc2, .slice da3 D.loops.length dc3, .slice da4 D.cases.length dc4⟩ D := RQ.out.elim (fun q => q.below J7) (fun q => (g2 (fun u => OwQ u ⟨.slice da0 D.code.length dc0, .slice da1 D.origs.length dc1, .slice da2 D.dests.length dc2, .slice da3 D.loops.length dc3, .slice da4 D.cases.length dc4⟩ D) (fun u u' kk q => q.kept kk (by decide) (by decide) (by decide)) q).read)
      have hkk : (l.length : Int) = k := by omega
      have HK := hid hkk
      have G1 := hid g1
      have RZ := hid rZ
      have J := hid J7
      clear g1 g2 rZ J7 s0 s2 hkk
      go_wp2_with fail
      (try simp only [Exit.inBlock, Exit.then])
      refine bodyPost_ret (res_row3 rfl _ _ (w.heap.size + 1) 26 _ (0, 0) _ rfl G1.out Try.underlying26 rfl (show _ = some 5 by kernel_rfl)) rfl ?_
      rw [hbl.out]
      exact ⟨⟨.slice da0 D.code.length dc0, .slice da1 D.origs.length dc1, .slice da2 D.dests.length dc2, .slice da3 D.loops.length dc3, .slice da4 D.cases.length dc4⟩, by rw [← HK.out]; rfl, RZ.out, J.out⟩
end Go.Proofs.Ytfmpeminfcehaaa
