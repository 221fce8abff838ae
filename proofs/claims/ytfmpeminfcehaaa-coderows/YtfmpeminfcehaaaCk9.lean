/-
  do of the landed package code.
-/
import Derived.Test.YtfmpeminfcehaaaCk8
namespace Go.Proofs.Ytfmpeminfcehaaa
open Go.ChangeShapes Go.WideShapes Go.ChangeAt Go.RowKit
set_option linter.unusedVariables false
set_option linter.unusedSimpArgs false

set_option maxHeartbeats 4000000 in
set_option maxRecDepth 100000 in
theorem w_p10begin (q base b1 b2 b3 : Nat) (x0 x1 x2 x3 x4 : Value) (d : Dft) (w : World) (st0 : Stands w q #[x0, x1, x2, x3, x4] 52) (oD : OwD base w ⟨x0, x1, x2, x3, x4⟩ d b1 b2 b3) (hf : frmD d = true) (ze : szE d) (hq : base ≤ q) :
    Calls Try.prog 23 #[.pointer (some ⟨q, 0, none⟩), .int .i64 4] w (ActP q base w d 4) := by
  have oc0 := oD.code
  have U0 : Hid (Out 0 0 w w) := Out.refl _ _ _
  have B0 : Hid (Below base w w) := Below.refl _ _
  have hs0 := oD.size
  have hcl := pfrm_code hf
  have l1 := oD.le1
  have l2 := oD.le2
  have l3 := oD.le3
  have l4 := oD.le4
  dsimp only at oc0
  have hlk : lakF d 4 = false := rfl
  have prA : ∀ k, x2.ownBlock = some k → b1 ≤ k ∧ k < b2 := fun k hk => ⟨(oD.dests.lt k hk).1, oD.destsL k hk⟩
  have zo := ze.dests
  have hD : actD d 4 = (⟨d.code, d.origs, d.dests ++ [(d.code.length : Int)], d.loops, d.cases⟩, 0) := by
    rw [pact_yes hf (by decide) (by decide) hlk (fun h => h.1 rfl)]
    exact congrArg (fun x => (x, (0 : Int))) (by simp [doD, layF, ladF])
  have hla := slr_len (OwnR.read (R := opR) (by decide) oc0 (fun _ _ q => q)) uO (P := Try.prog)
  have f0 := st0.cell 0 _ rfl
  have f2 := st0.cell 2 _ rfl
  have bX := box_below w (.cells #[.int .i64 (d.code.length : Int)] 3)
  have bd : Below (w.alloc (.cells #[.int .i64 (d.code.length : Int)] 3)).heap.size (w.alloc (.cells #[.int .i64 (d.code.length : Int)] 3)) (w.alloc (.cells #[.int .i64 (d.code.length : Int)] 3)).drew := below_drewN (Below.refl _ _) 1
  have b3x := below_trans bX bd
  have stX := st0.below b3x
  have f2b := (st0.below bX).cell 2 _ rfl
  have f0b := (st0.below bX).cell 0 _ rfl
  have pX := own_le (b := base) l1 (own_below oD.dests b3x)
  have hsX := Nat.le_trans hs0 b3x.size
  obtain ⟨i8, hi8, hz6, hz5, hz4⟩ := info_parts infoJ10
  have hlY : (d.dests ++ ([(d.code.length : Int)] : List Int)).length = d.dests.length + 1 := by simp
  have hbd : (d.dests.length + ([(d.code.length : Int)] : List Int).length) * 8 ≤ 140737488355328 ∧ d.dests.length + ([(d.code.length : Int)] : List Int).length ≤ maxLen := by rw [List.length_append] at hlY; rw [hlY]; unfold maxLen; omega
  have RX := hid (Rd.below (rd_one (k := .i64) w (d.code.length : Int) 3) bd)
  have B3 := hid b3x
  have HD := hid hD
  clear bd bX b3x hD
  go_enter Try.func23, Try.ntmps23
  go_wp2_with fail
  go_region_law (refine step_append_rd (k := .i64) rfl (.tmp 25) (.tmp 32) 23 rfl base 3 i8 8 Try.underlying23 hi8 hz6 hz5 hz4 x2 d.dests (by simp [Act.eval, Act.put]) pX (.slice (some ⟨w.heap.size, 0, none⟩) 1 1) ([(d.code.length : Int)] : List Int) (by simp [Act.eval, Act.put]) RX.out hbd.2 hbd.1 hsX ?_; intro v9 wn ho9 hg9; rw [hlY] at ho9; obtain ⟨a8, c8, rfl⟩ := own_form ho9; have so9 := Stands.grown stX hg9 (stands_apart stX pX (by decide)); have y2 := so9.cell 2 _ rfl; have yg := so9.free 2; have HO := hid ho9; clear ho9)
  all_goals (
    have ho9 := HO.out
    have kW := Kept.own pX hg9
    have kS := set_kept so9 2 (.slice a8 (d.dests.length + 1) c8)
    have soZ : Stands (wn.setCell ⟨q, 2, none⟩ (.slice a8 (d.dests.length + 1) c8)) q #[x0, x1, .slice a8 (d.dests.length + 1) c8, x3, x4] 52 := so9.set 2 (.slice a8 (d.dests.length + 1) c8)
    have ocZ : OwC base (wn.setCell ⟨q, 2, none⟩ (.slice a8 (d.dests.length + 1) c8)) _ _ := OwnR.kept (OwnR.kept (OwnR.below oc0 B3.out (fun _ _ q => q)) kW (by decide) opR_apt10) kS (by decide) opR_apt10
    have rowZ : (wn.setCell ⟨q, 2, none⟩ (.slice a8 (d.dests.length + 1) c8)).ownsRow base 3 1 (.slice a8 (d.dests.length + 1) c8) (d.dests ++ ([(d.code.length : Int)] : List Int)).length ((d.dests ++ ([(d.code.length : Int)] : List Int)).map (Value.int .i64)) := by rw [hlY]; exact own_kept kS (by decide) ho9
    have UZ : Out b1 b2 w (wn.setCell ⟨q, 2, none⟩ (.slice a8 (d.dests.length + 1) c8)) := (Out.below B3.out).trans ((Out.grown hg9 prA).trans (Out.kept kS (by decide) (by decide)))
    have BZ : Below base w (wn.setCell ⟨q, 2, none⟩ (.slice a8 (d.dests.length + 1) c8)) := bset (bgrown (below_base B3.out hs0) hg9 hsX (fun k hk => (pX.lt k hk).1)) q 2 (.slice a8 (d.dests.length + 1) c8) hq
    have oEZ := OwD.toD oD UZ ocZ rowZ
    go_wp2_with fail
    go_ret
    exact actP_yes (v' := ⟨x0, x1, .slice a8 (d.dests.length + 1) c8, x3, x4⟩) HD.out soZ oEZ BZ rfl)

set_option maxHeartbeats 4000000 in
set_option maxRecDepth 100000 in
theorem w_p10case (q base b1 b2 b3 : Nat) (x0 x1 x2 x3 x4 : Value) (d : Dft) (w : World) (st0 : Stands w q #[x0, x1, x2, x3, x4] 52) (oD : OwD base w ⟨x0, x1, x2, x3, x4⟩ d b1 b2 b3) (hf : frmD d = true) (ze : szE d) (hq : base ≤ q) :
    Calls Try.prog 23 #[.pointer (some ⟨q, 0, none⟩), .int .i64 12] w (ActP q base w d 12) := by
  have oc0 := oD.code
  have U0 : Hid (Out 0 0 w w) := Out.refl _ _ _
  have B0 : Hid (Below base w w) := Below.refl _ _
  have hs0 := oD.size
  have hcl := pfrm_code hf
  have l1 := oD.le1
  have l2 := oD.le2
  have l3 := oD.le3
  have l4 := oD.le4
  dsimp only at oc0
  have hlk : lakF d 12 = false := rfl
  have prA := oD.cases.rng
  have zo := ze.cases
  have hD : actD d 12 = (⟨d.code, d.origs, d.dests, d.loops, d.cases ++ [(-1, [])]⟩, 0) := by
    rw [pact_yes hf (by decide) (by decide) hlk (fun h => h.1 rfl)]
    exact congrArg (fun x => (x, (0 : Int))) (by simp [doD, layF, ladF])
  go_enter Try.func23, Try.ntmps23
  have own := oD.cases.owe (base := base) (by omega)
  have bX := box_below w (.cells #[.int .i64 (-1), .slice none 0 0] 58)
  have stX := st0.below bX
  obtain ⟨rowsX, p1, p2, p3, p4⟩ := OwnR.below own bX (opnO_below bX)
  have hsX := Nat.le_trans hs0 bX.size
  obtain ⟨i9n, hi9n, hz9n, hz8n, hz7n⟩ := info_parts infoOn10
  have one : ∀ r ∈ [[Value.int .i64 (-1), .slice none 0 0]], ∀ u ∈ r, u.oneCell' = true := fun r hr u hu => by rw [List.mem_singleton] at hr; subst hr; simp at hu; rcases hu with rfl | rfl <;> rfl
  have hll : d.cases.length = d.cases.length := by simp <;> omega
  rw [hll] at p3
  have P1 := hid p1
  have P2 := hid p2
  have P4 := hid p4
  have OPN := hid (own_below (World.ownsRow_nil w base 3 1) bX)
  clear p1 p2 p4
  have f4 := (st0.below bX).cell 4 _ rfl
  have f4b := st0.cell 4 _ rfl
  go_upto_region 27 with (at_builtin; refine wpList_append_rowsB rfl _ _ 24 rfl base 58 i9n _ 2 32 Try.underlying24 hi9n hz9n hz8n hz7n rfl (by decide) _ (d.cases.length) _ rfl p3 _ [[Value.int .i64 (-1), .slice none 0 0]] rfl (slc_one w [Value.int .i64 (-1), .slice none 0 0] 58 2 rfl) one (by unfold maxLen; simp only [List.length_singleton]; omega) (by simp only [List.length_singleton]; omega) hsX ?_; intro v9 wn ho9 hg9; have ho9 : wn.ownsRow base 58 2 v9 (d.cases.length + 1) (rowsX.flatten ++ [Value.int .i64 (-1), .slice none 0 0]) := (by simpa using ho9); obtain ⟨a7, c7, rfl⟩ := own_form ho9; have so9 := Stands.grown stX hg9 (stands_apart stX p3 (by decide)); have y2 := so9.cell 4 _ rfl; have yg := so9.free 4)
  have kW := Kept.own p3 hg9
  have kS := set_kept so9 4 (.slice a7 (d.cases.length + 1) c7)
  have soZ : Stands (wn.setCell ⟨q, 4, none⟩ (.slice a7 (d.cases.length + 1) c7)) q #[x0, x1, x2, x3, .slice a7 (d.cases.length + 1) c7] 52 := so9.set 4 (.slice a7 (d.cases.length + 1) c7)
  have ocZ : OwC base (wn.setCell ⟨q, 4, none⟩ (.slice a7 (d.cases.length + 1) c7)) _ _ := OwnR.kept (OwnR.kept (OwnR.below oc0 bX (fun _ _ q => q)) kW (by decide) opR_apt10) kS (by decide) opR_apt10
  have rowY : OwnR 58 2 (opnO base) base wn (.slice a7 (d.cases.length + 1) c7) (d.cases ++ [((-1), [])]) := OwnR.snoc (e := 58) (O := opnO base) (opnO_apt (by decide)) P1.out P2.out (by rw [hll]; exact p3) P4.out rfl (x := ((-1), [])) ⟨_, rfl, OPN.out⟩ (by rw [hll]; exact ho9) hg9
  have rowZ := OwnR.kept rowY kS (by decide) (opnO_apt (by decide))
  have UZ : Out b3 w.heap.size w (wn.setCell ⟨q, 4, none⟩ (.slice a7 (d.cases.length + 1) c7)) := U0.out.all.trans ((Out.below bX).trans ((Out.grown hg9 prA).trans (Out.kept kS (by decide) (by decide))))
  have BZ : Below base w (wn.setCell ⟨q, 4, none⟩ (.slice a7 (d.cases.length + 1) c7)) := bset (bgrown (btrans B0.out (below_base bX hs0)) hg9 hsX (fun k hk => (p3.lt k hk).1)) q 4 (.slice a7 (d.cases.length + 1) c7) hq
  have oEZ := OwD.toK oD UZ ocZ rowZ
  go_wp2_with fail
  go_ret
  exact actP_yes (v' := ⟨x0, x1, x2, x3, .slice a7 (d.cases.length + 1) c7⟩) hD soZ oEZ BZ rfl

set_option maxHeartbeats 4000000 in
set_option maxRecDepth 100000 in
theorem w_p10do1 (q base b1 b2 b3 : Nat) (x0 x1 x2 x3 x4 : Value) (d : Dft) (w : World) (st0 : Stands w q #[x0, x1, x2, x3, x4] 52) (oD : OwD base w ⟨x0, x1, x2, x3, x4⟩ d b1 b2 b3) (hf : frmD d = true) (ze : szE d) (hq : base ≤ q) :
    Calls Try.prog 23 #[.pointer (some ⟨q, 0, none⟩), .int .i64 1] w (ActP q base w d 1) := by
  have c := w_p10if q base b1 b2 b3 x0 x1 x2 x3 x4 d w st0 oD hf ze hq
  clear st0 oD hf ze hq
  go_enter Try.func23, Try.ntmps23
  go_wp2_with (go_at_call 38; refine c.mono ?_; rintro e w2 ⟨rfl, h2, h3⟩; clear c)
  go_ret
  unfold ActP
  exact ⟨rfl, h2, h3⟩

set_option maxHeartbeats 4000000 in
set_option maxRecDepth 100000 in
theorem w_p10do2 (q base b1 b2 b3 : Nat) (x0 x1 x2 x3 x4 : Value) (d : Dft) (w : World) (st0 : Stands w q #[x0, x1, x2, x3, x4] 52) (oD : OwD base w ⟨x0, x1, x2, x3, x4⟩ d b1 b2 b3) (hf : frmD d = true) (ze : szE d) (hq : base ≤ q) :
    Calls Try.prog 23 #[.pointer (some ⟨q, 0, none⟩), .int .i64 2] w (ActP q base w d 2) := by
  have c := w_p10ahead q base b1 b2 b3 x0 x1 x2 x3 x4 d w st0 oD hf ze hq
  clear st0 oD hf ze hq
  go_enter Try.func23, Try.ntmps23
  go_wp2_with (go_at_call 39; refine c.mono ?_; rintro e w2 ⟨rfl, h2, h3⟩; clear c)
  go_ret
  unfold ActP
  exact ⟨rfl, h2, h3⟩

set_option maxHeartbeats 4000000 in
set_option maxRecDepth 100000 in
theorem w_p10do3 (q base b1 b2 b3 : Nat) (x0 x1 x2 x3 x4 : Value) (d : Dft) (w : World) (st0 : Stands w q #[x0, x1, x2, x3, x4] 52) (oD : OwD base w ⟨x0, x1, x2, x3, x4⟩ d b1 b2 b3) (hf : frmD d = true) (ze : szE d) (hq : base ≤ q) :
    Calls Try.prog 23 #[.pointer (some ⟨q, 0, none⟩), .int .i64 3] w (ActP q base w d 3) := by
  have c := w_p10then q base b1 b2 b3 x0 x1 x2 x3 x4 d w st0 oD hf ze hq
  clear st0 oD hf ze hq
  go_enter Try.func23, Try.ntmps23
  go_wp2_with (go_at_call 40; refine c.mono ?_; rintro e w2 ⟨rfl, h2, h3⟩; clear c)
  go_ret
  unfold ActP
  exact ⟨rfl, h2, h3⟩

set_option maxHeartbeats 4000000 in
set_option maxRecDepth 100000 in
theorem w_p10do5 (q base b1 b2 b3 : Nat) (x0 x1 x2 x3 x4 : Value) (d : Dft) (w : World) (st0 : Stands w q #[x0, x1, x2, x3, x4] 52) (oD : OwD base w ⟨x0, x1, x2, x3, x4⟩ d b1 b2 b3) (hf : frmD d = true) (ze : szE d) (hq : base ≤ q) :
    Calls Try.prog 23 #[.pointer (some ⟨q, 0, none⟩), .int .i64 5] w (ActP q base w d 5) := by
  have c := w_p10back q base b1 b2 b3 x0 x1 x2 x3 x4 d w st0 oD hf ze hq 3 5 (by decide)
  clear st0 oD hf ze hq
  go_enter Try.func23, Try.ntmps23
  go_wp2_with (go_at_call 41; refine c.mono ?_; rintro e w2 ⟨rfl, h2, h3⟩; clear c)
  go_ret
  unfold ActP
  exact ⟨rfl, h2, h3⟩

set_option maxHeartbeats 4000000 in
set_option maxRecDepth 100000 in
theorem w_p10do6 (q base b1 b2 b3 : Nat) (x0 x1 x2 x3 x4 : Value) (d : Dft) (w : World) (st0 : Stands w q #[x0, x1, x2, x3, x4] 52) (oD : OwD base w ⟨x0, x1, x2, x3, x4⟩ d b1 b2 b3) (hf : frmD d = true) (ze : szE d) (hq : base ≤ q) :
    Calls Try.prog 23 #[.pointer (some ⟨q, 0, none⟩), .int .i64 6] w (ActP q base w d 6) := by
  have c := w_p10back q base b1 b2 b3 x0 x1 x2 x3 x4 d w st0 oD hf ze hq 4 6 (by decide)
  clear st0 oD hf ze hq
  go_enter Try.func23, Try.ntmps23
  go_wp2_with (go_at_call 41; refine c.mono ?_; rintro e w2 ⟨rfl, h2, h3⟩; clear c)
  go_ret
  unfold ActP
  exact ⟨rfl, h2, h3⟩

set_option maxHeartbeats 4000000 in
set_option maxRecDepth 100000 in
theorem w_p10do7 (q base b1 b2 b3 : Nat) (x0 x1 x2 x3 x4 : Value) (d : Dft) (w : World) (st0 : Stands w q #[x0, x1, x2, x3, x4] 52) (oD : OwD base w ⟨x0, x1, x2, x3, x4⟩ d b1 b2 b3) (hf : frmD d = true) (ze : szE d) (hq : base ≤ q) :
    Calls Try.prog 23 #[.pointer (some ⟨q, 0, none⟩), .int .i64 7] w (ActP q base w d 7) := by
  have c := w_p10openLoop q base b1 b2 b3 x0 x1 x2 x3 x4 d w st0 oD hf ze hq 5 7 (by decide)
  clear st0 oD hf ze hq
  go_enter Try.func23, Try.ntmps23
  go_wp2_with (go_at_call 42; refine c.mono ?_; rintro e w2 ⟨rfl, h2, h3⟩; clear c)
  go_ret
  unfold ActP
  exact ⟨rfl, h2, h3⟩

set_option maxHeartbeats 4000000 in
set_option maxRecDepth 100000 in
theorem w_p10do8 (q base b1 b2 b3 : Nat) (x0 x1 x2 x3 x4 : Value) (d : Dft) (w : World) (st0 : Stands w q #[x0, x1, x2, x3, x4] 52) (oD : OwD base w ⟨x0, x1, x2, x3, x4⟩ d b1 b2 b3) (hf : frmD d = true) (ze : szE d) (hq : base ≤ q) :
    Calls Try.prog 23 #[.pointer (some ⟨q, 0, none⟩), .int .i64 8] w (ActP q base w d 8) := by
  have c := w_p10openLoop q base b1 b2 b3 x0 x1 x2 x3 x4 d w st0 oD hf ze hq 6 8 (by decide)
  clear st0 oD hf ze hq
  go_enter Try.func23, Try.ntmps23
  go_wp2_with (go_at_call 42; refine c.mono ?_; rintro e w2 ⟨rfl, h2, h3⟩; clear c)
  go_ret
  unfold ActP
  exact ⟨rfl, h2, h3⟩

set_option maxHeartbeats 4000000 in
set_option maxRecDepth 100000 in
theorem w_p10do9 (q base b1 b2 b3 : Nat) (x0 x1 x2 x3 x4 : Value) (d : Dft) (w : World) (st0 : Stands w q #[x0, x1, x2, x3, x4] 52) (oD : OwD base w ⟨x0, x1, x2, x3, x4⟩ d b1 b2 b3) (hf : frmD d = true) (ze : szE d) (hq : base ≤ q) :
    Calls Try.prog 23 #[.pointer (some ⟨q, 0, none⟩), .int .i64 9] w (ActP q base w d 9) := by
  have c := w_p10closeLoop q base b1 b2 b3 x0 x1 x2 x3 x4 d w st0 oD hf ze hq 7 9 (by decide)
  clear st0 oD hf ze hq
  go_enter Try.func23, Try.ntmps23
  go_wp2_with (go_at_call 43; refine c.mono ?_; rintro e w2 ⟨rfl, h2, h3⟩; clear c)
  go_ret
  unfold ActP
  exact ⟨rfl, h2, h3⟩

set_option maxHeartbeats 4000000 in
set_option maxRecDepth 100000 in
theorem w_p10do10 (q base b1 b2 b3 : Nat) (x0 x1 x2 x3 x4 : Value) (d : Dft) (w : World) (st0 : Stands w q #[x0, x1, x2, x3, x4] 52) (oD : OwD base w ⟨x0, x1, x2, x3, x4⟩ d b1 b2 b3) (hf : frmD d = true) (ze : szE d) (hq : base ≤ q) :
    Calls Try.prog 23 #[.pointer (some ⟨q, 0, none⟩), .int .i64 10] w (ActP q base w d 10) := by
  have c := w_p10closeLoop q base b1 b2 b3 x0 x1 x2 x3 x4 d w st0 oD hf ze hq 8 10 (by decide)
  clear st0 oD hf ze hq
  go_enter Try.func23, Try.ntmps23
  go_wp2_with (go_at_call 43; refine c.mono ?_; rintro e w2 ⟨rfl, h2, h3⟩; clear c)
  go_ret
  unfold ActP
  exact ⟨rfl, h2, h3⟩

set_option maxHeartbeats 4000000 in
set_option maxRecDepth 100000 in
theorem w_p10do11 (q base b1 b2 b3 : Nat) (x0 x1 x2 x3 x4 : Value) (d : Dft) (w : World) (st0 : Stands w q #[x0, x1, x2, x3, x4] 52) (oD : OwD base w ⟨x0, x1, x2, x3, x4⟩ d b1 b2 b3) (hf : frmD d = true) (ze : szE d) (hq : base ≤ q) :
    Calls Try.prog 23 #[.pointer (some ⟨q, 0, none⟩), .int .i64 11] w (ActP q base w d 11) := by
  have c := w_p10leave q base b1 b2 b3 x0 x1 x2 x3 x4 d w st0 oD hf ze hq
  clear st0 oD hf ze hq
  go_enter Try.func23, Try.ntmps23
  go_wp2_with (go_at_call 44; refine c.mono ?_; rintro e w2 ⟨rfl, h2, h3⟩; clear c)
  go_ret
  unfold ActP
  exact ⟨rfl, h2, h3⟩

set_option maxHeartbeats 4000000 in
set_option maxRecDepth 100000 in
theorem w_p10do13 (q base b1 b2 b3 : Nat) (x0 x1 x2 x3 x4 : Value) (d : Dft) (w : World) (st0 : Stands w q #[x0, x1, x2, x3, x4] 52) (oD : OwD base w ⟨x0, x1, x2, x3, x4⟩ d b1 b2 b3) (hf : frmD d = true) (ze : szE d) (hq : base ≤ q) :
    Calls Try.prog 23 #[.pointer (some ⟨q, 0, none⟩), .int .i64 13] w (ActP q base w d 13) := by
  have c := w_p10openOf q base b1 b2 b3 x0 x1 x2 x3 x4 d w st0 oD hf ze hq
  clear st0 oD hf ze hq
  go_enter Try.func23, Try.ntmps23
  go_wp2_with (go_at_call 45; refine c.mono ?_; rintro e w2 ⟨rfl, h2, h3⟩; clear c)
  go_ret
  unfold ActP
  exact ⟨rfl, h2, h3⟩

set_option maxHeartbeats 4000000 in
set_option maxRecDepth 100000 in
theorem w_p10do14 (q base b1 b2 b3 : Nat) (x0 x1 x2 x3 x4 : Value) (d : Dft) (w : World) (st0 : Stands w q #[x0, x1, x2, x3, x4] 52) (oD : OwD base w ⟨x0, x1, x2, x3, x4⟩ d b1 b2 b3) (hf : frmD d = true) (ze : szE d) (hq : base ≤ q) :
    Calls Try.prog 23 #[.pointer (some ⟨q, 0, none⟩), .int .i64 14] w (ActP q base w d 14) := by
  have c := w_p10closeOf q base b1 b2 b3 x0 x1 x2 x3 x4 d w st0 oD hf ze hq
  clear st0 oD hf ze hq
  go_enter Try.func23, Try.ntmps23
  go_wp2_with (go_at_call 46; refine c.mono ?_; rintro e w2 ⟨rfl, h2, h3⟩; clear c)
  go_ret
  unfold ActP
  exact ⟨rfl, h2, h3⟩

set_option maxHeartbeats 4000000 in
set_option maxRecDepth 100000 in
theorem w_p10do15 (q base b1 b2 b3 : Nat) (x0 x1 x2 x3 x4 : Value) (d : Dft) (w : World) (st0 : Stands w q #[x0, x1, x2, x3, x4] 52) (oD : OwD base w ⟨x0, x1, x2, x3, x4⟩ d b1 b2 b3) (hf : frmD d = true) (ze : szE d) (hq : base ≤ q) :
    Calls Try.prog 23 #[.pointer (some ⟨q, 0, none⟩), .int .i64 15] w (ActP q base w d 15) := by
  have c := w_p10closeCase q base b1 b2 b3 x0 x1 x2 x3 x4 d w st0 oD hf ze hq
  clear st0 oD hf ze hq
  go_enter Try.func23, Try.ntmps23
  go_wp2_with (go_at_call 47; refine c.mono ?_; rintro e w2 ⟨rfl, h2, h3⟩; clear c)
  go_ret
  unfold ActP
  exact ⟨rfl, h2, h3⟩

set_option maxHeartbeats 4000000 in
set_option maxRecDepth 100000 in
theorem w_p10do0 (q base : Nat) (d : Dft) (A : Int) (w : World) (hA : A < 1 ∨ 15 < A) :
    Calls Try.prog 23 #[.pointer (some ⟨q, 0, none⟩), .int .i64 A] w (ActP q base w d A) := by
  have hN : actD d A = (nilD, 1) := by unfold actD; rw [if_pos (Or.inr (by omega))]
  have q1 : (A == 1) = false := by rw [beq_eq_false_iff_ne]; omega
  have q2 : (A == 2) = false := by rw [beq_eq_false_iff_ne]; omega
  have q3 : (A == 3) = false := by rw [beq_eq_false_iff_ne]; omega
  have q4 : (A == 4) = false := by rw [beq_eq_false_iff_ne]; omega
  have q5 : (A == 5) = false := by rw [beq_eq_false_iff_ne]; omega
  have q6 : (A == 6) = false := by rw [beq_eq_false_iff_ne]; omega
  have q7 : (A == 7) = false := by rw [beq_eq_false_iff_ne]; omega
  have q8 : (A == 8) = false := by rw [beq_eq_false_iff_ne]; omega
  have q9 : (A == 9) = false := by rw [beq_eq_false_iff_ne]; omega
  have q10 : (A == 10) = false := by rw [beq_eq_false_iff_ne]; omega
  have q11 : (A == 11) = false := by rw [beq_eq_false_iff_ne]; omega
  have q12 : (A == 12) = false := by rw [beq_eq_false_iff_ne]; omega
  have q13 : (A == 13) = false := by rw [beq_eq_false_iff_ne]; omega
  have q14 : (A == 14) = false := by rw [beq_eq_false_iff_ne]; omega
  have q15 : (A == 15) = false := by rw [beq_eq_false_iff_ne]; omega
  clear hA
  go_enter Try.func23, Try.ntmps23
  go_wp2_with fail
  go_ret
  exact actP_no hN (by decide) (Below.refl _ _) rfl

theorem w_p10do (q base b1 b2 b3 : Nat) (x0 x1 x2 x3 x4 : Value) (d : Dft) (A : Int) (w : World) (st0 : Stands w q #[x0, x1, x2, x3, x4] 52) (oD : OwD base w ⟨x0, x1, x2, x3, x4⟩ d b1 b2 b3) (hf : frmD d = true) (ze : szE d) (hq : base ≤ q) :
    Calls Try.prog 23 #[.pointer (some ⟨q, 0, none⟩), .int .i64 A] w (ActP q base w d A) := by
  by_cases hA : A < 1 ∨ 15 < A
  · exact w_p10do0 q base d A w hA
  · have hcs : A = 1 ∨ A = 2 ∨ A = 3 ∨ A = 4 ∨ A = 5 ∨ A = 6 ∨ A = 7 ∨ A = 8 ∨ A = 9 ∨ A = 10 ∨ A = 11 ∨ A = 12 ∨ A = 13 ∨ A = 14 ∨ A = 15 := by omega
    rcases hcs with rfl | rfl | rfl | rfl | rfl | rfl | rfl | rfl | rfl | rfl | rfl | rfl | rfl | rfl | rfl
    · exact w_p10do1 q base b1 b2 b3 x0 x1 x2 x3 x4 d w st0 oD hf ze hq
    · exact w_p10do2 q base b1 b2 b3 x0 x1 x2 x3 x4 d w st0 oD hf ze hq
    · exact w_p10do3 q base b1 b2 b3 x0 x1 x2 x3 x4 d w st0 oD hf ze hq
    · exact w_p10begin q base b1 b2 b3 x0 x1 x2 x3 x4 d w st0 oD hf ze hq
    · exact w_p10do5 q base b1 b2 b3 x0 x1 x2 x3 x4 d w st0 oD hf ze hq
    · exact w_p10do6 q base b1 b2 b3 x0 x1 x2 x3 x4 d w st0 oD hf ze hq
    · exact w_p10do7 q base b1 b2 b3 x0 x1 x2 x3 x4 d w st0 oD hf ze hq
    · exact w_p10do8 q base b1 b2 b3 x0 x1 x2 x3 x4 d w st0 oD hf ze hq
    · exact w_p10do9 q base b1 b2 b3 x0 x1 x2 x3 x4 d w st0 oD hf ze hq
    · exact w_p10do10 q base b1 b2 b3 x0 x1 x2 x3 x4 d w st0 oD hf ze hq
    · exact w_p10do11 q base b1 b2 b3 x0 x1 x2 x3 x4 d w st0 oD hf ze hq
    · exact w_p10case q base b1 b2 b3 x0 x1 x2 x3 x4 d w st0 oD hf ze hq
    · exact w_p10do13 q base b1 b2 b3 x0 x1 x2 x3 x4 d w st0 oD hf ze hq
    · exact w_p10do14 q base b1 b2 b3 x0 x1 x2 x3 x4 d w st0 oD hf ze hq
    · exact w_p10do15 q base b1 b2 b3 x0 x1 x2 x3 x4 d w st0 oD hf ze hq

end Go.Proofs.Ytfmpeminfcehaaa
