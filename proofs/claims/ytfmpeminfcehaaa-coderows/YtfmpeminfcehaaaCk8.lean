/-
  Acts of the landed package code.
-/
import Derived.Test.YtfmpeminfcehaaaCk7
namespace Go.Proofs.Ytfmpeminfcehaaa
open Go.ChangeShapes Go.WideShapes Go.ChangeAt Go.RowKit
set_option linter.unusedVariables false
set_option linter.unusedSimpArgs false

set_option maxHeartbeats 4000000 in
set_option maxRecDepth 100000 in
theorem w_p10if (q base b1 b2 b3 : Nat) (x0 x1 x2 x3 x4 : Value) (d : Dft) (w : World) (st0 : Stands w q #[x0, x1, x2, x3, x4] 52) (oD : OwD base w ⟨x0, x1, x2, x3, x4⟩ d b1 b2 b3) (hf : frmD d = true) (ze : szE d) (hq : base ≤ q) :
    Calls Try.prog 38 #[.pointer (some ⟨q, 0, none⟩)] w (ActP q base w d 1) := by
  have oc0 := oD.code
  have U0 : Hid (Out 0 0 w w) := Out.refl _ _ _
  have B0 : Hid (Below base w w) := Below.refl _ _
  have hs0 := oD.size
  have hcl := pfrm_code hf
  have l1 := oD.le1
  have l2 := oD.le2
  have l3 := oD.le3
  have l4 := oD.le4
  dsimp only at oc0
  have hlk : lakF d 1 = false := rfl
  have prA : ∀ k, x1.ownBlock = some k → base ≤ k ∧ k < b1 := fun k hk => ⟨(oD.origs.lt k hk).1, oD.origsL k hk⟩
  have zo := ze.origs
  by_cases hr : d.code.length = 256
  · have hfull := hr
    have hN : actD d 1 = (nilD, 3) := pact_no3 hf (by decide) (by decide) hlk (by decide) (by omega)
    go_enter Try.func38, Try.ntmps38
    go_upto_region 2 with (go_at_call 34; refine (w_layF q base _ _ _ _ _ d.code 4 0 _ st0 oc0 hfull).mono ?_; rintro e w2 ⟨rfl, d1⟩)
    have st1 := st0.below d1
    have oc1 : OwC base _ _ _ := OwnR.below oc0 d1 (fun _ _ q => q)
    have U1 : Hid (Out 0 0 w w2) := U0.out.trans (Out.below d1)
    have B1 : Hid (Below base w w2) := btrans B0.out (below_base d1 hs0)
    have V1 : Hid (Out 0 0 w w2) := Out.below d1
    have hs1 := Nat.le_trans hs0 d1.size
    skip
    have bX := box_below w2 (.cells #[.int .i64 0] 3)
    have stX := st1.below bX
    have pX := own_below (own_out oD.origs U1.out (Or.inl rfl)) bX
    have hsX := Nat.le_trans hs1 bX.size
    obtain ⟨i8, hi8, hz6, hz5, hz4⟩ := info_parts infoJ10
    have hlY : (d.origs ++ ([0] : List Int)).length = d.origs.length + 1 := by simp <;> omega
    have f1 := (st1.below bX).cell 1 _ rfl
    have f1b := st1.cell 1 _ rfl
    have hbd : (d.origs.length + ([0] : List Int).length) * 8 ≤ 140737488355328 ∧ d.origs.length + ([0] : List Int).length ≤ maxLen := by rw [List.length_append] at hlY; rw [hlY]; unfold maxLen; omega
    go_upto_region 3 with (at_builtin; refine wpList_append_rd (k := .i64) rfl _ _ 23 rfl base 3 i8 8 Try.underlying23 hi8 hz6 hz5 hz4 _ d.origs rfl pX _ ([0] : List Int) rfl (rd_lit w2 ([0] : List Int) 3 (Nat.succ_pos _) (by unfold maxLen; simp)) hbd.2 hbd.1 hsX ?_; intro v9 wn ho9 hg9; rw [hlY] at ho9; obtain ⟨a8, c8, rfl⟩ := own_form ho9; have so9 := Stands.grown stX hg9 (stands_apart stX pX (by decide)); have y2 := so9.cell 1 _ rfl; have yg := so9.free 1)
    have kW := Kept.own pX hg9
    have kS := set_kept so9 1 (.slice a8 (d.origs.length + 1) c8)
    have soZ : Stands (wn.setCell ⟨q, 1, none⟩ (.slice a8 (d.origs.length + 1) c8)) q #[x0, .slice a8 (d.origs.length + 1) c8, x2, x3, x4] 52 := so9.set 1 (.slice a8 (d.origs.length + 1) c8)
    have ocZ : OwC base (wn.setCell ⟨q, 1, none⟩ (.slice a8 (d.origs.length + 1) c8)) _ _ := OwnR.kept (OwnR.kept (OwnR.below oc1 bX (fun _ _ q => q)) kW (by decide) opR_apt10) kS (by decide) opR_apt10
    have rowZ : (wn.setCell ⟨q, 1, none⟩ (.slice a8 (d.origs.length + 1) c8)).ownsRow base 3 1 (.slice a8 (d.origs.length + 1) c8) (d.origs ++ ([0] : List Int)).length ((d.origs ++ ([0] : List Int)).map (Value.int .i64)) := by rw [hlY]; exact own_kept kS (by decide) ho9
    have UZ : Out base b1 w (wn.setCell ⟨q, 1, none⟩ (.slice a8 (d.origs.length + 1) c8)) := U1.out.all.trans ((Out.below bX).trans ((Out.grown hg9 prA).trans (Out.kept kS (by decide) (by decide))))
    have BZ : Below base w (wn.setCell ⟨q, 1, none⟩ (.slice a8 (d.origs.length + 1) c8)) := bset (bgrown (btrans B1.out (below_base bX hs1)) hg9 hsX (fun k hk => (pX.lt k hk).1)) q 1 (.slice a8 (d.origs.length + 1) c8) hq
    go_wp2_with fail
    go_ret
    exact actP_no hN (by decide) (BZ) rfl
  · have hroom : d.code.length < 256 := by omega
    have hD : actD d 1 = (⟨d.code ++ [(4, 0)], d.origs ++ [(d.code.length : Int)], d.dests, d.loops, d.cases⟩, 0) := by
      rw [pact_yes hf (by decide) (by decide) hlk (fun h => by omega)]
      exact congrArg (fun x => (x, (0 : Int))) (by simp [doD, layF, ladF])
    go_enter Try.func38, Try.ntmps38
    go_upto_region 2 with (go_at_call 34; refine (w_layR q base _ _ _ _ _ d.code 4 0 _ st0 oc0 hroom hs0 hq).mono ?_; rintro e w2 ⟨a9, c9, rfl, st1, oc1, u1, d1⟩)
    have U1 : Hid (Out 0 0 w w2) := U0.out.trans u1
    have B1 : Hid (Below base w w2) := btrans B0.out d1
    have V1 : Hid (Out 0 0 w w2) := u1
    have hs1 := Nat.le_trans hs0 d1.size
    skip
    have bX := box_below w2 (.cells #[.int .i64 (d.code.length : Int)] 3)
    have stX := st1.below bX
    have pX := own_below (own_out oD.origs U1.out (Or.inl rfl)) bX
    have hsX := Nat.le_trans hs1 bX.size
    obtain ⟨i8, hi8, hz6, hz5, hz4⟩ := info_parts infoJ10
    have hlY : (d.origs ++ ([(d.code.length : Int)] : List Int)).length = d.origs.length + 1 := by simp <;> omega
    have f1 := (st1.below bX).cell 1 _ rfl
    have f1b := st1.cell 1 _ rfl
    have hbd : (d.origs.length + ([(d.code.length : Int)] : List Int).length) * 8 ≤ 140737488355328 ∧ d.origs.length + ([(d.code.length : Int)] : List Int).length ≤ maxLen := by rw [List.length_append] at hlY; rw [hlY]; unfold maxLen; omega
    go_upto_region 3 with (at_builtin; refine wpList_append_rd (k := .i64) rfl _ _ 23 rfl base 3 i8 8 Try.underlying23 hi8 hz6 hz5 hz4 _ d.origs rfl pX _ ([(d.code.length : Int)] : List Int) rfl (rd_lit w2 ([(d.code.length : Int)] : List Int) 3 (Nat.succ_pos _) (by unfold maxLen; simp)) hbd.2 hbd.1 hsX ?_; intro v9 wn ho9 hg9; rw [hlY] at ho9; obtain ⟨a8, c8, rfl⟩ := own_form ho9; have so9 := Stands.grown stX hg9 (stands_apart stX pX (by decide)); have y2 := so9.cell 1 _ rfl; have yg := so9.free 1)
    have kW := Kept.own pX hg9
    have kS := set_kept so9 1 (.slice a8 (d.origs.length + 1) c8)
    have soZ : Stands (wn.setCell ⟨q, 1, none⟩ (.slice a8 (d.origs.length + 1) c8)) q #[.slice a9 (d.code.length + 1) c9, .slice a8 (d.origs.length + 1) c8, x2, x3, x4] 52 := so9.set 1 (.slice a8 (d.origs.length + 1) c8)
    have ocZ : OwC base (wn.setCell ⟨q, 1, none⟩ (.slice a8 (d.origs.length + 1) c8)) _ _ := OwnR.kept (OwnR.kept (OwnR.below oc1 bX (fun _ _ q => q)) kW (by decide) opR_apt10) kS (by decide) opR_apt10
    have rowZ : (wn.setCell ⟨q, 1, none⟩ (.slice a8 (d.origs.length + 1) c8)).ownsRow base 3 1 (.slice a8 (d.origs.length + 1) c8) (d.origs ++ ([(d.code.length : Int)] : List Int)).length ((d.origs ++ ([(d.code.length : Int)] : List Int)).map (Value.int .i64)) := by rw [hlY]; exact own_kept kS (by decide) ho9
    have UZ : Out base b1 w (wn.setCell ⟨q, 1, none⟩ (.slice a8 (d.origs.length + 1) c8)) := U1.out.all.trans ((Out.below bX).trans ((Out.grown hg9 prA).trans (Out.kept kS (by decide) (by decide))))
    have BZ : Below base w (wn.setCell ⟨q, 1, none⟩ (.slice a8 (d.origs.length + 1) c8)) := bset (bgrown (btrans B1.out (below_base bX hs1)) hg9 hsX (fun k hk => (pX.lt k hk).1)) q 1 (.slice a8 (d.origs.length + 1) c8) hq
    have oEZ := OwD.toO oD UZ ocZ rowZ
    go_wp2_with fail
    go_ret
    exact actP_yes (v' := ⟨.slice a9 (d.code.length + 1) c9, .slice a8 (d.origs.length + 1) c8, x2, x3, x4⟩) hD soZ oEZ BZ rfl

set_option maxHeartbeats 4000000 in
set_option maxRecDepth 100000 in
theorem w_p10ahead (q base b1 b2 b3 : Nat) (x0 x1 x2 x3 x4 : Value) (d : Dft) (w : World) (st0 : Stands w q #[x0, x1, x2, x3, x4] 52) (oD : OwD base w ⟨x0, x1, x2, x3, x4⟩ d b1 b2 b3) (hf : frmD d = true) (ze : szE d) (hq : base ≤ q) :
    Calls Try.prog 39 #[.pointer (some ⟨q, 0, none⟩)] w (ActP q base w d 2) := by
  have oc0 := oD.code
  have U0 : Hid (Out 0 0 w w) := Out.refl _ _ _
  have B0 : Hid (Below base w w) := Below.refl _ _
  have hs0 := oD.size
  have hcl := pfrm_code hf
  have l1 := oD.le1
  have l2 := oD.le2
  have l3 := oD.le3
  have l4 := oD.le4
  dsimp only at oc0
  by_cases hp : 0 < d.origs.length
  · have hlk : lakF d 2 = false := by have : ¬ d.origs = [] := List.length_pos_iff.1 hp; simp [lakF, this]
    have zo := ze.origs
    obtain ⟨g, cap, e1⟩ := own_some oD.origs hp
    dsimp only at e1
    subst e1
    have prA : ∀ k, (Value.slice (some ⟨g, 0, none⟩) (d.origs.length - 1) cap).ownBlock = some k → base ≤ k ∧ k < b1 := fun k hk => ⟨(oD.origs.lt k hk).1, oD.origsL k hk⟩
    have pT := own_take oD.origs (d.origs.length - 1) (by omega)
    have pT : w.ownsRow base 3 1 (.slice (some ⟨g, 0, none⟩) (d.origs.length - 1) cap) (d.origs.take (d.origs.length - 1)).length ((d.origs.take (d.origs.length - 1)).map (Value.int .i64)) := by simpa [List.map_take] using pT
    by_cases hr : d.code.length = 256
    · have hfull := hr
      have hN : actD d 2 = (nilD, 3) := pact_no3 hf (by decide) (by decide) hlk (by decide) (by omega)
      go_enter Try.func39, Try.ntmps39
      have f1 := st0.cell 1 _ rfl
      go_upto_region 4 with (go_at_call 50; refine (w_newJ base g cap d.origs _ hp oD.origs).mono ?_; rintro e w2 ⟨rfl, d1⟩)
      have st1 := st0.below d1
      have oc1 : OwC base _ _ _ := OwnR.below oc0 d1 (fun _ _ q => q)
      have U1 : Hid (Out 0 0 w w2) := U0.out.trans (Out.below d1)
      have B1 : Hid (Below base w w2) := btrans B0.out (below_base d1 hs0)
      have hs1 := Nat.le_trans hs0 d1.size
      clear f1
      go_upto_region 5 with (go_at_call 34; refine (w_layF q base _ _ _ _ _ d.code 3 0 _ st1 oc1 hfull).mono ?_; rintro e w3 ⟨rfl, d2⟩)
      have st2 := st1.below d2
      have oc2 : OwC base _ _ _ := OwnR.below oc1 d2 (fun _ _ q => q)
      have U2 : Hid (Out 0 0 w w3) := U1.out.trans (Out.below d2)
      have B2 : Hid (Below base w w3) := btrans B1.out (below_base d2 hs1)
      have V2 : Hid (Out 0 0 w2 w3) := Out.below d2
      have hs2 := Nat.le_trans hs1 d2.size
      clear st1
      have bX := box_below w3 (.cells #[.int .i64 0, .int .i64 (nwI d.origs)] 3)
      have stX := st2.below bX
      have pX := own_below (own_out pT U2.out (Or.inl rfl)) bX
      have hsX := Nat.le_trans hs2 bX.size
      obtain ⟨i8, hi8, hz6, hz5, hz4⟩ := info_parts infoJ10
      have hlY : ((d.origs.take (d.origs.length - 1)) ++ ([0, (nwI d.origs)] : List Int)).length = (d.origs.length - 1) + 2 := by simp <;> omega
      have hbd : ((d.origs.take (d.origs.length - 1)).length + ([0, (nwI d.origs)] : List Int).length) * 8 ≤ 140737488355328 ∧ (d.origs.take (d.origs.length - 1)).length + ([0, (nwI d.origs)] : List Int).length ≤ maxLen := by rw [List.length_append] at hlY; rw [hlY]; unfold maxLen; omega
      go_upto_region 6 with (at_builtin; refine wpList_append_rd (k := .i64) rfl _ _ 23 rfl base 3 i8 8 Try.underlying23 hi8 hz6 hz5 hz4 _ (d.origs.take (d.origs.length - 1)) rfl pX _ ([0, (nwI d.origs)] : List Int) rfl (rd_lit w3 ([0, (nwI d.origs)] : List Int) 3 (Nat.succ_pos _) (by unfold maxLen; simp)) hbd.2 hbd.1 hsX ?_; intro v9 wn ho9 hg9; rw [hlY] at ho9; obtain ⟨a8, c8, rfl⟩ := own_form ho9; have so9 := Stands.grown stX hg9 (stands_apart stX pX (by decide)); have y2 := so9.cell 1 _ rfl; have yg := so9.free 1)
      have kW := Kept.own pX hg9
      have kS := set_kept so9 1 (.slice a8 ((d.origs.length - 1) + 2) c8)
      have soZ : Stands (wn.setCell ⟨q, 1, none⟩ (.slice a8 ((d.origs.length - 1) + 2) c8)) q #[x0, .slice a8 ((d.origs.length - 1) + 2) c8, x2, x3, x4] 52 := so9.set 1 (.slice a8 ((d.origs.length - 1) + 2) c8)
      have ocZ : OwC base (wn.setCell ⟨q, 1, none⟩ (.slice a8 ((d.origs.length - 1) + 2) c8)) _ _ := OwnR.kept (OwnR.kept (OwnR.below oc2 bX (fun _ _ q => q)) kW (by decide) opR_apt10) kS (by decide) opR_apt10
      have rowZ : (wn.setCell ⟨q, 1, none⟩ (.slice a8 ((d.origs.length - 1) + 2) c8)).ownsRow base 3 1 (.slice a8 ((d.origs.length - 1) + 2) c8) ((d.origs.take (d.origs.length - 1)) ++ ([0, (nwI d.origs)] : List Int)).length (((d.origs.take (d.origs.length - 1)) ++ ([0, (nwI d.origs)] : List Int)).map (Value.int .i64)) := by rw [hlY]; exact own_kept kS (by decide) ho9
      have UZ : Out base b1 w (wn.setCell ⟨q, 1, none⟩ (.slice a8 ((d.origs.length - 1) + 2) c8)) := U2.out.all.trans ((Out.below bX).trans ((Out.grown hg9 prA).trans (Out.kept kS (by decide) (by decide))))
      have BZ : Below base w (wn.setCell ⟨q, 1, none⟩ (.slice a8 ((d.origs.length - 1) + 2) c8)) := bset (bgrown (btrans B2.out (below_base bX hs2)) hg9 hsX (fun k hk => (pX.lt k hk).1)) q 1 (.slice a8 ((d.origs.length - 1) + 2) c8) hq
      go_wp2_with fail
      go_ret
      exact actP_no hN (by decide) (BZ) rfl
    · have hroom : d.code.length < 256 := by omega
      have hD : actD d 2 = (⟨d.code ++ [(3, 0)], d.origs.take (d.origs.length - 1) ++ [(d.code.length : Int), nwI d.origs], d.dests, d.loops, d.cases⟩, 0) := by
        rw [pact_yes hf (by decide) (by decide) hlk (fun h => by omega)]
        exact congrArg (fun x => (x, (0 : Int))) (by simp [doD, layF, ladF, set_last _ _ hp])
      go_enter Try.func39, Try.ntmps39
      have f1 := st0.cell 1 _ rfl
      go_upto_region 4 with (go_at_call 50; refine (w_newJ base g cap d.origs _ hp oD.origs).mono ?_; rintro e w2 ⟨rfl, d1⟩)
      have st1 := st0.below d1
      have oc1 : OwC base _ _ _ := OwnR.below oc0 d1 (fun _ _ q => q)
      have U1 : Hid (Out 0 0 w w2) := U0.out.trans (Out.below d1)
      have B1 : Hid (Below base w w2) := btrans B0.out (below_base d1 hs0)
      have hs1 := Nat.le_trans hs0 d1.size
      clear f1
      go_upto_region 5 with (go_at_call 34; refine (w_layR q base _ _ _ _ _ d.code 3 0 _ st1 oc1 hroom hs1 hq).mono ?_; rintro e w3 ⟨a9, c9, rfl, st2, oc2, u2, d2⟩)
      have U2 : Hid (Out 0 0 w w3) := U1.out.trans u2
      have B2 : Hid (Below base w w3) := btrans B1.out d2
      have V2 : Hid (Out 0 0 w2 w3) := u2
      have hs2 := Nat.le_trans hs1 d2.size
      clear st1
      have bX := box_below w3 (.cells #[.int .i64 (d.code.length : Int), .int .i64 (nwI d.origs)] 3)
      have stX := st2.below bX
      have pX := own_below (own_out pT U2.out (Or.inl rfl)) bX
      have hsX := Nat.le_trans hs2 bX.size
      obtain ⟨i8, hi8, hz6, hz5, hz4⟩ := info_parts infoJ10
      have hlY : ((d.origs.take (d.origs.length - 1)) ++ ([(d.code.length : Int), (nwI d.origs)] : List Int)).length = (d.origs.length - 1) + 2 := by simp <;> omega
      have hbd : ((d.origs.take (d.origs.length - 1)).length + ([(d.code.length : Int), (nwI d.origs)] : List Int).length) * 8 ≤ 140737488355328 ∧ (d.origs.take (d.origs.length - 1)).length + ([(d.code.length : Int), (nwI d.origs)] : List Int).length ≤ maxLen := by rw [List.length_append] at hlY; rw [hlY]; unfold maxLen; omega
      go_upto_region 6 with (at_builtin; refine wpList_append_rd (k := .i64) rfl _ _ 23 rfl base 3 i8 8 Try.underlying23 hi8 hz6 hz5 hz4 _ (d.origs.take (d.origs.length - 1)) rfl pX _ ([(d.code.length : Int), (nwI d.origs)] : List Int) rfl (rd_lit w3 ([(d.code.length : Int), (nwI d.origs)] : List Int) 3 (Nat.succ_pos _) (by unfold maxLen; simp)) hbd.2 hbd.1 hsX ?_; intro v9 wn ho9 hg9; rw [hlY] at ho9; obtain ⟨a8, c8, rfl⟩ := own_form ho9; have so9 := Stands.grown stX hg9 (stands_apart stX pX (by decide)); have y2 := so9.cell 1 _ rfl; have yg := so9.free 1)
      have kW := Kept.own pX hg9
      have kS := set_kept so9 1 (.slice a8 ((d.origs.length - 1) + 2) c8)
      have soZ : Stands (wn.setCell ⟨q, 1, none⟩ (.slice a8 ((d.origs.length - 1) + 2) c8)) q #[.slice a9 (d.code.length + 1) c9, .slice a8 ((d.origs.length - 1) + 2) c8, x2, x3, x4] 52 := so9.set 1 (.slice a8 ((d.origs.length - 1) + 2) c8)
      have ocZ : OwC base (wn.setCell ⟨q, 1, none⟩ (.slice a8 ((d.origs.length - 1) + 2) c8)) _ _ := OwnR.kept (OwnR.kept (OwnR.below oc2 bX (fun _ _ q => q)) kW (by decide) opR_apt10) kS (by decide) opR_apt10
      have rowZ : (wn.setCell ⟨q, 1, none⟩ (.slice a8 ((d.origs.length - 1) + 2) c8)).ownsRow base 3 1 (.slice a8 ((d.origs.length - 1) + 2) c8) ((d.origs.take (d.origs.length - 1)) ++ ([(d.code.length : Int), (nwI d.origs)] : List Int)).length (((d.origs.take (d.origs.length - 1)) ++ ([(d.code.length : Int), (nwI d.origs)] : List Int)).map (Value.int .i64)) := by rw [hlY]; exact own_kept kS (by decide) ho9
      have UZ : Out base b1 w (wn.setCell ⟨q, 1, none⟩ (.slice a8 ((d.origs.length - 1) + 2) c8)) := U2.out.all.trans ((Out.below bX).trans ((Out.grown hg9 prA).trans (Out.kept kS (by decide) (by decide))))
      have BZ : Below base w (wn.setCell ⟨q, 1, none⟩ (.slice a8 ((d.origs.length - 1) + 2) c8)) := bset (bgrown (btrans B2.out (below_base bX hs2)) hg9 hsX (fun k hk => (pX.lt k hk).1)) q 1 (.slice a8 ((d.origs.length - 1) + 2) c8) hq
      have oEZ := OwD.toO oD UZ ocZ rowZ
      go_wp2_with fail
      go_ret
      exact actP_yes (v' := ⟨.slice a9 (d.code.length + 1) c9, .slice a8 ((d.origs.length - 1) + 2) c8, x2, x3, x4⟩) hD soZ oEZ BZ rfl
  · have he : d.origs = [] := List.eq_nil_of_length_eq_zero (by omega)
    have hN : actD d 2 = (nilD, 13) := pact_no2 hf (by decide) (by decide) (by simp [lakF, he])
    have r0 : Rd .i64 w x1 [] := by have := (Rd_own oD.origs).1; rw [he] at this; exact this
    have f1 := st0.cell 1 _ rfl
    go_enter Try.func39, Try.ntmps39
    go_wp2_with (go_at_call 50; refine (w_newJ0 x1 _ r0).mono ?_; rintro e w2 ⟨rfl, hw⟩; obtain rfl := hw.symm)
    go_ret
    exact actP_no hN (by decide) B0.out rfl

set_option maxHeartbeats 4000000 in
set_option maxRecDepth 100000 in
theorem w_p10then (q base b1 b2 b3 : Nat) (x0 x1 x2 x3 x4 : Value) (d : Dft) (w : World) (st0 : Stands w q #[x0, x1, x2, x3, x4] 52) (oD : OwD base w ⟨x0, x1, x2, x3, x4⟩ d b1 b2 b3) (hf : frmD d = true) (ze : szE d) (hq : base ≤ q) :
    Calls Try.prog 40 #[.pointer (some ⟨q, 0, none⟩)] w (ActP q base w d 3) := by
  have oc0 := oD.code
  have U0 : Hid (Out 0 0 w w) := Out.refl _ _ _
  have B0 : Hid (Below base w w) := Below.refl _ _
  have hs0 := oD.size
  have hcl := pfrm_code hf
  have l1 := oD.le1
  have l2 := oD.le2
  have l3 := oD.le3
  have l4 := oD.le4
  dsimp only at oc0
  by_cases hp : 0 < d.origs.length
  · have hlk : lakF d 3 = false := by have : ¬ d.origs = [] := List.length_pos_iff.1 hp; simp [lakF, this]
    have hin := pfrm_o hf hp
    obtain ⟨g, cap, e1⟩ := own_some oD.origs hp
    dsimp only at e1
    subst e1
    obtain ⟨gc, cC, eC⟩ := gcode oc0 (by omega)
    subst eC
    have pT := own_take oD.origs (d.origs.length - 1) (by omega)
    have pT : w.ownsRow base 3 1 (.slice (some ⟨g, 0, none⟩) (d.origs.length - 1) cap) (d.origs.take (d.origs.length - 1)).length ((d.origs.take (d.origs.length - 1)).map (Value.int .i64)) := by simpa [List.map_take] using pT
    have hD : actD d 3 = (⟨aimF d.code [nwI d.origs] (d.code.length : Int), d.origs.take (d.origs.length - 1), d.dests, d.loops, d.cases⟩, 0) := by
      rw [pact_yes hf (by decide) (by decide) hlk (fun h => h.1 rfl)]
      exact congrArg (fun x => (x, (0 : Int))) (by simp [doD, layF, ladF])
    go_enter Try.func40, Try.ntmps40
    have f1 := st0.cell 1 _ rfl
    go_upto_region 4 with (go_at_call 50; refine (w_newJ base g cap d.origs _ hp oD.origs).mono ?_; rintro e w2 ⟨rfl, d1⟩)
    have st1 := st0.below d1
    have oc1 : OwC base _ _ _ := OwnR.below oc0 d1 (fun _ _ q => q)
    have U1 : Hid (Out 0 0 w w2) := U0.out.trans (Out.below d1)
    have B1 : Hid (Below base w w2) := btrans B0.out (below_base d1 hs0)
    have hs1 := Nat.le_trans hs0 d1.size
    clear f1
    have kS2 := set_kept st1 1 (.slice (some ⟨g, 0, none⟩) (d.origs.length - 1) cap)
    have st2 : Stands (w2.setCell ⟨q, 1, none⟩ (.slice (some ⟨g, 0, none⟩) (d.origs.length - 1) cap)) q #[.slice (some ⟨gc, 0, none⟩) d.code.length cC, .slice (some ⟨g, 0, none⟩) (d.origs.length - 1) cap, x2, x3, x4] 52 := st1.set 1 (.slice (some ⟨g, 0, none⟩) (d.origs.length - 1) cap)
    have oc2 : OwC base _ _ _ := OwnR.kept oc1 kS2 (by decide) opR_apt10
    have U2 : Hid (Out 0 0 w (w2.setCell ⟨q, 1, none⟩ (.slice (some ⟨g, 0, none⟩) (d.origs.length - 1) cap))) := U1.out.trans (Out.kept kS2 (by decide) (by decide))
    have V2 : Hid (Out 0 0 w2 (w2.setCell ⟨q, 1, none⟩ (.slice (some ⟨g, 0, none⟩) (d.origs.length - 1) cap))) := Out.kept kS2 (by decide) (by decide)
    have B2 : Hid (Below base w (w2.setCell ⟨q, 1, none⟩ (.slice (some ⟨g, 0, none⟩) (d.origs.length - 1) cap))) := bset B1.out q 1 (.slice (some ⟨g, 0, none⟩) (d.origs.length - 1) cap) hq
    have hs2 : base ≤ (w2.setCell ⟨q, 1, none⟩ (.slice (some ⟨g, 0, none⟩) (d.origs.length - 1) cap)).heap.size := by simpa [World.setCell] using hs1
    have f1 := st1.cell 1 _ rfl
    have y1 := st1.free 1
    go_upto_region 5 with fail
    generalize (w2.setCell ⟨q, 1, none⟩ (.slice (some ⟨g, 0, none⟩) (d.origs.length - 1) cap)) = w3 at st2 oc2 U2 B2 hs2 V2 ⊢
    clear f1 y1 kS2
    have bx3 := box_below w3 (.cells #[.int .i64 (nwI d.origs)] 3)
    have st3 := st2.below bx3
    have oc3 : OwC base _ _ _ := OwnR.below oc2 bx3 (fun _ _ q => q)
    have U3 : Hid (Out 0 0 w (w3.alloc (.cells #[.int .i64 (nwI d.origs)] 3))) := U2.out.trans (Out.below bx3)
    have B3 : Hid (Below base w (w3.alloc (.cells #[.int .i64 (nwI d.origs)] 3))) := btrans B2.out (below_base bx3 hs2)
    have hs3 := Nat.le_trans hs2 bx3.size
    have rl := own_lit w3 [nwI d.origs] 3 (by unfold maxLen; simp)
    obtain ⟨csC4, rC4⟩ := OwnR.row oc3
    have cl4 := w_lead q base gc cC (.slice (some ⟨g, 0, none⟩) (d.origs.length - 1) cap) x2 x3 x4 _ d.code [nwI d.origs] (w3.alloc (.cells #[.int .i64 (nwI d.origs)] 3)) (by rw [show d.code.length = d.code.length from rfl]; exact st3) (by rw [show d.code.length = d.code.length from rfl]; exact oc3) (fun W kk => (Rd_own (own_kept kk (by decide) rl)).1) (fun n hn => by rw [List.mem_singleton] at hn; rw [hn]; exact hin) (by rw [show d.code.length = d.code.length from rfl]; omega)
    rw [show d.code.length = d.code.length from rfl] at cl4
    go_upto_region 6 with (go_at_call 51; refine cl4.mono ?_; rintro e w5 ⟨rfl, oc4, g4⟩)
    have kC4 := Kept.own rC4 g4
    have st4 := stands_kept kC4 (by decide) st3
    have U4 : Hid (Out 0 0 w w5) := U3.out.trans (Out.kept kC4 (by decide) (by decide))
    have V4 : Hid (Out 0 0 (w3.alloc (.cells #[.int .i64 (nwI d.origs)] 3)) w5) := Out.kept kC4 (by decide) (by decide)
    have B4 : Hid (Below base w w5) := bgrown B3.out g4 hs3 (fun k hk => (rC4.lt k hk).1)
    have hs4 := Nat.le_trans hs3 g4.size
    have UZ : Out base b1 w _ := U4.out.all
    have soZ := st4
    have ocZ := oc4
    have BZ := B4.out
    have rowZ := own_out pT U4.out (Or.inl rfl)
    have oEZ := OwD.toO oD UZ ocZ rowZ
    go_wp2_with fail
    go_ret
    exact actP_yes (v' := ⟨.slice (some ⟨gc, 0, none⟩) d.code.length cC, .slice (some ⟨g, 0, none⟩) (d.origs.length - 1) cap, x2, x3, x4⟩) hD soZ oEZ BZ rfl
  · have he : d.origs = [] := List.eq_nil_of_length_eq_zero (by omega)
    have hN : actD d 3 = (nilD, 13) := pact_no2 hf (by decide) (by decide) (by simp [lakF, he])
    have r0 : Rd .i64 w x1 [] := by have := (Rd_own oD.origs).1; rw [he] at this; exact this
    have f1 := st0.cell 1 _ rfl
    go_enter Try.func40, Try.ntmps40
    go_wp2_with (go_at_call 50; refine (w_newJ0 x1 _ r0).mono ?_; rintro e w2 ⟨rfl, hw⟩; obtain rfl := hw.symm)
    go_ret
    exact actP_no hN (by decide) B0.out rfl

set_option maxHeartbeats 4000000 in
set_option maxRecDepth 100000 in
theorem w_p10back (q base b1 b2 b3 : Nat) (x0 x1 x2 x3 x4 : Value) (d : Dft) (w : World) (st0 : Stands w q #[x0, x1, x2, x3, x4] 52) (oD : OwD base w ⟨x0, x1, x2, x3, x4⟩ d b1 b2 b3) (hf : frmD d = true) (ze : szE d) (hq : base ≤ q) (K A : Int) (hA : A = 5 ∧ K = 3 ∨ A = 6 ∧ K = 4) :
    Calls Try.prog 41 #[.pointer (some ⟨q, 0, none⟩), .int .i64 K] w (ActP q base w d A) := by
  have oc0 := oD.code
  have U0 : Hid (Out 0 0 w w) := Out.refl _ _ _
  have B0 : Hid (Below base w w) := Below.refl _ _
  have hs0 := oD.size
  have hcl := pfrm_code hf
  have l1 := oD.le1
  have l2 := oD.le2
  have l3 := oD.le3
  have l4 := oD.le4
  dsimp only at oc0
  have hA1 : 1 ≤ A ∧ A ≤ 15 := by omega
  by_cases hp : 0 < d.dests.length
  · have hlk : lakF d A = false := by have : ¬ d.dests = [] := List.length_pos_iff.1 hp; rcases hA with ⟨rfl, rfl⟩ | ⟨rfl, rfl⟩ <;> simp [lakF, this]
    have hla : ladF A = K := by rcases hA with ⟨rfl, rfl⟩ | ⟨rfl, rfl⟩ <;> rfl
    have hK : ¬ K = 0 := by omega
    have hin := pfrm_d hf hp
    obtain ⟨g, cap, e1⟩ := own_some oD.dests hp
    dsimp only at e1
    subst e1
    have hwr := wrap32 (nwI d.dests) (by omega) (by omega)
    have pT := own_take oD.dests (d.dests.length - 1) (by omega)
    have pT : w.ownsRow b1 3 1 (.slice (some ⟨g, 0, none⟩) (d.dests.length - 1) cap) (d.dests.take (d.dests.length - 1)).length ((d.dests.take (d.dests.length - 1)).map (Value.int .i64)) := by simpa [List.map_take] using pT
    by_cases hr : d.code.length = 256
    · have hfull := hr
      have hN : actD d A = (nilD, 3) := pact_no3 hf hA1.1 hA1.2 hlk (by rw [hla]; exact hK) (by omega)
      clear hA hla hA1
      go_enter Try.func41, Try.ntmps41
      have f2 := st0.cell 2 _ rfl
      go_upto_region 4 with (go_at_call 50; refine (w_newJ b1 g cap d.dests _ hp oD.dests).mono ?_; rintro e w2 ⟨rfl, d1⟩)
      have st1 := st0.below d1
      have oc1 : OwC base _ _ _ := OwnR.below oc0 d1 (fun _ _ q => q)
      have U1 : Hid (Out 0 0 w w2) := U0.out.trans (Out.below d1)
      have B1 : Hid (Below base w w2) := btrans B0.out (below_base d1 hs0)
      have hs1 := Nat.le_trans hs0 d1.size
      clear f2
      have kS2 := set_kept st1 2 (.slice (some ⟨g, 0, none⟩) (d.dests.length - 1) cap)
      have st2 : Stands (w2.setCell ⟨q, 2, none⟩ (.slice (some ⟨g, 0, none⟩) (d.dests.length - 1) cap)) q #[x0, x1, .slice (some ⟨g, 0, none⟩) (d.dests.length - 1) cap, x3, x4] 52 := st1.set 2 (.slice (some ⟨g, 0, none⟩) (d.dests.length - 1) cap)
      have oc2 : OwC base _ _ _ := OwnR.kept oc1 kS2 (by decide) opR_apt10
      have U2 : Hid (Out 0 0 w (w2.setCell ⟨q, 2, none⟩ (.slice (some ⟨g, 0, none⟩) (d.dests.length - 1) cap))) := U1.out.trans (Out.kept kS2 (by decide) (by decide))
      have V2 : Hid (Out 0 0 w2 (w2.setCell ⟨q, 2, none⟩ (.slice (some ⟨g, 0, none⟩) (d.dests.length - 1) cap))) := Out.kept kS2 (by decide) (by decide)
      have B2 : Hid (Below base w (w2.setCell ⟨q, 2, none⟩ (.slice (some ⟨g, 0, none⟩) (d.dests.length - 1) cap))) := bset B1.out q 2 (.slice (some ⟨g, 0, none⟩) (d.dests.length - 1) cap) hq
      have hs2 : base ≤ (w2.setCell ⟨q, 2, none⟩ (.slice (some ⟨g, 0, none⟩) (d.dests.length - 1) cap)).heap.size := by simpa [World.setCell] using hs1
      have f2 := st1.cell 2 _ rfl
      have y2 := st1.free 2
      go_upto_region 5 with fail
      generalize (w2.setCell ⟨q, 2, none⟩ (.slice (some ⟨g, 0, none⟩) (d.dests.length - 1) cap)) = w3 at st2 oc2 U2 B2 hs2 V2 ⊢
      clear f2 y2 kS2
      go_upto_region 6 with (go_at_call 34; refine (w_layF q base _ _ _ _ _ d.code K (nwI d.dests) _ st2 oc2 hfull).mono ?_; rintro e w4 ⟨rfl, d3⟩)
      have st3 := st2.below d3
      have oc3 : OwC base _ _ _ := OwnR.below oc2 d3 (fun _ _ q => q)
      have U3 : Hid (Out 0 0 w w4) := U2.out.trans (Out.below d3)
      have B3 : Hid (Below base w w4) := btrans B2.out (below_base d3 hs2)
      have V3 : Hid (Out 0 0 w3 w4) := Out.below d3
      have hs3 := Nat.le_trans hs2 d3.size
      clear st2
      go_wp2_with fail
      go_ret
      exact actP_no hN (by decide) (B3.out) rfl
    · have hroom : d.code.length < 256 := by omega
      have hD : actD d A = (⟨d.code ++ [(K, nwI d.dests)], d.origs, d.dests.take (d.dests.length - 1), d.loops, d.cases⟩, 0) := by
        rw [pact_yes hf hA1.1 hA1.2 hlk (fun h => by omega)]
        congr 1
        rcases hA with ⟨rfl, rfl⟩ | ⟨rfl, rfl⟩ <;> simp [doD, layF, ladF, setN_last]
      clear hA hla hA1
      go_enter Try.func41, Try.ntmps41
      have f2 := st0.cell 2 _ rfl
      go_upto_region 4 with (go_at_call 50; refine (w_newJ b1 g cap d.dests _ hp oD.dests).mono ?_; rintro e w2 ⟨rfl, d1⟩)
      have st1 := st0.below d1
      have oc1 : OwC base _ _ _ := OwnR.below oc0 d1 (fun _ _ q => q)
      have U1 : Hid (Out 0 0 w w2) := U0.out.trans (Out.below d1)
      have B1 : Hid (Below base w w2) := btrans B0.out (below_base d1 hs0)
      have hs1 := Nat.le_trans hs0 d1.size
      clear f2
      have kS2 := set_kept st1 2 (.slice (some ⟨g, 0, none⟩) (d.dests.length - 1) cap)
      have st2 : Stands (w2.setCell ⟨q, 2, none⟩ (.slice (some ⟨g, 0, none⟩) (d.dests.length - 1) cap)) q #[x0, x1, .slice (some ⟨g, 0, none⟩) (d.dests.length - 1) cap, x3, x4] 52 := st1.set 2 (.slice (some ⟨g, 0, none⟩) (d.dests.length - 1) cap)
      have oc2 : OwC base _ _ _ := OwnR.kept oc1 kS2 (by decide) opR_apt10
      have U2 : Hid (Out 0 0 w (w2.setCell ⟨q, 2, none⟩ (.slice (some ⟨g, 0, none⟩) (d.dests.length - 1) cap))) := U1.out.trans (Out.kept kS2 (by decide) (by decide))
      have V2 : Hid (Out 0 0 w2 (w2.setCell ⟨q, 2, none⟩ (.slice (some ⟨g, 0, none⟩) (d.dests.length - 1) cap))) := Out.kept kS2 (by decide) (by decide)
      have B2 : Hid (Below base w (w2.setCell ⟨q, 2, none⟩ (.slice (some ⟨g, 0, none⟩) (d.dests.length - 1) cap))) := bset B1.out q 2 (.slice (some ⟨g, 0, none⟩) (d.dests.length - 1) cap) hq
      have hs2 : base ≤ (w2.setCell ⟨q, 2, none⟩ (.slice (some ⟨g, 0, none⟩) (d.dests.length - 1) cap)).heap.size := by simpa [World.setCell] using hs1
      have f2 := st1.cell 2 _ rfl
      have y2 := st1.free 2
      go_upto_region 5 with fail
      generalize (w2.setCell ⟨q, 2, none⟩ (.slice (some ⟨g, 0, none⟩) (d.dests.length - 1) cap)) = w3 at st2 oc2 U2 B2 hs2 V2 ⊢
      clear f2 y2 kS2
      go_upto_region 6 with (go_at_call 34; refine (w_layR q base _ _ _ _ _ d.code K (nwI d.dests) _ st2 oc2 hroom hs2 hq).mono ?_; rintro e w4 ⟨a9, c9, rfl, st3, oc3, u3, d3⟩)
      have U3 : Hid (Out 0 0 w w4) := U2.out.trans u3
      have B3 : Hid (Below base w w4) := btrans B2.out d3
      have V3 : Hid (Out 0 0 w3 w4) := u3
      have hs3 := Nat.le_trans hs2 d3.size
      clear st2
      have UZ : Out b1 b2 w _ := U3.out.all
      have soZ := st3
      have ocZ := oc3
      have BZ := B3.out
      have rowZ := own_le (b := base) l1 (own_out pT U3.out (Or.inl rfl))
      have oEZ := OwD.toD oD UZ ocZ rowZ
      go_wp2_with fail
      go_ret
      exact actP_yes (v' := ⟨.slice a9 (d.code.length + 1) c9, x1, .slice (some ⟨g, 0, none⟩) (d.dests.length - 1) cap, x3, x4⟩) hD soZ oEZ BZ rfl
  · have he : d.dests = [] := List.eq_nil_of_length_eq_zero (by omega)
    have hN : actD d A = (nilD, 13) := pact_no2 hf hA1.1 hA1.2 (by rcases hA with ⟨rfl, rfl⟩ | ⟨rfl, rfl⟩ <;> simp [lakF, he])
    have r0 : Rd .i64 w x2 [] := by have := (Rd_own oD.dests).1; rw [he] at this; exact this
    have f2 := st0.cell 2 _ rfl
    clear hA hA1
    go_enter Try.func41, Try.ntmps41
    go_wp2_with (go_at_call 50; refine (w_newJ0 x2 _ r0).mono ?_; rintro e w2 ⟨rfl, hw⟩; obtain rfl := hw.symm)
    go_ret
    exact actP_no hN (by decide) B0.out rfl

set_option maxHeartbeats 4000000 in
set_option maxRecDepth 100000 in
theorem w_p10openLoop (q base b1 b2 b3 : Nat) (x0 x1 x2 x3 x4 : Value) (d : Dft) (w : World) (st0 : Stands w q #[x0, x1, x2, x3, x4] 52) (oD : OwD base w ⟨x0, x1, x2, x3, x4⟩ d b1 b2 b3) (hf : frmD d = true) (ze : szE d) (hq : base ≤ q) (K A : Int) (hA : A = 7 ∧ K = 5 ∨ A = 8 ∧ K = 6) :
    Calls Try.prog 42 #[.pointer (some ⟨q, 0, none⟩), .int .i64 K] w (ActP q base w d A) := by
  have oc0 := oD.code
  have U0 : Hid (Out 0 0 w w) := Out.refl _ _ _
  have B0 : Hid (Below base w w) := Below.refl _ _
  have hs0 := oD.size
  have hcl := pfrm_code hf
  have l1 := oD.le1
  have l2 := oD.le2
  have l3 := oD.le3
  have l4 := oD.le4
  dsimp only at oc0
  have hA1 : 1 ≤ A ∧ A ≤ 15 := by omega
  have hlk : lakF d A = false := by rcases hA with ⟨rfl, rfl⟩ | ⟨rfl, rfl⟩ <;> rfl
  have hla : ladF A = K := by rcases hA with ⟨rfl, rfl⟩ | ⟨rfl, rfl⟩ <;> rfl
  have hK : ¬ K = 0 := by omega
  have prA := oD.loops.rng
  have zo := ze.loops
  by_cases hr : d.code.length = 256
  · have hfull := hr
    have hN : actD d A = (nilD, 3) := pact_no3 hf hA1.1 hA1.2 hlk (by rw [hla]; exact hK) (by omega)
    clear hA hla hA1
    go_enter Try.func42, Try.ntmps42
    go_upto_region 2 with (go_at_call 34; refine (w_layF q base _ _ _ _ _ d.code K 0 _ st0 oc0 hfull).mono ?_; rintro e w2 ⟨rfl, d1⟩)
    have st1 := st0.below d1
    have oc1 : OwC base _ _ _ := OwnR.below oc0 d1 (fun _ _ q => q)
    have U1 : Hid (Out 0 0 w w2) := U0.out.trans (Out.below d1)
    have B1 : Hid (Below base w w2) := btrans B0.out (below_base d1 hs0)
    have V1 : Hid (Out 0 0 w w2) := Out.below d1
    have hs1 := Nat.le_trans hs0 d1.size
    skip
    have own := (oD.loops.out U1.out (Or.inr (Nat.zero_le _))).owe (base := base) (by omega)
    have bX := box_below w2 (.cells #[.int .i64 0, .slice none 0 0] 58)
    have stX := st1.below bX
    obtain ⟨rowsX, p1, p2, p3, p4⟩ := OwnR.below own bX (opnO_below bX)
    have hsX := Nat.le_trans hs1 bX.size
    obtain ⟨i9n, hi9n, hz9n, hz8n, hz7n⟩ := info_parts infoOn10
    have one : ∀ r ∈ [[Value.int .i64 0, .slice none 0 0]], ∀ u ∈ r, u.oneCell' = true := fun r hr u hu => by rw [List.mem_singleton] at hr; subst hr; simp at hu; rcases hu with rfl | rfl <;> rfl
    have hll : d.loops.length = d.loops.length := by simp <;> omega
    rw [hll] at p3
    have P1 := hid p1
    have P2 := hid p2
    have P4 := hid p4
    have OPN := hid (own_below (World.ownsRow_nil w2 base 3 1) bX)
    clear p1 p2 p4
    have f3 := (st1.below bX).cell 3 _ rfl
    have f3b := st1.cell 3 _ rfl
    go_upto_region 3 with (at_builtin; refine wpList_append_rowsB rfl _ _ 24 rfl base 58 i9n _ 2 32 Try.underlying24 hi9n hz9n hz8n hz7n rfl (by decide) _ (d.loops.length) _ rfl p3 _ [[Value.int .i64 0, .slice none 0 0]] rfl (slc_one w2 [Value.int .i64 0, .slice none 0 0] 58 2 rfl) one (by unfold maxLen; simp only [List.length_singleton]; omega) (by simp only [List.length_singleton]; omega) hsX ?_; intro v9 wn ho9 hg9; have ho9 : wn.ownsRow base 58 2 v9 (d.loops.length + 1) (rowsX.flatten ++ [Value.int .i64 0, .slice none 0 0]) := (by simpa using ho9); obtain ⟨a7, c7, rfl⟩ := own_form ho9; have so9 := Stands.grown stX hg9 (stands_apart stX p3 (by decide)); have y2 := so9.cell 3 _ rfl; have yg := so9.free 3)
    have kW := Kept.own p3 hg9
    have kS := set_kept so9 3 (.slice a7 (d.loops.length + 1) c7)
    have soZ : Stands (wn.setCell ⟨q, 3, none⟩ (.slice a7 (d.loops.length + 1) c7)) q #[x0, x1, x2, .slice a7 (d.loops.length + 1) c7, x4] 52 := so9.set 3 (.slice a7 (d.loops.length + 1) c7)
    have ocZ : OwC base (wn.setCell ⟨q, 3, none⟩ (.slice a7 (d.loops.length + 1) c7)) _ _ := OwnR.kept (OwnR.kept (OwnR.below oc1 bX (fun _ _ q => q)) kW (by decide) opR_apt10) kS (by decide) opR_apt10
    have rowY : OwnR 58 2 (opnO base) base wn (.slice a7 (d.loops.length + 1) c7) (d.loops ++ [(0, [])]) := OwnR.snoc (e := 58) (O := opnO base) (opnO_apt (by decide)) P1.out P2.out (by rw [hll]; exact p3) P4.out rfl (x := (0, [])) ⟨_, rfl, OPN.out⟩ (by rw [hll]; exact ho9) hg9
    have rowZ := OwnR.kept rowY kS (by decide) (opnO_apt (by decide))
    have UZ : Out b2 b3 w (wn.setCell ⟨q, 3, none⟩ (.slice a7 (d.loops.length + 1) c7)) := U1.out.all.trans ((Out.below bX).trans ((Out.grown hg9 prA).trans (Out.kept kS (by decide) (by decide))))
    have BZ : Below base w (wn.setCell ⟨q, 3, none⟩ (.slice a7 (d.loops.length + 1) c7)) := bset (bgrown (btrans B1.out (below_base bX hs1)) hg9 hsX (fun k hk => (p3.lt k hk).1)) q 3 (.slice a7 (d.loops.length + 1) c7) hq
    go_wp2_with fail
    go_ret
    exact actP_no hN (by decide) (BZ) rfl
  · have hroom : d.code.length < 256 := by omega
    have hD : actD d A = (⟨d.code ++ [(K, 0)], d.origs, d.dests, d.loops ++ [((d.code.length : Int), [])], d.cases⟩, 0) := by
      rw [pact_yes hf hA1.1 hA1.2 hlk (fun h => by omega)]
      refine congrArg (fun x => (x, (0 : Int))) ?_
      rcases hA with ⟨rfl, rfl⟩ | ⟨rfl, rfl⟩ <;> simp [doD, layF, ladF]
    clear hA hla hA1
    go_enter Try.func42, Try.ntmps42
    go_upto_region 2 with (go_at_call 34; refine (w_layR q base _ _ _ _ _ d.code K 0 _ st0 oc0 hroom hs0 hq).mono ?_; rintro e w2 ⟨a9, c9, rfl, st1, oc1, u1, d1⟩)
    have U1 : Hid (Out 0 0 w w2) := U0.out.trans u1
    have B1 : Hid (Below base w w2) := btrans B0.out d1
    have V1 : Hid (Out 0 0 w w2) := u1
    have hs1 := Nat.le_trans hs0 d1.size
    skip
    have own := (oD.loops.out U1.out (Or.inr (Nat.zero_le _))).owe (base := base) (by omega)
    have bX := box_below w2 (.cells #[.int .i64 (d.code.length : Int), .slice none 0 0] 58)
    have stX := st1.below bX
    obtain ⟨rowsX, p1, p2, p3, p4⟩ := OwnR.below own bX (opnO_below bX)
    have hsX := Nat.le_trans hs1 bX.size
    obtain ⟨i9n, hi9n, hz9n, hz8n, hz7n⟩ := info_parts infoOn10
    have one : ∀ r ∈ [[Value.int .i64 (d.code.length : Int), .slice none 0 0]], ∀ u ∈ r, u.oneCell' = true := fun r hr u hu => by rw [List.mem_singleton] at hr; subst hr; simp at hu; rcases hu with rfl | rfl <;> rfl
    have hll : d.loops.length = d.loops.length := by simp <;> omega
    rw [hll] at p3
    have P1 := hid p1
    have P2 := hid p2
    have P4 := hid p4
    have OPN := hid (own_below (World.ownsRow_nil w2 base 3 1) bX)
    clear p1 p2 p4
    have f3 := (st1.below bX).cell 3 _ rfl
    have f3b := st1.cell 3 _ rfl
    go_upto_region 3 with (at_builtin; refine wpList_append_rowsB rfl _ _ 24 rfl base 58 i9n _ 2 32 Try.underlying24 hi9n hz9n hz8n hz7n rfl (by decide) _ (d.loops.length) _ rfl p3 _ [[Value.int .i64 (d.code.length : Int), .slice none 0 0]] rfl (slc_one w2 [Value.int .i64 (d.code.length : Int), .slice none 0 0] 58 2 rfl) one (by unfold maxLen; simp only [List.length_singleton]; omega) (by simp only [List.length_singleton]; omega) hsX ?_; intro v9 wn ho9 hg9; have ho9 : wn.ownsRow base 58 2 v9 (d.loops.length + 1) (rowsX.flatten ++ [Value.int .i64 (d.code.length : Int), .slice none 0 0]) := (by simpa using ho9); obtain ⟨a7, c7, rfl⟩ := own_form ho9; have so9 := Stands.grown stX hg9 (stands_apart stX p3 (by decide)); have y2 := so9.cell 3 _ rfl; have yg := so9.free 3)
    have kW := Kept.own p3 hg9
    have kS := set_kept so9 3 (.slice a7 (d.loops.length + 1) c7)
    have soZ : Stands (wn.setCell ⟨q, 3, none⟩ (.slice a7 (d.loops.length + 1) c7)) q #[.slice a9 (d.code.length + 1) c9, x1, x2, .slice a7 (d.loops.length + 1) c7, x4] 52 := so9.set 3 (.slice a7 (d.loops.length + 1) c7)
    have ocZ : OwC base (wn.setCell ⟨q, 3, none⟩ (.slice a7 (d.loops.length + 1) c7)) _ _ := OwnR.kept (OwnR.kept (OwnR.below oc1 bX (fun _ _ q => q)) kW (by decide) opR_apt10) kS (by decide) opR_apt10
    have rowY : OwnR 58 2 (opnO base) base wn (.slice a7 (d.loops.length + 1) c7) (d.loops ++ [((d.code.length : Int), [])]) := OwnR.snoc (e := 58) (O := opnO base) (opnO_apt (by decide)) P1.out P2.out (by rw [hll]; exact p3) P4.out rfl (x := ((d.code.length : Int), [])) ⟨_, rfl, OPN.out⟩ (by rw [hll]; exact ho9) hg9
    have rowZ := OwnR.kept rowY kS (by decide) (opnO_apt (by decide))
    have UZ : Out b2 b3 w (wn.setCell ⟨q, 3, none⟩ (.slice a7 (d.loops.length + 1) c7)) := U1.out.all.trans ((Out.below bX).trans ((Out.grown hg9 prA).trans (Out.kept kS (by decide) (by decide))))
    have BZ : Below base w (wn.setCell ⟨q, 3, none⟩ (.slice a7 (d.loops.length + 1) c7)) := bset (bgrown (btrans B1.out (below_base bX hs1)) hg9 hsX (fun k hk => (p3.lt k hk).1)) q 3 (.slice a7 (d.loops.length + 1) c7) hq
    have oEZ := OwD.toL oD UZ ocZ rowZ
    go_wp2_with fail
    go_ret
    exact actP_yes (v' := ⟨.slice a9 (d.code.length + 1) c9, x1, x2, .slice a7 (d.loops.length + 1) c7, x4⟩) hD soZ oEZ BZ rfl

set_option maxHeartbeats 4000000 in
set_option maxRecDepth 100000 in
theorem w_p10closeLoop (q base b1 b2 b3 : Nat) (x0 x1 x2 x3 x4 : Value) (d : Dft) (w : World) (st0 : Stands w q #[x0, x1, x2, x3, x4] 52) (oD : OwD base w ⟨x0, x1, x2, x3, x4⟩ d b1 b2 b3) (hf : frmD d = true) (ze : szE d) (hq : base ≤ q) (K A : Int) (hA : A = 9 ∧ K = 7 ∨ A = 10 ∧ K = 8) :
    Calls Try.prog 43 #[.pointer (some ⟨q, 0, none⟩), .int .i64 K] w (ActP q base w d A) := by
  have oc0 := oD.code
  have U0 : Hid (Out 0 0 w w) := Out.refl _ _ _
  have B0 : Hid (Below base w w) := Below.refl _ _
  have hs0 := oD.size
  have hcl := pfrm_code hf
  have l1 := oD.le1
  have l2 := oD.le2
  have l3 := oD.le3
  have l4 := oD.le4
  dsimp only at oc0
  have hA1 : 1 ≤ A ∧ A ≤ 15 := by omega
  have hla : ladF A = K := by rcases hA with ⟨rfl, rfl⟩ | ⟨rfl, rfl⟩ <;> rfl
  have hK : ¬ K = 0 := by omega
  by_cases hp : 0 < d.loops.length
  · have hlk : lakF d A = false := by have : ¬ d.loops = [] := List.length_pos_iff.1 hp; rcases hA with ⟨rfl, rfl⟩ | ⟨rfl, rfl⟩ <;> simp [lakF, this]
    obtain ⟨hin, hins⟩ := pfrm_l hf hp
    obtain ⟨g, cap, rows, vo, Nn⟩ := oD.loops.newest hp
    have e1 := Nn.form
    dsimp only at e1
    subst e1
    obtain ⟨va, vq, rfl⟩ := own_form Nn.outs
    have NU : Hid (∀ W, Out 0 0 w W → Nwst b2 b3 W (.slice (some ⟨g, 0, none⟩) d.loops.length cap) d.loops g cap rows (.slice va (nwO d.loops).2.length vq)) := fun W u => Nn.out hp u
    have hgb : g < w.heap.size := by have := Nn.below g rfl; omega
    have hwr := wrap32 ((nwO d.loops).1 + 1) (by omega) (by omega)
    have pT := Nn.cut (gb_refl w _)
    by_cases hr : d.code.length = 256
    · have hfull := hr
      have hN : actD d A = (nilD, 3) := pact_no3 hf hA1.1 hA1.2 hlk (by rw [hla]; exact hK) (by omega)
      have HI : Hid (∀ n ∈ (nwO d.loops).2, 0 ≤ n ∧ n < d.code.length) := hins
      clear hA hla hA1 hins
      go_enter Try.func43, Try.ntmps43
      have f3 := st0.cell 3 _ rfl
      go_upto_region 4 with (go_at_call 52; refine (w_newN b2 b3 g cap d.loops rows _ _ hp (NU.out _ U0.out)).mono ?_; rintro e w2 ⟨rfl, d1⟩)
      have sb1 := stands_new w2 #[.int .i64 (nwO d.loops).1, .slice va (nwO d.loops).2.length vq] 58
      have bx1 := below_trans d1 (box_below w2 (.cells #[.int .i64 (nwO d.loops).1, .slice va (nwO d.loops).2.length vq] 58))
      have st1 := st0.below bx1
      have oc1 : OwC base _ _ _ := OwnR.below oc0 bx1 (fun _ _ q => q)
      have U1 : Hid (Out 0 0 w _) := U0.out.trans (Out.below bx1)
      have B1 : Hid (Below base w _) := btrans B0.out (below_base bx1 hs0)
      have hs1 := Nat.le_trans hs0 bx1.size
      obtain ⟨bl, hbl⟩ : ∃ B, w2.heap.size = B := ⟨_, rfl⟩
      have hblw : w.heap.size ≤ bl := by rw [← hbl]; exact (U0.out.trans (Out.below d1)).1
      rw [hbl] at sb1
      (try simp only [hbl])
      generalize w2.alloc (.cells #[.int .i64 (nwO d.loops).1, .slice va (nwO d.loops).2.length vq] 58) = w2b at sb1 bx1 st1 oc1 U1 B1 hs1 ⊢
      clear bx1 d1 hbl f3
      have kS2 := set_kept st1 3 (.slice (some ⟨g, 0, none⟩) (d.loops.length - 1) cap)
      have st2 : Stands (w2b.setCell ⟨q, 3, none⟩ (.slice (some ⟨g, 0, none⟩) (d.loops.length - 1) cap)) q #[x0, x1, x2, .slice (some ⟨g, 0, none⟩) (d.loops.length - 1) cap, x4] 52 := st1.set 3 (.slice (some ⟨g, 0, none⟩) (d.loops.length - 1) cap)
      have oc2 : OwC base _ _ _ := OwnR.kept oc1 kS2 (by decide) opR_apt10
      have U2 : Hid (Out 0 0 w (w2b.setCell ⟨q, 3, none⟩ (.slice (some ⟨g, 0, none⟩) (d.loops.length - 1) cap))) := U1.out.trans (Out.kept kS2 (by decide) (by decide))
      have V2 : Hid (Out 0 0 w2b (w2b.setCell ⟨q, 3, none⟩ (.slice (some ⟨g, 0, none⟩) (d.loops.length - 1) cap))) := Out.kept kS2 (by decide) (by decide)
      have B2 : Hid (Below base w (w2b.setCell ⟨q, 3, none⟩ (.slice (some ⟨g, 0, none⟩) (d.loops.length - 1) cap))) := bset B1.out q 3 (.slice (some ⟨g, 0, none⟩) (d.loops.length - 1) cap) hq
      have hs2 : base ≤ (w2b.setCell ⟨q, 3, none⟩ (.slice (some ⟨g, 0, none⟩) (d.loops.length - 1) cap)).heap.size := by simpa [World.setCell] using hs1
      have f3 := st1.cell 3 _ rfl
      have y3 := st1.free 3
      go_upto_region 5 with fail
      generalize (w2b.setCell ⟨q, 3, none⟩ (.slice (some ⟨g, 0, none⟩) (d.loops.length - 1) cap)) = w3 at st2 oc2 U2 B2 hs2 V2 ⊢
      clear f3 y3 kS2
      have sb2 := stands_out sb1 V2.out (Or.inr rfl)
      have g0 := sb2.cell 0 _ rfl
      go_upto_region 6 with (go_at_call 34; refine (w_layF q base _ _ _ _ _ d.code K ((nwO d.loops).1 + 1) _ st2 oc2 hfull).mono ?_; rintro e w4 ⟨rfl, d3⟩)
      have st3 := st2.below d3
      have oc3 : OwC base _ _ _ := OwnR.below oc2 d3 (fun _ _ q => q)
      have U3 : Hid (Out 0 0 w w4) := U2.out.trans (Out.below d3)
      have B3 : Hid (Below base w w4) := btrans B2.out (below_base d3 hs2)
      have V3 : Hid (Out 0 0 w3 w4) := Out.below d3
      have hs3 := Nat.le_trans hs2 d3.size
      clear st2
      go_wp2_with fail
      go_ret
      exact actP_no hN (by decide) (B3.out) rfl
    · have hroom : d.code.length < 256 := by omega
      have hD : actD d A = (⟨aimF (aimF (d.code ++ [(K, (nwO d.loops).1 + 1)]) [(nwO d.loops).1] ((d.code.length : Int) + 1)) (nwO d.loops).2 ((d.code.length : Int) + 1), d.origs, d.dests, d.loops.take (d.loops.length - 1), d.cases⟩, 0) := by
        rw [pact_yes hf hA1.1 hA1.2 hlk (fun h => by omega)]
        refine congrArg (fun x => (x, (0 : Int))) ?_
        rcases hA with ⟨rfl, rfl⟩ | ⟨rfl, rfl⟩ <;> simp [doD, layF, ladF, setN_last, aim_last]
      have HI : Hid (∀ n ∈ (nwO d.loops).2, 0 ≤ n ∧ n < d.code.length) := hins
      clear hA hla hA1 hins
      go_enter Try.func43, Try.ntmps43
      have f3 := st0.cell 3 _ rfl
      go_upto_region 4 with (go_at_call 52; refine (w_newN b2 b3 g cap d.loops rows _ _ hp (NU.out _ U0.out)).mono ?_; rintro e w2 ⟨rfl, d1⟩)
      have sb1 := stands_new w2 #[.int .i64 (nwO d.loops).1, .slice va (nwO d.loops).2.length vq] 58
      have bx1 := below_trans d1 (box_below w2 (.cells #[.int .i64 (nwO d.loops).1, .slice va (nwO d.loops).2.length vq] 58))
      have st1 := st0.below bx1
      have oc1 : OwC base _ _ _ := OwnR.below oc0 bx1 (fun _ _ q => q)
      have U1 : Hid (Out 0 0 w _) := U0.out.trans (Out.below bx1)
      have B1 : Hid (Below base w _) := btrans B0.out (below_base bx1 hs0)
      have hs1 := Nat.le_trans hs0 bx1.size
      obtain ⟨bl, hbl⟩ : ∃ B, w2.heap.size = B := ⟨_, rfl⟩
      have hblw : w.heap.size ≤ bl := by rw [← hbl]; exact (U0.out.trans (Out.below d1)).1
      rw [hbl] at sb1
      (try simp only [hbl])
      generalize w2.alloc (.cells #[.int .i64 (nwO d.loops).1, .slice va (nwO d.loops).2.length vq] 58) = w2b at sb1 bx1 st1 oc1 U1 B1 hs1 ⊢
      clear bx1 d1 hbl f3
      have kS2 := set_kept st1 3 (.slice (some ⟨g, 0, none⟩) (d.loops.length - 1) cap)
      have st2 : Stands (w2b.setCell ⟨q, 3, none⟩ (.slice (some ⟨g, 0, none⟩) (d.loops.length - 1) cap)) q #[x0, x1, x2, .slice (some ⟨g, 0, none⟩) (d.loops.length - 1) cap, x4] 52 := st1.set 3 (.slice (some ⟨g, 0, none⟩) (d.loops.length - 1) cap)
      have oc2 : OwC base _ _ _ := OwnR.kept oc1 kS2 (by decide) opR_apt10
      have U2 : Hid (Out 0 0 w (w2b.setCell ⟨q, 3, none⟩ (.slice (some ⟨g, 0, none⟩) (d.loops.length - 1) cap))) := U1.out.trans (Out.kept kS2 (by decide) (by decide))
      have V2 : Hid (Out 0 0 w2b (w2b.setCell ⟨q, 3, none⟩ (.slice (some ⟨g, 0, none⟩) (d.loops.length - 1) cap))) := Out.kept kS2 (by decide) (by decide)
      have B2 : Hid (Below base w (w2b.setCell ⟨q, 3, none⟩ (.slice (some ⟨g, 0, none⟩) (d.loops.length - 1) cap))) := bset B1.out q 3 (.slice (some ⟨g, 0, none⟩) (d.loops.length - 1) cap) hq
      have hs2 : base ≤ (w2b.setCell ⟨q, 3, none⟩ (.slice (some ⟨g, 0, none⟩) (d.loops.length - 1) cap)).heap.size := by simpa [World.setCell] using hs1
      have f3 := st1.cell 3 _ rfl
      have y3 := st1.free 3
      go_upto_region 5 with fail
      generalize (w2b.setCell ⟨q, 3, none⟩ (.slice (some ⟨g, 0, none⟩) (d.loops.length - 1) cap)) = w3 at st2 oc2 U2 B2 hs2 V2 ⊢
      clear f3 y3 kS2
      have sb2 := stands_out sb1 V2.out (Or.inr rfl)
      have g0 := sb2.cell 0 _ rfl
      go_upto_region 6 with (go_at_call 34; refine (w_layR q base _ _ _ _ _ d.code K ((nwO d.loops).1 + 1) _ st2 oc2 hroom hs2 hq).mono ?_; rintro e w4 ⟨a9, c9, rfl, st3, oc3, u3, d3⟩)
      have U3 : Hid (Out 0 0 w w4) := U2.out.trans u3
      have B3 : Hid (Below base w w4) := btrans B2.out d3
      have V3 : Hid (Out 0 0 w3 w4) := u3
      have hs3 := Nat.le_trans hs2 d3.size
      clear st2
      have sb3 := stands_out sb2 V3.out (Or.inr rfl)
      clear g0
      have g0 := sb3.cell 0 _ rfl
      have hC0 : (d.code ++ [(K, ((nwO d.loops).1 + 1))]).length = d.code.length + 1 := by simp
      obtain ⟨gc, cC, eC⟩ := gcode oc3 (by rw [hC0]; omega)
      obtain ⟨rfl, rfl⟩ := slice_inj eC
      clear eC
      go_upto_region 8 with fail
      have bx4 := box_below w4 (.cells #[.int .i64 (nwO d.loops).1] 3)
      have st4 := st3.below bx4
      have oc4 : OwC base _ _ _ := OwnR.below oc3 bx4 (fun _ _ q => q)
      have U4 : Hid (Out 0 0 w (w4.alloc (.cells #[.int .i64 (nwO d.loops).1] 3))) := U3.out.trans (Out.below bx4)
      have B4 : Hid (Below base w (w4.alloc (.cells #[.int .i64 (nwO d.loops).1] 3))) := btrans B3.out (below_base bx4 hs3)
      have hs4 := Nat.le_trans hs3 bx4.size
      have V4 : Hid (Out 0 0 w4 (w4.alloc (.cells #[.int .i64 (nwO d.loops).1] 3))) := Out.below bx4
      have sb4 := stands_out sb3 V4.out (Or.inr rfl)
      have rl := own_lit w4 [(nwO d.loops).1] 3 (by unfold maxLen; simp)
      have hC5 : (d.code ++ [(K, ((nwO d.loops).1 + 1))]).length = d.code.length + 1 := by simp [aim_len]
      have hI5 : (((d.code ++ [(K, ((nwO d.loops).1 + 1))]).length : Nat) : Int) = (d.code.length : Int) + 1 := by rw [hC5]; rfl
      obtain ⟨csC5, rC5⟩ := OwnR.row oc4
      have cl5 := w_lead q base gc c9 x1 x2 (.slice (some ⟨g, 0, none⟩) (d.loops.length - 1) cap) x4 (.slice (some ⟨w4.heap.size, 0, none⟩) 1 1) (d.code ++ [(K, ((nwO d.loops).1 + 1))]) [(nwO d.loops).1] (w4.alloc (.cells #[.int .i64 (nwO d.loops).1] 3)) (by rw [hC5]; exact st4) (by rw [hC5]; exact oc4) (fun W kk => (Rd_own (own_kept kk (by decide) rl)).1) (fun n hn => by rw [hI5]; rw [List.mem_singleton] at hn; rw [hn]; omega) (by rw [hC5]; omega)
      rw [hI5] at cl5
      rw [hC5] at cl5
      go_upto_region 9 with (go_at_call 51; refine cl5.mono ?_; rintro e w6 ⟨rfl, oc5, g5⟩)
      have kC5 := Kept.own rC5 g5
      have st5 := stands_kept kC5 (by decide) st4
      have U5 : Hid (Out 0 0 w w6) := U4.out.trans (Out.kept kC5 (by decide) (by decide))
      have V5 : Hid (Out 0 0 (w4.alloc (.cells #[.int .i64 (nwO d.loops).1] 3)) w6) := Out.kept kC5 (by decide) (by decide)
      have B5 : Hid (Below base w w6) := bgrown B4.out g5 hs4 (fun k hk => (rC5.lt k hk).1)
      have hs5 := Nat.le_trans hs4 g5.size
      clear cl5
      have sb5 := stands_out sb4 V5.out (Or.inr rfl)
      clear g0
      have g1 := sb5.cell 1 _ rfl
      have hC6 : (aimF (d.code ++ [(K, ((nwO d.loops).1 + 1))]) [(nwO d.loops).1] ((d.code.length : Int) + 1)).length = d.code.length + 1 := by simp [aim_len]
      have hI6 : (((aimF (d.code ++ [(K, ((nwO d.loops).1 + 1))]) [(nwO d.loops).1] ((d.code.length : Int) + 1)).length : Nat) : Int) = (d.code.length : Int) + 1 := by rw [hC6]; rfl
      obtain ⟨csC6, rC6⟩ := OwnR.row oc5
      have cl6 := w_lead q base gc c9 x1 x2 (.slice (some ⟨g, 0, none⟩) (d.loops.length - 1) cap) x4 (.slice va (nwO d.loops).2.length vq) (aimF (d.code ++ [(K, ((nwO d.loops).1 + 1))]) [(nwO d.loops).1] ((d.code.length : Int) + 1)) (nwO d.loops).2 w6 (by rw [hC6]; exact st5) (by rw [hC6]; exact oc5) (fun W kk => (Rd_own (own_kept kk (by decide) (own_out Nn.outs U5.out (Or.inl rfl)))).1) (fun n hn => by rw [hI6]; have := HI.out n hn; omega) (by rw [hC6]; omega)
      rw [hI6] at cl6
      rw [hC6] at cl6
      go_upto_region 10 with (go_at_call 51; refine cl6.mono ?_; rintro e w7 ⟨rfl, oc6, g6⟩)
      have kC6 := Kept.own rC6 g6
      have st6 := stands_kept kC6 (by decide) st5
      have U6 : Hid (Out 0 0 w w7) := U5.out.trans (Out.kept kC6 (by decide) (by decide))
      have V6 : Hid (Out 0 0 w6 w7) := Out.kept kC6 (by decide) (by decide)
      have B6 : Hid (Below base w w7) := bgrown B5.out g6 hs5 (fun k hk => (rC6.lt k hk).1)
      have hs6 := Nat.le_trans hs5 g6.size
      clear cl6
      have UZ : Out b2 b3 w _ := U6.out.all
      have soZ := st6
      have ocZ := oc6
      have BZ := B6.out
      have rowZ := own_outN (opnO_leR (base := base) pT (by omega)) U6.out
      have oEZ := OwD.toL oD UZ ocZ rowZ
      go_wp2_with fail
      go_ret
      exact actP_yes (v' := ⟨.slice (some ⟨gc, 0, none⟩) (d.code.length + 1) c9, x1, x2, .slice (some ⟨g, 0, none⟩) (d.loops.length - 1) cap, x4⟩) hD soZ oEZ BZ rfl
  · have he : d.loops = [] := List.eq_nil_of_length_eq_zero (by omega)
    have hN : actD d A = (nilD, 13) := pact_no2 hf hA1.1 hA1.2 (by rcases hA with ⟨rfl, rfl⟩ | ⟨rfl, rfl⟩ <;> simp [lakF, he])
    clear hA hA1 hla
    have r0 : RdN w x3 [] := by have := oD.loops.read; rw [he] at this; exact this
    have f3 := st0.cell 3 _ rfl
    go_enter Try.func43, Try.ntmps43
    go_wp2_with (go_at_call 52; refine (w_newN0 x3 _ r0).mono ?_; rintro e w2 ⟨rfl, d1⟩; have bo := below_base (below_trans d1 (box_below w2 (.cells #[.int .i64 0, .slice none 0 0] 58))) hs0)
    go_ret
    exact actP_no hN (by decide) bo rfl

set_option maxHeartbeats 4000000 in
set_option maxRecDepth 100000 in
theorem w_p10leave (q base b1 b2 b3 : Nat) (x0 x1 x2 x3 x4 : Value) (d : Dft) (w : World) (st0 : Stands w q #[x0, x1, x2, x3, x4] 52) (oD : OwD base w ⟨x0, x1, x2, x3, x4⟩ d b1 b2 b3) (hf : frmD d = true) (ze : szE d) (hq : base ≤ q) :
    Calls Try.prog 44 #[.pointer (some ⟨q, 0, none⟩)] w (ActP q base w d 11) := by
  have oc0 := oD.code
  have U0 : Hid (Out 0 0 w w) := Out.refl _ _ _
  have B0 : Hid (Below base w w) := Below.refl _ _
  have hs0 := oD.size
  have hcl := pfrm_code hf
  have l1 := oD.le1
  have l2 := oD.le2
  have l3 := oD.le3
  have l4 := oD.le4
  dsimp only at oc0
  by_cases hp : 0 < d.loops.length
  · have hlk : lakF d 11 = false := by have : ¬ d.loops = [] := List.length_pos_iff.1 hp; simp [lakF, this]
    obtain ⟨g, cap, rows, vo, Nn⟩ := oD.loops.newest hp
    have e1 := Nn.form
    dsimp only at e1
    subst e1
    obtain ⟨va, vq, rfl⟩ := own_form Nn.outs
    have NU : Hid (∀ W, Out 0 0 w W → Nwst b2 b3 W (.slice (some ⟨g, 0, none⟩) d.loops.length cap) d.loops g cap rows (.slice va (nwO d.loops).2.length vq)) := fun W u => Nn.out hp u
    have hgb : g < w.heap.size := by have := Nn.below g rfl; omega
    have zo := ze.louts _ (nwO_mem (List.length_pos_iff.1 hp))
    have zl := ze.loops
    have prA : ∀ k, (Value.slice (some ⟨g, 0, none⟩) (d.loops.length - 1) cap).ownBlock = some k → b2 ≤ k ∧ k < b3 := oD.loops.rng
    by_cases hr : d.code.length = 256
    · have hfull := hr
      have hN : actD d 11 = (nilD, 3) := pact_no3 hf (by decide) (by decide) hlk (by decide) (by omega)
      go_enter Try.func44, Try.ntmps44
      have f3 := st0.cell 3 _ rfl
      go_upto_region 4 with (go_at_call 52; refine (w_newN b2 b3 g cap d.loops rows _ _ hp (NU.out _ U0.out)).mono ?_; rintro e w2 ⟨rfl, d1⟩)
      have sb1 := stands_new w2 #[.int .i64 (nwO d.loops).1, .slice va (nwO d.loops).2.length vq] 58
      have bx1 := below_trans d1 (box_below w2 (.cells #[.int .i64 (nwO d.loops).1, .slice va (nwO d.loops).2.length vq] 58))
      have st1 := st0.below bx1
      have oc1 : OwC base _ _ _ := OwnR.below oc0 bx1 (fun _ _ q => q)
      have U1 : Hid (Out 0 0 w _) := U0.out.trans (Out.below bx1)
      have B1 : Hid (Below base w _) := btrans B0.out (below_base bx1 hs0)
      have hs1 := Nat.le_trans hs0 bx1.size
      obtain ⟨bl, hbl⟩ : ∃ B, w2.heap.size = B := ⟨_, rfl⟩
      have hblw : w.heap.size ≤ bl := by rw [← hbl]; exact (U0.out.trans (Out.below d1)).1
      rw [hbl] at sb1
      (try simp only [hbl])
      generalize w2.alloc (.cells #[.int .i64 (nwO d.loops).1, .slice va (nwO d.loops).2.length vq] 58) = w2b at sb1 bx1 st1 oc1 U1 B1 hs1 ⊢
      clear bx1 d1 hbl f3
      go_upto_region 5 with (go_at_call 34; refine (w_layF q base _ _ _ _ _ d.code 9 0 _ st1 oc1 hfull).mono ?_; rintro e w3 ⟨rfl, d2⟩)
      have st2 := st1.below d2
      have oc2 : OwC base _ _ _ := OwnR.below oc1 d2 (fun _ _ q => q)
      have U2 : Hid (Out 0 0 w w3) := U1.out.trans (Out.below d2)
      have B2 : Hid (Below base w w3) := btrans B1.out (below_base d2 hs1)
      have V2 : Hid (Out 0 0 w2b w3) := Out.below d2
      have hs2 := Nat.le_trans hs1 d2.size
      clear st1
      have sb2 := stands_out sb1 V2.out (Or.inr rfl)
      have bX := box_below w3 (.cells #[.int .i64 0] 3)
      have NX := (NU.out _ U2.out).kept hp (Kept.below (T := 35) bX) (by decide) (by decide)
      have pX := NX.outs
      have sbX := sb2.below bX
      have stX := st2.below bX
      have hsL : b2 ≤ (w3.alloc (.cells #[.int .i64 0] 3)).heap.size := Nat.le_trans (show b2 ≤ w.heap.size by omega) (Nat.le_trans U2.out.1 bX.size)
      have hsX := Nat.le_trans hs2 bX.size
      obtain ⟨i8, hi8, hz6, hz5, hz4⟩ := info_parts infoJ10
      have hlY : ((nwO d.loops).2 ++ ([0] : List Int)).length = (nwO d.loops).2.length + 1 := by simp
      have hbd : ((nwO d.loops).2.length + ([0] : List Int).length) * 8 ≤ 140737488355328 ∧ (nwO d.loops).2.length + ([0] : List Int).length ≤ maxLen := by rw [List.length_append] at hlY; rw [hlY]; unfold maxLen; omega
      have g1 := sb2.cell 1 _ rfl
      have g1b := sbX.cell 1 _ rfl
      have NXH := hid NX
      clear NX
      go_upto_region 6 with (at_builtin; refine wpList_append_rd (k := .i64) rfl _ _ 23 rfl b2 3 i8 8 Try.underlying23 hi8 hz6 hz5 hz4 _ (nwO d.loops).2 rfl pX _ ([0] : List Int) rfl (rd_lit w3 [0] 3 (Nat.succ_pos _) (by unfold maxLen; simp)) hbd.2 hbd.1 hsL ?_; intro v9 wo ho9 hg9; rw [hlY] at ho9; obtain ⟨a8, c8, rfl⟩ := own_form ho9; have sb9 := Stands.grown sbX hg9 (stands_apart sbX pX (by decide)); have y2 := sb9.cell 1 _ rfl; have yg := sb9.free 1)
      have kW := Kept.own pX hg9
      have kB := set_kept sb9 1 (.slice a8 ((nwO d.loops).2.length + 1) c8)
      have st3 : Stands (wo.setCell ⟨bl, 1, none⟩ (.slice a8 ((nwO d.loops).2.length + 1) c8)) q #[x0, x1, x2, .slice (some ⟨g, 0, none⟩) d.loops.length cap, x4] 52 := stands_kept kB (by decide) (stands_kept kW (by decide) stX)
      have oc3 : OwC base (wo.setCell ⟨bl, 1, none⟩ (.slice a8 ((nwO d.loops).2.length + 1) c8)) _ _ := OwnR.kept (OwnR.kept (OwnR.below oc2 bX (fun _ _ q => q)) kW (by decide) opR_apt10) kB (by decide) opR_apt10
      have UL : Hid (Out b2 b3 w (wo.setCell ⟨bl, 1, none⟩ (.slice a8 ((nwO d.loops).2.length + 1) c8))) := ((U2.out.all.trans (Out.below bX)).trans (Out.grown hg9 Nn.rng)).new bl 1 (.slice a8 ((nwO d.loops).2.length + 1) c8) hblw
      have B3 : Hid (Below base w (wo.setCell ⟨bl, 1, none⟩ (.slice a8 ((nwO d.loops).2.length + 1) c8))) := bset (bgrown (btrans B2.out (below_base bX hs2)) hg9 hsX (fun k hk => by have := (pX.lt k hk).1; omega)) bl 1 (.slice a8 ((nwO d.loops).2.length + 1) c8) (by omega)
      have hs3 : base ≤ (wo.setCell ⟨bl, 1, none⟩ (.slice a8 ((nwO d.loops).2.length + 1) c8)).heap.size := by have := hg9.size; simp only [World.setCell, Array.size_modify]; omega
      have rowsT := own_setbox (j := 1) (u := (.slice a8 ((nwO d.loops).2.length + 1) c8)) (NXH.out.cut hg9) sb9 (by omega)
      have outsN : (wo.setCell ⟨bl, 1, none⟩ (.slice a8 ((nwO d.loops).2.length + 1) c8)).ownsRow b2 3 1 (.slice a8 ((nwO d.loops).2.length + 1) c8) ((nwO d.loops).2 ++ ([0] : List Int)).length (((nwO d.loops).2 ++ ([0] : List Int)).map (Value.int .i64)) := by rw [hlY]; exact own_kept kB (by decide) ho9
      have sb3 : Stands (wo.setCell ⟨bl, 1, none⟩ (.slice a8 ((nwO d.loops).2.length + 1) c8)) bl #[.int .i64 (nwO d.loops).1, .slice a8 ((nwO d.loops).2.length + 1) c8] 58 := sb9.set 1 (.slice a8 ((nwO d.loops).2.length + 1) c8)
      generalize (wo.setCell ⟨bl, 1, none⟩ (.slice a8 ((nwO d.loops).2.length + 1) c8)) = w4 at st3 oc3 UL B3 hs3 rowsT outsN sb3 ⊢
      clear bX pX sbX stX hsL hsX kW kB sb9 y2 yg ho9 hg9 g1 g1b hlY hbd NXH
      have v0 := sb3.cell 0 _ rfl
      have v1 := sb3.cell 1 _ rfl
      have bX := box_below w4 (.cells #[.int .i64 (nwO d.loops).1, .slice a8 ((nwO d.loops).2.length + 1) c8] 58)
      have stX := st3.below bX
      obtain ⟨rowsX, p1, p2, p3, p4⟩ := OwnR.below (opnO_leR (base := base) rowsT (by omega)) bX (opnO_below bX)
      have hsX := Nat.le_trans hs3 bX.size
      obtain ⟨i9n, hi9n, hz9n, hz8n, hz7n⟩ := info_parts infoOn10
      have one : ∀ r ∈ [[Value.int .i64 (nwO d.loops).1, .slice a8 ((nwO d.loops).2.length + 1) c8]], ∀ u ∈ r, u.oneCell' = true := fun r hr u hu => by rw [List.mem_singleton] at hr; subst hr; simp at hu; rcases hu with rfl | rfl <;> rfl
      have hll : (d.loops.take (d.loops.length - 1)).length = (d.loops.length - 1) := by simp <;> omega
      rw [hll] at p3
      have P1 := hid p1
      have P2 := hid p2
      have P4 := hid p4
      have OPN := hid (own_below (own_le (b := base) (by omega) outsN) bX)
      clear p1 p2 p4
      go_upto_region 7 with (at_builtin; refine wpList_append_rowsB rfl _ _ 24 rfl base 58 i9n _ 2 32 Try.underlying24 hi9n hz9n hz8n hz7n rfl (by decide) _ ((d.loops.length - 1)) _ rfl p3 _ [[Value.int .i64 (nwO d.loops).1, .slice a8 ((nwO d.loops).2.length + 1) c8]] rfl (slc_one w4 [Value.int .i64 (nwO d.loops).1, .slice a8 ((nwO d.loops).2.length + 1) c8] 58 2 rfl) one (by unfold maxLen; simp only [List.length_singleton]; omega) (by simp only [List.length_singleton]; omega) hsX ?_; intro v9 wn ho9 hg9; have ho9 : wn.ownsRow base 58 2 v9 ((d.loops.length - 1) + 1) (rowsX.flatten ++ [Value.int .i64 (nwO d.loops).1, .slice a8 ((nwO d.loops).2.length + 1) c8]) := (by simpa using ho9); obtain ⟨a7, c7, rfl⟩ := own_form ho9; have so9 := Stands.grown stX hg9 (stands_apart stX p3 (by decide)); have y2 := so9.cell 3 _ rfl; have yg := so9.free 3)
      have kW := Kept.own p3 hg9
      have kS := set_kept so9 3 (.slice a7 ((d.loops.length - 1) + 1) c7)
      have soZ : Stands (wn.setCell ⟨q, 3, none⟩ (.slice a7 ((d.loops.length - 1) + 1) c7)) q #[x0, x1, x2, .slice a7 ((d.loops.length - 1) + 1) c7, x4] 52 := so9.set 3 (.slice a7 ((d.loops.length - 1) + 1) c7)
      have ocZ : OwC base (wn.setCell ⟨q, 3, none⟩ (.slice a7 ((d.loops.length - 1) + 1) c7)) _ _ := OwnR.kept (OwnR.kept (OwnR.below oc3 bX (fun _ _ q => q)) kW (by decide) opR_apt10) kS (by decide) opR_apt10
      have rowY : OwnR 58 2 (opnO base) base wn (.slice a7 ((d.loops.length - 1) + 1) c7) ((d.loops.take (d.loops.length - 1)) ++ [((nwO d.loops).1, (nwO d.loops).2 ++ ([0] : List Int))]) := OwnR.snoc (e := 58) (O := opnO base) (opnO_apt (by decide)) P1.out P2.out (by rw [hll]; exact p3) P4.out rfl (x := ((nwO d.loops).1, (nwO d.loops).2 ++ ([0] : List Int))) ⟨_, rfl, OPN.out⟩ (by rw [hll]; exact ho9) hg9
      have rowZ := OwnR.kept rowY kS (by decide) (opnO_apt (by decide))
      have UZ : Out b2 b3 w (wn.setCell ⟨q, 3, none⟩ (.slice a7 ((d.loops.length - 1) + 1) c7)) := UL.out.trans ((Out.below bX).trans ((Out.grown hg9 prA).trans (Out.kept kS (by decide) (by decide))))
      have BZ : Below base w (wn.setCell ⟨q, 3, none⟩ (.slice a7 ((d.loops.length - 1) + 1) c7)) := bset (bgrown (btrans B3.out (below_base bX hs3)) hg9 hsX (fun k hk => (p3.lt k hk).1)) q 3 (.slice a7 ((d.loops.length - 1) + 1) c7) hq
      go_wp2_with fail
      go_ret
      exact actP_no hN (by decide) (BZ) rfl
    · have hroom : d.code.length < 256 := by omega
      have hD : actD d 11 = (⟨d.code ++ [(9, 0)], d.origs, d.dests, d.loops.take (d.loops.length - 1) ++ [((nwO d.loops).1, (nwO d.loops).2 ++ [(d.code.length : Int)])], d.cases⟩, 0) := by
        rw [pact_yes hf (by decide) (by decide) hlk (fun h => by omega)]
        exact congrArg (fun x => (x, (0 : Int))) (by simp [doD, layF, ladF, set_last _ _ hp])
      go_enter Try.func44, Try.ntmps44
      have f3 := st0.cell 3 _ rfl
      go_upto_region 4 with (go_at_call 52; refine (w_newN b2 b3 g cap d.loops rows _ _ hp (NU.out _ U0.out)).mono ?_; rintro e w2 ⟨rfl, d1⟩)
      have sb1 := stands_new w2 #[.int .i64 (nwO d.loops).1, .slice va (nwO d.loops).2.length vq] 58
      have bx1 := below_trans d1 (box_below w2 (.cells #[.int .i64 (nwO d.loops).1, .slice va (nwO d.loops).2.length vq] 58))
      have st1 := st0.below bx1
      have oc1 : OwC base _ _ _ := OwnR.below oc0 bx1 (fun _ _ q => q)
      have U1 : Hid (Out 0 0 w _) := U0.out.trans (Out.below bx1)
      have B1 : Hid (Below base w _) := btrans B0.out (below_base bx1 hs0)
      have hs1 := Nat.le_trans hs0 bx1.size
      obtain ⟨bl, hbl⟩ : ∃ B, w2.heap.size = B := ⟨_, rfl⟩
      have hblw : w.heap.size ≤ bl := by rw [← hbl]; exact (U0.out.trans (Out.below d1)).1
      rw [hbl] at sb1
      (try simp only [hbl])
      generalize w2.alloc (.cells #[.int .i64 (nwO d.loops).1, .slice va (nwO d.loops).2.length vq] 58) = w2b at sb1 bx1 st1 oc1 U1 B1 hs1 ⊢
      clear bx1 d1 hbl f3
      go_upto_region 5 with (go_at_call 34; refine (w_layR q base _ _ _ _ _ d.code 9 0 _ st1 oc1 hroom hs1 hq).mono ?_; rintro e w3 ⟨a9, c9, rfl, st2, oc2, u2, d2⟩)
      have U2 : Hid (Out 0 0 w w3) := U1.out.trans u2
      have B2 : Hid (Below base w w3) := btrans B1.out d2
      have V2 : Hid (Out 0 0 w2b w3) := u2
      have hs2 := Nat.le_trans hs1 d2.size
      clear st1
      have sb2 := stands_out sb1 V2.out (Or.inr rfl)
      have bX := box_below w3 (.cells #[.int .i64 (d.code.length : Int)] 3)
      have NX := (NU.out _ U2.out).kept hp (Kept.below (T := 35) bX) (by decide) (by decide)
      have pX := NX.outs
      have sbX := sb2.below bX
      have stX := st2.below bX
      have hsL : b2 ≤ (w3.alloc (.cells #[.int .i64 (d.code.length : Int)] 3)).heap.size := Nat.le_trans (show b2 ≤ w.heap.size by omega) (Nat.le_trans U2.out.1 bX.size)
      have hsX := Nat.le_trans hs2 bX.size
      obtain ⟨i8, hi8, hz6, hz5, hz4⟩ := info_parts infoJ10
      have hlY : ((nwO d.loops).2 ++ ([(d.code.length : Int)] : List Int)).length = (nwO d.loops).2.length + 1 := by simp
      have hbd : ((nwO d.loops).2.length + ([(d.code.length : Int)] : List Int).length) * 8 ≤ 140737488355328 ∧ (nwO d.loops).2.length + ([(d.code.length : Int)] : List Int).length ≤ maxLen := by rw [List.length_append] at hlY; rw [hlY]; unfold maxLen; omega
      have g1 := sb2.cell 1 _ rfl
      have g1b := sbX.cell 1 _ rfl
      have NXH := hid NX
      clear NX
      go_upto_region 6 with (at_builtin; refine wpList_append_rd (k := .i64) rfl _ _ 23 rfl b2 3 i8 8 Try.underlying23 hi8 hz6 hz5 hz4 _ (nwO d.loops).2 rfl pX _ ([(d.code.length : Int)] : List Int) rfl (rd_lit w3 [(d.code.length : Int)] 3 (Nat.succ_pos _) (by unfold maxLen; simp)) hbd.2 hbd.1 hsL ?_; intro v9 wo ho9 hg9; rw [hlY] at ho9; obtain ⟨a8, c8, rfl⟩ := own_form ho9; have sb9 := Stands.grown sbX hg9 (stands_apart sbX pX (by decide)); have y2 := sb9.cell 1 _ rfl; have yg := sb9.free 1)
      have kW := Kept.own pX hg9
      have kB := set_kept sb9 1 (.slice a8 ((nwO d.loops).2.length + 1) c8)
      have st3 : Stands (wo.setCell ⟨bl, 1, none⟩ (.slice a8 ((nwO d.loops).2.length + 1) c8)) q #[.slice a9 (d.code.length + 1) c9, x1, x2, .slice (some ⟨g, 0, none⟩) d.loops.length cap, x4] 52 := stands_kept kB (by decide) (stands_kept kW (by decide) stX)
      have oc3 : OwC base (wo.setCell ⟨bl, 1, none⟩ (.slice a8 ((nwO d.loops).2.length + 1) c8)) _ _ := OwnR.kept (OwnR.kept (OwnR.below oc2 bX (fun _ _ q => q)) kW (by decide) opR_apt10) kB (by decide) opR_apt10
      have UL : Hid (Out b2 b3 w (wo.setCell ⟨bl, 1, none⟩ (.slice a8 ((nwO d.loops).2.length + 1) c8))) := ((U2.out.all.trans (Out.below bX)).trans (Out.grown hg9 Nn.rng)).new bl 1 (.slice a8 ((nwO d.loops).2.length + 1) c8) hblw
      have B3 : Hid (Below base w (wo.setCell ⟨bl, 1, none⟩ (.slice a8 ((nwO d.loops).2.length + 1) c8))) := bset (bgrown (btrans B2.out (below_base bX hs2)) hg9 hsX (fun k hk => by have := (pX.lt k hk).1; omega)) bl 1 (.slice a8 ((nwO d.loops).2.length + 1) c8) (by omega)
      have hs3 : base ≤ (wo.setCell ⟨bl, 1, none⟩ (.slice a8 ((nwO d.loops).2.length + 1) c8)).heap.size := by have := hg9.size; simp only [World.setCell, Array.size_modify]; omega
      have rowsT := own_setbox (j := 1) (u := (.slice a8 ((nwO d.loops).2.length + 1) c8)) (NXH.out.cut hg9) sb9 (by omega)
      have outsN : (wo.setCell ⟨bl, 1, none⟩ (.slice a8 ((nwO d.loops).2.length + 1) c8)).ownsRow b2 3 1 (.slice a8 ((nwO d.loops).2.length + 1) c8) ((nwO d.loops).2 ++ ([(d.code.length : Int)] : List Int)).length (((nwO d.loops).2 ++ ([(d.code.length : Int)] : List Int)).map (Value.int .i64)) := by rw [hlY]; exact own_kept kB (by decide) ho9
      have sb3 : Stands (wo.setCell ⟨bl, 1, none⟩ (.slice a8 ((nwO d.loops).2.length + 1) c8)) bl #[.int .i64 (nwO d.loops).1, .slice a8 ((nwO d.loops).2.length + 1) c8] 58 := sb9.set 1 (.slice a8 ((nwO d.loops).2.length + 1) c8)
      generalize (wo.setCell ⟨bl, 1, none⟩ (.slice a8 ((nwO d.loops).2.length + 1) c8)) = w4 at st3 oc3 UL B3 hs3 rowsT outsN sb3 ⊢
      clear bX pX sbX stX hsL hsX kW kB sb9 y2 yg ho9 hg9 g1 g1b hlY hbd NXH
      have v0 := sb3.cell 0 _ rfl
      have v1 := sb3.cell 1 _ rfl
      have bX := box_below w4 (.cells #[.int .i64 (nwO d.loops).1, .slice a8 ((nwO d.loops).2.length + 1) c8] 58)
      have stX := st3.below bX
      obtain ⟨rowsX, p1, p2, p3, p4⟩ := OwnR.below (opnO_leR (base := base) rowsT (by omega)) bX (opnO_below bX)
      have hsX := Nat.le_trans hs3 bX.size
      obtain ⟨i9n, hi9n, hz9n, hz8n, hz7n⟩ := info_parts infoOn10
      have one : ∀ r ∈ [[Value.int .i64 (nwO d.loops).1, .slice a8 ((nwO d.loops).2.length + 1) c8]], ∀ u ∈ r, u.oneCell' = true := fun r hr u hu => by rw [List.mem_singleton] at hr; subst hr; simp at hu; rcases hu with rfl | rfl <;> rfl
      have hll : (d.loops.take (d.loops.length - 1)).length = (d.loops.length - 1) := by simp <;> omega
      rw [hll] at p3
      have P1 := hid p1
      have P2 := hid p2
      have P4 := hid p4
      have OPN := hid (own_below (own_le (b := base) (by omega) outsN) bX)
      clear p1 p2 p4
      go_upto_region 7 with (at_builtin; refine wpList_append_rowsB rfl _ _ 24 rfl base 58 i9n _ 2 32 Try.underlying24 hi9n hz9n hz8n hz7n rfl (by decide) _ ((d.loops.length - 1)) _ rfl p3 _ [[Value.int .i64 (nwO d.loops).1, .slice a8 ((nwO d.loops).2.length + 1) c8]] rfl (slc_one w4 [Value.int .i64 (nwO d.loops).1, .slice a8 ((nwO d.loops).2.length + 1) c8] 58 2 rfl) one (by unfold maxLen; simp only [List.length_singleton]; omega) (by simp only [List.length_singleton]; omega) hsX ?_; intro v9 wn ho9 hg9; have ho9 : wn.ownsRow base 58 2 v9 ((d.loops.length - 1) + 1) (rowsX.flatten ++ [Value.int .i64 (nwO d.loops).1, .slice a8 ((nwO d.loops).2.length + 1) c8]) := (by simpa using ho9); obtain ⟨a7, c7, rfl⟩ := own_form ho9; have so9 := Stands.grown stX hg9 (stands_apart stX p3 (by decide)); have y2 := so9.cell 3 _ rfl; have yg := so9.free 3)
      have kW := Kept.own p3 hg9
      have kS := set_kept so9 3 (.slice a7 ((d.loops.length - 1) + 1) c7)
      have soZ : Stands (wn.setCell ⟨q, 3, none⟩ (.slice a7 ((d.loops.length - 1) + 1) c7)) q #[.slice a9 (d.code.length + 1) c9, x1, x2, .slice a7 ((d.loops.length - 1) + 1) c7, x4] 52 := so9.set 3 (.slice a7 ((d.loops.length - 1) + 1) c7)
      have ocZ : OwC base (wn.setCell ⟨q, 3, none⟩ (.slice a7 ((d.loops.length - 1) + 1) c7)) _ _ := OwnR.kept (OwnR.kept (OwnR.below oc3 bX (fun _ _ q => q)) kW (by decide) opR_apt10) kS (by decide) opR_apt10
      have rowY : OwnR 58 2 (opnO base) base wn (.slice a7 ((d.loops.length - 1) + 1) c7) ((d.loops.take (d.loops.length - 1)) ++ [((nwO d.loops).1, (nwO d.loops).2 ++ ([(d.code.length : Int)] : List Int))]) := OwnR.snoc (e := 58) (O := opnO base) (opnO_apt (by decide)) P1.out P2.out (by rw [hll]; exact p3) P4.out rfl (x := ((nwO d.loops).1, (nwO d.loops).2 ++ ([(d.code.length : Int)] : List Int))) ⟨_, rfl, OPN.out⟩ (by rw [hll]; exact ho9) hg9
      have rowZ := OwnR.kept rowY kS (by decide) (opnO_apt (by decide))
      have UZ : Out b2 b3 w (wn.setCell ⟨q, 3, none⟩ (.slice a7 ((d.loops.length - 1) + 1) c7)) := UL.out.trans ((Out.below bX).trans ((Out.grown hg9 prA).trans (Out.kept kS (by decide) (by decide))))
      have BZ : Below base w (wn.setCell ⟨q, 3, none⟩ (.slice a7 ((d.loops.length - 1) + 1) c7)) := bset (bgrown (btrans B3.out (below_base bX hs3)) hg9 hsX (fun k hk => (p3.lt k hk).1)) q 3 (.slice a7 ((d.loops.length - 1) + 1) c7) hq
      have oEZ := OwD.toL oD UZ ocZ rowZ
      go_wp2_with fail
      go_ret
      exact actP_yes (v' := ⟨.slice a9 (d.code.length + 1) c9, x1, x2, .slice a7 ((d.loops.length - 1) + 1) c7, x4⟩) hD soZ oEZ BZ rfl
  · have he : d.loops = [] := List.eq_nil_of_length_eq_zero (by omega)
    have hN : actD d 11 = (nilD, 13) := pact_no2 hf (by decide) (by decide) (by simp [lakF, he])
    have r0 : RdN w x3 [] := by have := oD.loops.read; rw [he] at this; exact this
    have f3 := st0.cell 3 _ rfl
    go_enter Try.func44, Try.ntmps44
    go_wp2_with (go_at_call 52; refine (w_newN0 x3 _ r0).mono ?_; rintro e w2 ⟨rfl, d1⟩; have bo := below_base (below_trans d1 (box_below w2 (.cells #[.int .i64 0, .slice none 0 0] 58))) hs0)
    go_ret
    exact actP_no hN (by decide) bo rfl

set_option maxHeartbeats 4000000 in
set_option maxRecDepth 100000 in
theorem w_p10openOf (q base b1 b2 b3 : Nat) (x0 x1 x2 x3 x4 : Value) (d : Dft) (w : World) (st0 : Stands w q #[x0, x1, x2, x3, x4] 52) (oD : OwD base w ⟨x0, x1, x2, x3, x4⟩ d b1 b2 b3) (hf : frmD d = true) (ze : szE d) (hq : base ≤ q) :
    Calls Try.prog 45 #[.pointer (some ⟨q, 0, none⟩)] w (ActP q base w d 13) := by
  have oc0 := oD.code
  have U0 : Hid (Out 0 0 w w) := Out.refl _ _ _
  have B0 : Hid (Below base w w) := Below.refl _ _
  have hs0 := oD.size
  have hcl := pfrm_code hf
  have l1 := oD.le1
  have l2 := oD.le2
  have l3 := oD.le3
  have l4 := oD.le4
  dsimp only at oc0
  by_cases hp : 0 < d.cases.length
  · have hne : ¬ d.cases = [] := List.length_pos_iff.1 hp
    have hfk := pfrm_k hf hp
    obtain ⟨g, cap, rows, vo, Nn⟩ := oD.cases.newest hp
    have e1 := Nn.form
    dsimp only at e1
    subst e1
    obtain ⟨va, vq, rfl⟩ := own_form Nn.outs
    have NU : Hid (∀ W, Out 0 0 w W → Nwst b3 w.heap.size W (.slice (some ⟨g, 0, none⟩) d.cases.length cap) d.cases g cap rows (.slice va (nwO d.cases).2.length vq)) := fun W u => Nn.out hp u
    have hgb : g < w.heap.size := by have := Nn.below g rfl; omega
    have zo := ze.kouts _ (nwO_mem (List.length_pos_iff.1 hp))
    have zl := ze.cases
    have prA : ∀ k, (Value.slice (some ⟨g, 0, none⟩) (d.cases.length - 1) cap).ownBlock = some k → b3 ≤ k ∧ k < w.heap.size := oD.cases.rng
    by_cases hA0 : (nwO d.cases).1 = -1
    · have hA1 : ((nwO d.cases).1 != -1) = false := by simp [hA0]
      have hlk : lakF d 13 = false := by simp [lakF, hne, hA0]
      by_cases hr : d.code.length = 256
      · have hfull := hr
        have hN : actD d 13 = (nilD, 3) := pact_no3 hf (by decide) (by decide) hlk (by decide) (by omega)
        clear hA0 hfk
        go_enter Try.func45, Try.ntmps45
        have f4 := st0.cell 4 _ rfl
        go_upto_region 4 with (go_at_call 53; refine (w_ncaseY b3 w.heap.size q g cap _ _ _ _ d.cases rows _ false _ st0 hp (NU.out _ U0.out) hA1).mono ?_; rintro e w2 ⟨rfl, d1⟩)
        have sb1 := stands_new w2 #[.int .i64 (nwO d.cases).1, .slice va (nwO d.cases).2.length vq] 58
        have bx1 := below_trans d1 (box_below w2 (.cells #[.int .i64 (nwO d.cases).1, .slice va (nwO d.cases).2.length vq] 58))
        have st1 := st0.below bx1
        have oc1 : OwC base _ _ _ := OwnR.below oc0 bx1 (fun _ _ q => q)
        have U1 : Hid (Out 0 0 w _) := U0.out.trans (Out.below bx1)
        have B1 : Hid (Below base w _) := btrans B0.out (below_base bx1 hs0)
        have hs1 := Nat.le_trans hs0 bx1.size
        obtain ⟨bl, hbl⟩ : ∃ B, w2.heap.size = B := ⟨_, rfl⟩
        have hblw : w.heap.size ≤ bl := by rw [← hbl]; exact (U0.out.trans (Out.below d1)).1
        rw [hbl] at sb1
        (try simp only [hbl])
        generalize w2.alloc (.cells #[.int .i64 (nwO d.cases).1, .slice va (nwO d.cases).2.length vq] 58) = w2b at sb1 bx1 st1 oc1 U1 B1 hs1 ⊢
        clear bx1 d1 hbl f4
        go_upto_region 5 with (go_at_call 34; refine (w_layF q base _ _ _ _ _ d.code 10 0 _ st1 oc1 hfull).mono ?_; rintro e w3 ⟨rfl, d2⟩; have sbL := stands_out sb1 (Out.below d2) (Or.inr rfl); have gL := sbL.cell 0 _ rfl; have gF := sbL.free 0)
        have st2 := st1.below d2
        have oc2 : OwC base _ _ _ := OwnR.below oc1 d2 (fun _ _ q => q)
        have U2 : Hid (Out 0 0 w w3) := U1.out.trans (Out.below d2)
        have B2 : Hid (Below base w w3) := btrans B1.out (below_base d2 hs1)
        have V2 : Hid (Out 0 0 w2b w3) := Out.below d2
        have hs2 := Nat.le_trans hs1 d2.size
        clear st1
        have kB := set_kept sbL 0 (.int .i64 0)
        have st3 : Stands (w3.setCell ⟨bl, 0, none⟩ (.int .i64 0)) q #[x0, x1, x2, x3, .slice (some ⟨g, 0, none⟩) d.cases.length cap] 52 := stands_kept kB (by decide) st2
        have oc3 : OwC base (w3.setCell ⟨bl, 0, none⟩ (.int .i64 0)) _ _ := OwnR.kept oc2 kB (by decide) opR_apt10
        have UL : Hid (Out b3 w.heap.size w (w3.setCell ⟨bl, 0, none⟩ (.int .i64 0))) := U2.out.all.new bl 0 (.int .i64 0) hblw
        have B3 : Hid (Below base w (w3.setCell ⟨bl, 0, none⟩ (.int .i64 0))) := bset B2.out bl 0 (.int .i64 0) (by omega)
        have hs3 : base ≤ (w3.setCell ⟨bl, 0, none⟩ (.int .i64 0)).heap.size := by simp only [World.setCell, Array.size_modify]; exact hs2
        have NL := NU.out _ U2.out
        have rowsT := own_setbox (j := 0) (u := .int .i64 0) (NL.cut (gb_refl _ _)) sbL (by omega)
        have outsN : (w3.setCell ⟨bl, 0, none⟩ (.int .i64 0)).ownsRow b3 3 1 (.slice va (nwO d.cases).2.length vq) (nwO d.cases).2.length ((nwO d.cases).2.map (Value.int .i64)) := own_kept kB (by decide) NL.outs
        have sb3 : Stands (w3.setCell ⟨bl, 0, none⟩ (.int .i64 0)) bl #[.int .i64 0, .slice va (nwO d.cases).2.length vq] 58 := sbL.set 0 (.int .i64 0)
        generalize (w3.setCell ⟨bl, 0, none⟩ (.int .i64 0)) = w4 at st3 oc3 UL B3 hs3 rowsT outsN sb3 ⊢
        clear kB NL sbL gL gF
        have v0 := sb3.cell 0 _ rfl
        have v1 := sb3.cell 1 _ rfl
        have bX := box_below w4 (.cells #[.int .i64 0, .slice va (nwO d.cases).2.length vq] 58)
        have stX := st3.below bX
        obtain ⟨rowsX, p1, p2, p3, p4⟩ := OwnR.below (opnO_leR (base := base) rowsT (by omega)) bX (opnO_below bX)
        have hsX := Nat.le_trans hs3 bX.size
        obtain ⟨i9n, hi9n, hz9n, hz8n, hz7n⟩ := info_parts infoOn10
        have one : ∀ r ∈ [[Value.int .i64 0, .slice va (nwO d.cases).2.length vq]], ∀ u ∈ r, u.oneCell' = true := fun r hr u hu => by rw [List.mem_singleton] at hr; subst hr; simp at hu; rcases hu with rfl | rfl <;> rfl
        have hll : (d.cases.take (d.cases.length - 1)).length = (d.cases.length - 1) := by simp <;> omega
        rw [hll] at p3
        have P1 := hid p1
        have P2 := hid p2
        have P4 := hid p4
        have OPN := hid (own_below (own_le (b := base) (by omega) outsN) bX)
        clear p1 p2 p4
        go_upto_region 6 with (at_builtin; refine wpList_append_rowsB rfl _ _ 24 rfl base 58 i9n _ 2 32 Try.underlying24 hi9n hz9n hz8n hz7n rfl (by decide) _ ((d.cases.length - 1)) _ rfl p3 _ [[Value.int .i64 0, .slice va (nwO d.cases).2.length vq]] rfl (slc_one w4 [Value.int .i64 0, .slice va (nwO d.cases).2.length vq] 58 2 rfl) one (by unfold maxLen; simp only [List.length_singleton]; omega) (by simp only [List.length_singleton]; omega) hsX ?_; intro v9 wn ho9 hg9; have ho9 : wn.ownsRow base 58 2 v9 ((d.cases.length - 1) + 1) (rowsX.flatten ++ [Value.int .i64 0, .slice va (nwO d.cases).2.length vq]) := (by simpa using ho9); obtain ⟨a7, c7, rfl⟩ := own_form ho9; have so9 := Stands.grown stX hg9 (stands_apart stX p3 (by decide)); have y2 := so9.cell 4 _ rfl; have yg := so9.free 4)
        have kW := Kept.own p3 hg9
        have kS := set_kept so9 4 (.slice a7 ((d.cases.length - 1) + 1) c7)
        have soZ : Stands (wn.setCell ⟨q, 4, none⟩ (.slice a7 ((d.cases.length - 1) + 1) c7)) q #[x0, x1, x2, x3, .slice a7 ((d.cases.length - 1) + 1) c7] 52 := so9.set 4 (.slice a7 ((d.cases.length - 1) + 1) c7)
        have ocZ : OwC base (wn.setCell ⟨q, 4, none⟩ (.slice a7 ((d.cases.length - 1) + 1) c7)) _ _ := OwnR.kept (OwnR.kept (OwnR.below oc3 bX (fun _ _ q => q)) kW (by decide) opR_apt10) kS (by decide) opR_apt10
        have rowY : OwnR 58 2 (opnO base) base wn (.slice a7 ((d.cases.length - 1) + 1) c7) ((d.cases.take (d.cases.length - 1)) ++ [(0, (nwO d.cases).2)]) := OwnR.snoc (e := 58) (O := opnO base) (opnO_apt (by decide)) P1.out P2.out (by rw [hll]; exact p3) P4.out rfl (x := (0, (nwO d.cases).2)) ⟨_, rfl, OPN.out⟩ (by rw [hll]; exact ho9) hg9
        have rowZ := OwnR.kept rowY kS (by decide) (opnO_apt (by decide))
        have UZ : Out b3 w.heap.size w (wn.setCell ⟨q, 4, none⟩ (.slice a7 ((d.cases.length - 1) + 1) c7)) := UL.out.trans ((Out.below bX).trans ((Out.grown hg9 prA).trans (Out.kept kS (by decide) (by decide))))
        have BZ : Below base w (wn.setCell ⟨q, 4, none⟩ (.slice a7 ((d.cases.length - 1) + 1) c7)) := bset (bgrown (btrans B3.out (below_base bX hs3)) hg9 hsX (fun k hk => (p3.lt k hk).1)) q 4 (.slice a7 ((d.cases.length - 1) + 1) c7) hq
        go_wp2_with fail
        go_ret
        exact actP_no hN (by decide) (BZ) rfl
      · have hroom : d.code.length < 256 := by omega
        have hD : actD d 13 = (⟨d.code ++ [(10, 0)], d.origs, d.dests, d.loops, d.cases.take (d.cases.length - 1) ++ [((d.code.length : Int), (nwO d.cases).2)]⟩, 0) := by
          rw [pact_yes hf (by decide) (by decide) hlk (fun h => by omega)]
          exact congrArg (fun x => (x, (0 : Int))) (by simp [doD, layF, ladF, set_last _ _ hp])
        clear hA0 hfk
        go_enter Try.func45, Try.ntmps45
        have f4 := st0.cell 4 _ rfl
        go_upto_region 4 with (go_at_call 53; refine (w_ncaseY b3 w.heap.size q g cap _ _ _ _ d.cases rows _ false _ st0 hp (NU.out _ U0.out) hA1).mono ?_; rintro e w2 ⟨rfl, d1⟩)
        have sb1 := stands_new w2 #[.int .i64 (nwO d.cases).1, .slice va (nwO d.cases).2.length vq] 58
        have bx1 := below_trans d1 (box_below w2 (.cells #[.int .i64 (nwO d.cases).1, .slice va (nwO d.cases).2.length vq] 58))
        have st1 := st0.below bx1
        have oc1 : OwC base _ _ _ := OwnR.below oc0 bx1 (fun _ _ q => q)
        have U1 : Hid (Out 0 0 w _) := U0.out.trans (Out.below bx1)
        have B1 : Hid (Below base w _) := btrans B0.out (below_base bx1 hs0)
        have hs1 := Nat.le_trans hs0 bx1.size
        obtain ⟨bl, hbl⟩ : ∃ B, w2.heap.size = B := ⟨_, rfl⟩
        have hblw : w.heap.size ≤ bl := by rw [← hbl]; exact (U0.out.trans (Out.below d1)).1
        rw [hbl] at sb1
        (try simp only [hbl])
        generalize w2.alloc (.cells #[.int .i64 (nwO d.cases).1, .slice va (nwO d.cases).2.length vq] 58) = w2b at sb1 bx1 st1 oc1 U1 B1 hs1 ⊢
        clear bx1 d1 hbl f4
        go_upto_region 5 with (go_at_call 34; refine (w_layR q base _ _ _ _ _ d.code 10 0 _ st1 oc1 hroom hs1 hq).mono ?_; rintro e w3 ⟨a9, c9, rfl, st2, oc2, u2, d2⟩; have sbL := stands_out sb1 (u2) (Or.inr rfl); have gL := sbL.cell 0 _ rfl; have gF := sbL.free 0)
        have U2 : Hid (Out 0 0 w w3) := U1.out.trans u2
        have B2 : Hid (Below base w w3) := btrans B1.out d2
        have V2 : Hid (Out 0 0 w2b w3) := u2
        have hs2 := Nat.le_trans hs1 d2.size
        clear st1
        have kB := set_kept sbL 0 (.int .i64 (d.code.length : Int))
        have st3 : Stands (w3.setCell ⟨bl, 0, none⟩ (.int .i64 (d.code.length : Int))) q #[.slice a9 (d.code.length + 1) c9, x1, x2, x3, .slice (some ⟨g, 0, none⟩) d.cases.length cap] 52 := stands_kept kB (by decide) st2
        have oc3 : OwC base (w3.setCell ⟨bl, 0, none⟩ (.int .i64 (d.code.length : Int))) _ _ := OwnR.kept oc2 kB (by decide) opR_apt10
        have UL : Hid (Out b3 w.heap.size w (w3.setCell ⟨bl, 0, none⟩ (.int .i64 (d.code.length : Int)))) := U2.out.all.new bl 0 (.int .i64 (d.code.length : Int)) hblw
        have B3 : Hid (Below base w (w3.setCell ⟨bl, 0, none⟩ (.int .i64 (d.code.length : Int)))) := bset B2.out bl 0 (.int .i64 (d.code.length : Int)) (by omega)
        have hs3 : base ≤ (w3.setCell ⟨bl, 0, none⟩ (.int .i64 (d.code.length : Int))).heap.size := by simp only [World.setCell, Array.size_modify]; exact hs2
        have NL := NU.out _ U2.out
        have rowsT := own_setbox (j := 0) (u := .int .i64 (d.code.length : Int)) (NL.cut (gb_refl _ _)) sbL (by omega)
        have outsN : (w3.setCell ⟨bl, 0, none⟩ (.int .i64 (d.code.length : Int))).ownsRow b3 3 1 (.slice va (nwO d.cases).2.length vq) (nwO d.cases).2.length ((nwO d.cases).2.map (Value.int .i64)) := own_kept kB (by decide) NL.outs
        have sb3 : Stands (w3.setCell ⟨bl, 0, none⟩ (.int .i64 (d.code.length : Int))) bl #[.int .i64 (d.code.length : Int), .slice va (nwO d.cases).2.length vq] 58 := sbL.set 0 (.int .i64 (d.code.length : Int))
        generalize (w3.setCell ⟨bl, 0, none⟩ (.int .i64 (d.code.length : Int))) = w4 at st3 oc3 UL B3 hs3 rowsT outsN sb3 ⊢
        clear kB NL sbL gL gF
        have v0 := sb3.cell 0 _ rfl
        have v1 := sb3.cell 1 _ rfl
        have bX := box_below w4 (.cells #[.int .i64 (d.code.length : Int), .slice va (nwO d.cases).2.length vq] 58)
        have stX := st3.below bX
        obtain ⟨rowsX, p1, p2, p3, p4⟩ := OwnR.below (opnO_leR (base := base) rowsT (by omega)) bX (opnO_below bX)
        have hsX := Nat.le_trans hs3 bX.size
        obtain ⟨i9n, hi9n, hz9n, hz8n, hz7n⟩ := info_parts infoOn10
        have one : ∀ r ∈ [[Value.int .i64 (d.code.length : Int), .slice va (nwO d.cases).2.length vq]], ∀ u ∈ r, u.oneCell' = true := fun r hr u hu => by rw [List.mem_singleton] at hr; subst hr; simp at hu; rcases hu with rfl | rfl <;> rfl
        have hll : (d.cases.take (d.cases.length - 1)).length = (d.cases.length - 1) := by simp <;> omega
        rw [hll] at p3
        have P1 := hid p1
        have P2 := hid p2
        have P4 := hid p4
        have OPN := hid (own_below (own_le (b := base) (by omega) outsN) bX)
        clear p1 p2 p4
        go_upto_region 6 with (at_builtin; refine wpList_append_rowsB rfl _ _ 24 rfl base 58 i9n _ 2 32 Try.underlying24 hi9n hz9n hz8n hz7n rfl (by decide) _ ((d.cases.length - 1)) _ rfl p3 _ [[Value.int .i64 (d.code.length : Int), .slice va (nwO d.cases).2.length vq]] rfl (slc_one w4 [Value.int .i64 (d.code.length : Int), .slice va (nwO d.cases).2.length vq] 58 2 rfl) one (by unfold maxLen; simp only [List.length_singleton]; omega) (by simp only [List.length_singleton]; omega) hsX ?_; intro v9 wn ho9 hg9; have ho9 : wn.ownsRow base 58 2 v9 ((d.cases.length - 1) + 1) (rowsX.flatten ++ [Value.int .i64 (d.code.length : Int), .slice va (nwO d.cases).2.length vq]) := (by simpa using ho9); obtain ⟨a7, c7, rfl⟩ := own_form ho9; have so9 := Stands.grown stX hg9 (stands_apart stX p3 (by decide)); have y2 := so9.cell 4 _ rfl; have yg := so9.free 4)
        have kW := Kept.own p3 hg9
        have kS := set_kept so9 4 (.slice a7 ((d.cases.length - 1) + 1) c7)
        have soZ : Stands (wn.setCell ⟨q, 4, none⟩ (.slice a7 ((d.cases.length - 1) + 1) c7)) q #[.slice a9 (d.code.length + 1) c9, x1, x2, x3, .slice a7 ((d.cases.length - 1) + 1) c7] 52 := so9.set 4 (.slice a7 ((d.cases.length - 1) + 1) c7)
        have ocZ : OwC base (wn.setCell ⟨q, 4, none⟩ (.slice a7 ((d.cases.length - 1) + 1) c7)) _ _ := OwnR.kept (OwnR.kept (OwnR.below oc3 bX (fun _ _ q => q)) kW (by decide) opR_apt10) kS (by decide) opR_apt10
        have rowY : OwnR 58 2 (opnO base) base wn (.slice a7 ((d.cases.length - 1) + 1) c7) ((d.cases.take (d.cases.length - 1)) ++ [((d.code.length : Int), (nwO d.cases).2)]) := OwnR.snoc (e := 58) (O := opnO base) (opnO_apt (by decide)) P1.out P2.out (by rw [hll]; exact p3) P4.out rfl (x := ((d.code.length : Int), (nwO d.cases).2)) ⟨_, rfl, OPN.out⟩ (by rw [hll]; exact ho9) hg9
        have rowZ := OwnR.kept rowY kS (by decide) (opnO_apt (by decide))
        have UZ : Out b3 w.heap.size w (wn.setCell ⟨q, 4, none⟩ (.slice a7 ((d.cases.length - 1) + 1) c7)) := UL.out.trans ((Out.below bX).trans ((Out.grown hg9 prA).trans (Out.kept kS (by decide) (by decide))))
        have BZ : Below base w (wn.setCell ⟨q, 4, none⟩ (.slice a7 ((d.cases.length - 1) + 1) c7)) := bset (bgrown (btrans B3.out (below_base bX hs3)) hg9 hsX (fun k hk => (p3.lt k hk).1)) q 4 (.slice a7 ((d.cases.length - 1) + 1) c7) hq
        have oEZ := OwD.toK oD UZ ocZ rowZ
        go_wp2_with fail
        go_ret
        exact actP_yes (v' := ⟨.slice a9 (d.code.length + 1) c9, x1, x2, x3, .slice a7 ((d.cases.length - 1) + 1) c7⟩) hD soZ oEZ BZ rfl
    · have hA1 : ((nwO d.cases).1 != -1) = true := by simp [hA0]
      have hN : actD d 13 = (nilD, 13) := pact_no2 hf (by decide) (by decide) (by simp [lakF, hne, hA0])
      have NW := NU.out w (Out.refl _ _ _)
      clear hA0
      go_enter Try.func45, Try.ntmps45
      go_wp2_with (go_at_call 53; refine (w_ncaseN b3 w.heap.size q g cap _ _ _ _ d.cases rows _ false _ st0 hp NW hA1).mono ?_; rintro e w2 ⟨rfl, d1⟩; have bo := below_base (below_trans d1 (box_below w2 (.cells #[.int .i64 0, .slice none 0 0] 58))) hs0)
      go_ret
      exact actP_no hN (by decide) bo rfl
  · have he : d.cases = [] := List.eq_nil_of_length_eq_zero (by omega)
    have hN : actD d 13 = (nilD, 13) := pact_no2 hf (by decide) (by decide) (by simp [lakF, he])
    have r0 : RdN w x4 [] := by have := oD.cases.read; rw [he] at this; exact this
    have f4 := st0.cell 4 _ rfl
    go_enter Try.func45, Try.ntmps45
    go_wp2_with (go_at_call 53; refine (w_ncase0 q _ _ _ _ x4 false _ st0 r0).mono ?_; rintro e w2 ⟨rfl, d1⟩; have bo := below_base (below_trans d1 (box_below w2 (.cells #[.int .i64 0, .slice none 0 0] 58))) hs0)
    go_ret
    exact actP_no hN (by decide) bo rfl

set_option maxHeartbeats 4000000 in
set_option maxRecDepth 100000 in
theorem w_p10closeOf (q base b1 b2 b3 : Nat) (x0 x1 x2 x3 x4 : Value) (d : Dft) (w : World) (st0 : Stands w q #[x0, x1, x2, x3, x4] 52) (oD : OwD base w ⟨x0, x1, x2, x3, x4⟩ d b1 b2 b3) (hf : frmD d = true) (ze : szE d) (hq : base ≤ q) :
    Calls Try.prog 46 #[.pointer (some ⟨q, 0, none⟩)] w (ActP q base w d 14) := by
  have oc0 := oD.code
  have U0 : Hid (Out 0 0 w w) := Out.refl _ _ _
  have B0 : Hid (Below base w w) := Below.refl _ _
  have hs0 := oD.size
  have hcl := pfrm_code hf
  have l1 := oD.le1
  have l2 := oD.le2
  have l3 := oD.le3
  have l4 := oD.le4
  dsimp only at oc0
  by_cases hp : 0 < d.cases.length
  · have hne : ¬ d.cases = [] := List.length_pos_iff.1 hp
    have hfk := pfrm_k hf hp
    obtain ⟨g, cap, rows, vo, Nn⟩ := oD.cases.newest hp
    have e1 := Nn.form
    dsimp only at e1
    subst e1
    obtain ⟨va, vq, rfl⟩ := own_form Nn.outs
    have NU : Hid (∀ W, Out 0 0 w W → Nwst b3 w.heap.size W (.slice (some ⟨g, 0, none⟩) d.cases.length cap) d.cases g cap rows (.slice va (nwO d.cases).2.length vq)) := fun W u => Nn.out hp u
    have hgb : g < w.heap.size := by have := Nn.below g rfl; omega
    have zo := ze.kouts _ (nwO_mem (List.length_pos_iff.1 hp))
    have zl := ze.cases
    have prA : ∀ k, (Value.slice (some ⟨g, 0, none⟩) (d.cases.length - 1) cap).ownBlock = some k → b3 ≤ k ∧ k < w.heap.size := oD.cases.rng
    by_cases hA0 : (nwO d.cases).1 = -1
    · have hA1 : ((nwO d.cases).1 != -1) = false := by simp [hA0]
      have hN : actD d 14 = (nilD, 13) := pact_no2 hf (by decide) (by decide) (by simp [lakF, hne, hA0])
      have NW := NU.out w (Out.refl _ _ _)
      clear hA0
      go_enter Try.func46, Try.ntmps46
      go_wp2_with (go_at_call 53; refine (w_ncaseN b3 w.heap.size q g cap _ _ _ _ d.cases rows _ true _ st0 hp NW hA1).mono ?_; rintro e w2 ⟨rfl, d1⟩; have bo := below_base (below_trans d1 (box_below w2 (.cells #[.int .i64 0, .slice none 0 0] 58))) hs0)
      go_ret
      exact actP_no hN (by decide) bo rfl
    · have hA1 : ((nwO d.cases).1 != -1) = true := by simp [hA0]
      have hlk : lakF d 14 = false := by simp [lakF, hne, hA0]
      by_cases hr : d.code.length = 256
      · have hfull := hr
        have hN : actD d 14 = (nilD, 3) := pact_no3 hf (by decide) (by decide) hlk (by decide) (by omega)
        have hin := hfk.1.resolve_left hA0
        clear hA0 hfk
        go_enter Try.func46, Try.ntmps46
        have f4 := st0.cell 4 _ rfl
        go_upto_region 4 with (go_at_call 53; refine (w_ncaseY b3 w.heap.size q g cap _ _ _ _ d.cases rows _ true _ st0 hp (NU.out _ U0.out) hA1).mono ?_; rintro e w2 ⟨rfl, d1⟩)
        have sb1 := stands_new w2 #[.int .i64 (nwO d.cases).1, .slice va (nwO d.cases).2.length vq] 58
        have bx1 := below_trans d1 (box_below w2 (.cells #[.int .i64 (nwO d.cases).1, .slice va (nwO d.cases).2.length vq] 58))
        have st1 := st0.below bx1
        have oc1 : OwC base _ _ _ := OwnR.below oc0 bx1 (fun _ _ q => q)
        have U1 : Hid (Out 0 0 w _) := U0.out.trans (Out.below bx1)
        have B1 : Hid (Below base w _) := btrans B0.out (below_base bx1 hs0)
        have hs1 := Nat.le_trans hs0 bx1.size
        obtain ⟨bl, hbl⟩ : ∃ B, w2.heap.size = B := ⟨_, rfl⟩
        have hblw : w.heap.size ≤ bl := by rw [← hbl]; exact (U0.out.trans (Out.below d1)).1
        rw [hbl] at sb1
        (try simp only [hbl])
        generalize w2.alloc (.cells #[.int .i64 (nwO d.cases).1, .slice va (nwO d.cases).2.length vq] 58) = w2b at sb1 bx1 st1 oc1 U1 B1 hs1 ⊢
        clear bx1 d1 hbl f4
        go_upto_region 5 with (go_at_call 34; refine (w_layF q base _ _ _ _ _ d.code 3 0 _ st1 oc1 hfull).mono ?_; rintro e w3 ⟨rfl, d2⟩)
        have st2 := st1.below d2
        have oc2 : OwC base _ _ _ := OwnR.below oc1 d2 (fun _ _ q => q)
        have U2 : Hid (Out 0 0 w w3) := U1.out.trans (Out.below d2)
        have B2 : Hid (Below base w w3) := btrans B1.out (below_base d2 hs1)
        have V2 : Hid (Out 0 0 w2b w3) := Out.below d2
        have hs2 := Nat.le_trans hs1 d2.size
        clear st1
        go_wp2_with fail
        go_ret
        exact actP_no hN (by decide) (B2.out) rfl
      · have hroom : d.code.length < 256 := by omega
        have hin := hfk.1.resolve_left hA0
        have hD : actD d 14 = (⟨aimF (d.code ++ [(3, 0)]) [(nwO d.cases).1] ((d.code.length : Int) + 1), d.origs, d.dests, d.loops, d.cases.take (d.cases.length - 1) ++ [(-1, (nwO d.cases).2 ++ [(d.code.length : Int)])]⟩, 0) := by
          rw [pact_yes hf (by decide) (by decide) hlk (fun h => by omega)]
          exact congrArg (fun x => (x, (0 : Int))) (by simp [doD, layF, ladF, set_last _ _ hp, aimF])
        clear hA0 hfk
        go_enter Try.func46, Try.ntmps46
        have f4 := st0.cell 4 _ rfl
        go_upto_region 4 with (go_at_call 53; refine (w_ncaseY b3 w.heap.size q g cap _ _ _ _ d.cases rows _ true _ st0 hp (NU.out _ U0.out) hA1).mono ?_; rintro e w2 ⟨rfl, d1⟩)
        have sb1 := stands_new w2 #[.int .i64 (nwO d.cases).1, .slice va (nwO d.cases).2.length vq] 58
        have bx1 := below_trans d1 (box_below w2 (.cells #[.int .i64 (nwO d.cases).1, .slice va (nwO d.cases).2.length vq] 58))
        have st1 := st0.below bx1
        have oc1 : OwC base _ _ _ := OwnR.below oc0 bx1 (fun _ _ q => q)
        have U1 : Hid (Out 0 0 w _) := U0.out.trans (Out.below bx1)
        have B1 : Hid (Below base w _) := btrans B0.out (below_base bx1 hs0)
        have hs1 := Nat.le_trans hs0 bx1.size
        obtain ⟨bl, hbl⟩ : ∃ B, w2.heap.size = B := ⟨_, rfl⟩
        have hblw : w.heap.size ≤ bl := by rw [← hbl]; exact (U0.out.trans (Out.below d1)).1
        rw [hbl] at sb1
        (try simp only [hbl])
        generalize w2.alloc (.cells #[.int .i64 (nwO d.cases).1, .slice va (nwO d.cases).2.length vq] 58) = w2b at sb1 bx1 st1 oc1 U1 B1 hs1 ⊢
        clear bx1 d1 hbl f4
        go_upto_region 5 with (go_at_call 34; refine (w_layR q base _ _ _ _ _ d.code 3 0 _ st1 oc1 hroom hs1 hq).mono ?_; rintro e w3 ⟨a9, c9, rfl, st2, oc2, u2, d2⟩)
        have U2 : Hid (Out 0 0 w w3) := U1.out.trans u2
        have B2 : Hid (Below base w w3) := btrans B1.out d2
        have V2 : Hid (Out 0 0 w2b w3) := u2
        have hs2 := Nat.le_trans hs1 d2.size
        clear st1
        have sb2 := stands_out sb1 V2.out (Or.inr rfl)
        have g0 := sb2.cell 0 _ rfl
        have hC0 : (d.code ++ [(3, 0)]).length = d.code.length + 1 := by simp
        obtain ⟨gc, cC, eC⟩ := gcode oc2 (by rw [hC0]; omega)
        obtain ⟨rfl, rfl⟩ := slice_inj eC
        clear eC
        go_upto_region 7 with fail
        have bx3 := box_below w3 (.cells #[.int .i64 (nwO d.cases).1] 3)
        have st3 := st2.below bx3
        have oc3 : OwC base _ _ _ := OwnR.below oc2 bx3 (fun _ _ q => q)
        have U3 : Hid (Out 0 0 w (w3.alloc (.cells #[.int .i64 (nwO d.cases).1] 3))) := U2.out.trans (Out.below bx3)
        have B3 : Hid (Below base w (w3.alloc (.cells #[.int .i64 (nwO d.cases).1] 3))) := btrans B2.out (below_base bx3 hs2)
        have hs3 := Nat.le_trans hs2 bx3.size
        have V3 : Hid (Out 0 0 w3 (w3.alloc (.cells #[.int .i64 (nwO d.cases).1] 3))) := Out.below bx3
        have sb3 := stands_out sb2 V3.out (Or.inr rfl)
        have rl := own_lit w3 [(nwO d.cases).1] 3 (by unfold maxLen; simp)
        have hC4 : (d.code ++ [(3, 0)]).length = d.code.length + 1 := by simp [aim_len]
        have hI4 : (((d.code ++ [(3, 0)]).length : Nat) : Int) = (d.code.length : Int) + 1 := by rw [hC4]; rfl
        obtain ⟨csC4, rC4⟩ := OwnR.row oc3
        have cl4 := w_lead q base gc c9 x1 x2 x3 (.slice (some ⟨g, 0, none⟩) d.cases.length cap) (.slice (some ⟨w3.heap.size, 0, none⟩) 1 1) (d.code ++ [(3, 0)]) [(nwO d.cases).1] (w3.alloc (.cells #[.int .i64 (nwO d.cases).1] 3)) (by rw [hC4]; exact st3) (by rw [hC4]; exact oc3) (fun W kk => (Rd_own (own_kept kk (by decide) rl)).1) (fun n hn => by rw [hI4]; rw [List.mem_singleton] at hn; rw [hn]; omega) (by rw [hC4]; omega)
        rw [hI4] at cl4
        rw [hC4] at cl4
        go_upto_region 8 with (go_at_call 51; refine cl4.mono ?_; rintro e w5 ⟨rfl, oc4, g4⟩)
        have kC4 := Kept.own rC4 g4
        have st4 := stands_kept kC4 (by decide) st3
        have U4 : Hid (Out 0 0 w w5) := U3.out.trans (Out.kept kC4 (by decide) (by decide))
        have V4 : Hid (Out 0 0 (w3.alloc (.cells #[.int .i64 (nwO d.cases).1] 3)) w5) := Out.kept kC4 (by decide) (by decide)
        have B4 : Hid (Below base w w5) := bgrown B3.out g4 hs3 (fun k hk => (rC4.lt k hk).1)
        have hs4 := Nat.le_trans hs3 g4.size
        clear cl4
        have sb4 := stands_out sb3 V4.out (Or.inr rfl)
        clear g0
        have bX := box_below w5 (.cells #[.int .i64 (d.code.length : Int)] 3)
        have NX := (NU.out _ U4.out).kept hp (Kept.below (T := 35) bX) (by decide) (by decide)
        have pX := NX.outs
        have stX := st4.below bX
        have hsL : b3 ≤ (w5.alloc (.cells #[.int .i64 (d.code.length : Int)] 3)).heap.size := Nat.le_trans (show b3 ≤ w.heap.size by omega) (Nat.le_trans U4.out.1 bX.size)
        have hsX := Nat.le_trans hs4 bX.size
        obtain ⟨i8, hi8, hz6, hz5, hz4⟩ := info_parts infoJ10
        obtain ⟨i9n, hi9n, hz9n, hz8n, hz7n⟩ := info_parts infoOn10
        have hlY : ((nwO d.cases).2 ++ ([(d.code.length : Int)] : List Int)).length = (nwO d.cases).2.length + 1 := by simp
        have hbd : ((nwO d.cases).2.length + ([(d.code.length : Int)] : List Int).length) * 8 ≤ 140737488355328 ∧ (nwO d.cases).2.length + ([(d.code.length : Int)] : List Int).length ≤ maxLen := by rw [List.length_append] at hlY; rw [hlY]; unfold maxLen; omega
        have g1 := sb4.cell 1 _ rfl
        have NXH := hid NX
        clear NX
        have hll : (d.cases.take (d.cases.length - 1)).length = (d.cases.length - 1) := by simp <;> omega
        go_upto_region 9 with (first | (at_builtin; refine wpList_append_rd (k := .i64) rfl _ _ 23 rfl b3 3 i8 8 Try.underlying23 hi8 hz6 hz5 hz4 _ (nwO d.cases).2 rfl pX _ ([(d.code.length : Int)] : List Int) rfl (rd_lit w5 [(d.code.length : Int)] 3 (Nat.succ_pos _) (by unfold maxLen; simp)) hbd.2 hbd.1 hsL ?_; intro v9 wo ho9 hg9; rw [hlY] at ho9; obtain ⟨a8, c8, rfl⟩ := own_form ho9; have st9 := Stands.grown stX hg9 (stands_apart stX pX (by decide)); have rT := opnO_leR (base := base) (NXH.out.cut hg9) (by omega); have bY := box_below wo (.cells #[.int .i64 (-1), .slice a8 ((nwO d.cases).2.length + 1) c8] 58); have stY := st9.below bY; obtain ⟨rowsX, p1, p2, p3, p4⟩ := OwnR.below rT bY (opnO_below bY); rw [hll] at p3; have one : ∀ r ∈ [[Value.int .i64 (-1), .slice a8 ((nwO d.cases).2.length + 1) c8]], ∀ u ∈ r, u.oneCell' = true := (fun r hr u hu => by rw [List.mem_singleton] at hr; subst hr; simp at hu; rcases hu with rfl | rfl <;> rfl); have P1 := hid p1; have P2 := hid p2; have P4 := hid p4; have HO9 := hid ho9; have hsY := Nat.le_trans hsX (Nat.le_trans hg9.size bY.size); clear p1 p2 p4 ho9 rT) | (at_builtin; refine wpList_append_rowsB rfl _ _ 24 rfl base 58 i9n _ 2 32 Try.underlying24 hi9n hz9n hz8n hz7n rfl (by decide) _ ((d.cases.length - 1)) _ rfl p3 _ [[Value.int .i64 (-1), .slice a8 ((nwO d.cases).2.length + 1) c8]] rfl (slc_one wo [Value.int .i64 (-1), .slice a8 ((nwO d.cases).2.length + 1) c8] 58 2 rfl) one (by unfold maxLen; simp only [List.length_singleton]; omega) (by simp only [List.length_singleton]; omega) hsY ?_; intro v8 wn ho8 hg8; have ho8 : wn.ownsRow base 58 2 v8 ((d.cases.length - 1) + 1) (rowsX.flatten ++ [Value.int .i64 (-1), .slice a8 ((nwO d.cases).2.length + 1) c8]) := (by simpa using ho8); obtain ⟨a7, c7, rfl⟩ := own_form ho8; have so9 := Stands.grown stY hg8 (stands_apart stY p3 (by decide)); have y2 := so9.cell 4 _ rfl; have yg := so9.free 4))
        have kW := Kept.own pX hg9
        have kV := Kept.own p3 hg8
        have kS := set_kept so9 4 (.slice a7 ((d.cases.length - 1) + 1) c7)
        have soZ : Stands (wn.setCell ⟨q, 4, none⟩ (.slice a7 ((d.cases.length - 1) + 1) c7)) q #[.slice (some ⟨gc, 0, none⟩) (d.code.length + 1) c9, x1, x2, x3, .slice a7 ((d.cases.length - 1) + 1) c7] 52 := so9.set 4 (.slice a7 ((d.cases.length - 1) + 1) c7)
        have ocZ : OwC base (wn.setCell ⟨q, 4, none⟩ (.slice a7 ((d.cases.length - 1) + 1) c7)) _ _ := OwnR.kept (OwnR.kept (OwnR.below (OwnR.kept (OwnR.below oc4 bX (fun _ _ q => q)) kW (by decide) opR_apt10) bY (fun _ _ q => q)) kV (by decide) opR_apt10) kS (by decide) opR_apt10
        have oO : wo.ownsRow base 3 1 (.slice a8 ((nwO d.cases).2.length + 1) c8) ((nwO d.cases).2 ++ ([(d.code.length : Int)] : List Int)).length (((nwO d.cases).2 ++ ([(d.code.length : Int)] : List Int)).map (Value.int .i64)) := by rw [hlY]; exact own_le (by omega) HO9.out
        have rowY : OwnR 58 2 (opnO base) base wn (.slice a7 ((d.cases.length - 1) + 1) c7) ((d.cases.take (d.cases.length - 1)) ++ [(-1, (nwO d.cases).2 ++ ([(d.code.length : Int)] : List Int))]) := OwnR.snoc (e := 58) (O := opnO base) (opnO_apt (by decide)) P1.out P2.out (by rw [hll]; exact p3) P4.out rfl (x := (-1, (nwO d.cases).2 ++ ([(d.code.length : Int)] : List Int))) ⟨_, rfl, own_below oO bY⟩ (by rw [hll]; exact ho8) hg8
        have rowZ := OwnR.kept rowY kS (by decide) (opnO_apt (by decide))
        have UZ : Out b3 w.heap.size w (wn.setCell ⟨q, 4, none⟩ (.slice a7 ((d.cases.length - 1) + 1) c7)) := (U4.out.all.trans ((Out.below bX).trans ((Out.grown hg9 Nn.rng).trans (Out.below bY)))).trans ((Out.grown hg8 prA).trans (Out.kept kS (by decide) (by decide)))
        have BZ : Below base w (wn.setCell ⟨q, 4, none⟩ (.slice a7 ((d.cases.length - 1) + 1) c7)) := bset (bgrown (btrans (bgrown (btrans B4.out (below_base bX hs4)) hg9 hsX (fun k hk => by have := (pX.lt k hk).1; omega)) (below_base bY (Nat.le_trans hsX hg9.size))) hg8 hsY (fun k hk => (p3.lt k hk).1)) q 4 (.slice a7 ((d.cases.length - 1) + 1) c7) hq
        have oEZ := OwD.toK oD UZ ocZ rowZ
        go_wp2_with fail
        go_ret
        exact actP_yes (v' := ⟨.slice (some ⟨gc, 0, none⟩) (d.code.length + 1) c9, x1, x2, x3, .slice a7 ((d.cases.length - 1) + 1) c7⟩) hD soZ oEZ BZ rfl
  · have he : d.cases = [] := List.eq_nil_of_length_eq_zero (by omega)
    have hN : actD d 14 = (nilD, 13) := pact_no2 hf (by decide) (by decide) (by simp [lakF, he])
    have r0 : RdN w x4 [] := by have := oD.cases.read; rw [he] at this; exact this
    have f4 := st0.cell 4 _ rfl
    go_enter Try.func46, Try.ntmps46
    go_wp2_with (go_at_call 53; refine (w_ncase0 q _ _ _ _ x4 true _ st0 r0).mono ?_; rintro e w2 ⟨rfl, d1⟩; have bo := below_base (below_trans d1 (box_below w2 (.cells #[.int .i64 0, .slice none 0 0] 58))) hs0)
    go_ret
    exact actP_no hN (by decide) bo rfl

set_option maxHeartbeats 4000000 in
set_option maxRecDepth 100000 in
theorem w_p10closeCase (q base b1 b2 b3 : Nat) (x0 x1 x2 x3 x4 : Value) (d : Dft) (w : World) (st0 : Stands w q #[x0, x1, x2, x3, x4] 52) (oD : OwD base w ⟨x0, x1, x2, x3, x4⟩ d b1 b2 b3) (hf : frmD d = true) (ze : szE d) (hq : base ≤ q) :
    Calls Try.prog 47 #[.pointer (some ⟨q, 0, none⟩)] w (ActP q base w d 15) := by
  have oc0 := oD.code
  have U0 : Hid (Out 0 0 w w) := Out.refl _ _ _
  have B0 : Hid (Below base w w) := Below.refl _ _
  have hs0 := oD.size
  have hcl := pfrm_code hf
  have l1 := oD.le1
  have l2 := oD.le2
  have l3 := oD.le3
  have l4 := oD.le4
  dsimp only at oc0
  by_cases hp : 0 < d.cases.length
  · have hne : ¬ d.cases = [] := List.length_pos_iff.1 hp
    have hfk := pfrm_k hf hp
    obtain ⟨g, cap, rows, vo, Nn⟩ := oD.cases.newest hp
    have e1 := Nn.form
    dsimp only at e1
    subst e1
    obtain ⟨va, vq, rfl⟩ := own_form Nn.outs
    have NU : Hid (∀ W, Out 0 0 w W → Nwst b3 w.heap.size W (.slice (some ⟨g, 0, none⟩) d.cases.length cap) d.cases g cap rows (.slice va (nwO d.cases).2.length vq)) := fun W u => Nn.out hp u
    have hgb : g < w.heap.size := by have := Nn.below g rfl; omega
    have zo := ze.kouts _ (nwO_mem (List.length_pos_iff.1 hp))
    have zl := ze.cases
    have prA : ∀ k, (Value.slice (some ⟨g, 0, none⟩) (d.cases.length - 1) cap).ownBlock = some k → b3 ≤ k ∧ k < w.heap.size := oD.cases.rng
    by_cases hA0 : (nwO d.cases).1 = -1
    · have hA1 : ((nwO d.cases).1 != -1) = false := by simp [hA0]
      have hlk : lakF d 15 = false := by simp [lakF, hne, hA0]
      by_cases hr : d.code.length = 256
      · have hfull := hr
        have hN : actD d 15 = (nilD, 3) := pact_no3 hf (by decide) (by decide) hlk (by decide) (by omega)
        have HI : Hid (∀ n ∈ (nwO d.cases).2, 0 ≤ n ∧ n < d.code.length) := hfk.2
        have pT := Nn.cut (gb_refl w _)
        clear hA0 hfk
        go_enter Try.func47, Try.ntmps47
        have f4 := st0.cell 4 _ rfl
        go_upto_region 4 with (go_at_call 53; refine (w_ncaseY b3 w.heap.size q g cap _ _ _ _ d.cases rows _ false _ st0 hp (NU.out _ U0.out) hA1).mono ?_; rintro e w2 ⟨rfl, d1⟩)
        have sb1 := stands_new w2 #[.int .i64 (nwO d.cases).1, .slice va (nwO d.cases).2.length vq] 58
        have bx1 := below_trans d1 (box_below w2 (.cells #[.int .i64 (nwO d.cases).1, .slice va (nwO d.cases).2.length vq] 58))
        have st1 := st0.below bx1
        have oc1 : OwC base _ _ _ := OwnR.below oc0 bx1 (fun _ _ q => q)
        have U1 : Hid (Out 0 0 w _) := U0.out.trans (Out.below bx1)
        have B1 : Hid (Below base w _) := btrans B0.out (below_base bx1 hs0)
        have hs1 := Nat.le_trans hs0 bx1.size
        obtain ⟨bl, hbl⟩ : ∃ B, w2.heap.size = B := ⟨_, rfl⟩
        have hblw : w.heap.size ≤ bl := by rw [← hbl]; exact (U0.out.trans (Out.below d1)).1
        rw [hbl] at sb1
        (try simp only [hbl])
        generalize w2.alloc (.cells #[.int .i64 (nwO d.cases).1, .slice va (nwO d.cases).2.length vq] 58) = w2b at sb1 bx1 st1 oc1 U1 B1 hs1 ⊢
        clear bx1 d1 hbl f4
        go_upto_region 5 with (go_at_call 34; refine (w_layF q base _ _ _ _ _ d.code 11 0 _ st1 oc1 hfull).mono ?_; rintro e w3 ⟨rfl, d2⟩)
        have st2 := st1.below d2
        have oc2 : OwC base _ _ _ := OwnR.below oc1 d2 (fun _ _ q => q)
        have U2 : Hid (Out 0 0 w w3) := U1.out.trans (Out.below d2)
        have B2 : Hid (Below base w w3) := btrans B1.out (below_base d2 hs1)
        have V2 : Hid (Out 0 0 w2b w3) := Out.below d2
        have hs2 := Nat.le_trans hs1 d2.size
        clear st1
        go_wp2_with fail
        go_ret
        exact actP_no hN (by decide) (B2.out) rfl
      · have hroom : d.code.length < 256 := by omega
        have hD : actD d 15 = (⟨aimF (d.code ++ [(11, 0)]) (nwO d.cases).2 ((d.code.length : Int) + 1), d.origs, d.dests, d.loops, d.cases.take (d.cases.length - 1)⟩, 0) := by
          rw [pact_yes hf (by decide) (by decide) hlk (fun h => by omega)]
          exact congrArg (fun x => (x, (0 : Int))) (by simp [doD, layF, ladF])
        have HI : Hid (∀ n ∈ (nwO d.cases).2, 0 ≤ n ∧ n < d.code.length) := hfk.2
        have pT := Nn.cut (gb_refl w _)
        clear hA0 hfk
        go_enter Try.func47, Try.ntmps47
        have f4 := st0.cell 4 _ rfl
        go_upto_region 4 with (go_at_call 53; refine (w_ncaseY b3 w.heap.size q g cap _ _ _ _ d.cases rows _ false _ st0 hp (NU.out _ U0.out) hA1).mono ?_; rintro e w2 ⟨rfl, d1⟩)
        have sb1 := stands_new w2 #[.int .i64 (nwO d.cases).1, .slice va (nwO d.cases).2.length vq] 58
        have bx1 := below_trans d1 (box_below w2 (.cells #[.int .i64 (nwO d.cases).1, .slice va (nwO d.cases).2.length vq] 58))
        have st1 := st0.below bx1
        have oc1 : OwC base _ _ _ := OwnR.below oc0 bx1 (fun _ _ q => q)
        have U1 : Hid (Out 0 0 w _) := U0.out.trans (Out.below bx1)
        have B1 : Hid (Below base w _) := btrans B0.out (below_base bx1 hs0)
        have hs1 := Nat.le_trans hs0 bx1.size
        obtain ⟨bl, hbl⟩ : ∃ B, w2.heap.size = B := ⟨_, rfl⟩
        have hblw : w.heap.size ≤ bl := by rw [← hbl]; exact (U0.out.trans (Out.below d1)).1
        rw [hbl] at sb1
        (try simp only [hbl])
        generalize w2.alloc (.cells #[.int .i64 (nwO d.cases).1, .slice va (nwO d.cases).2.length vq] 58) = w2b at sb1 bx1 st1 oc1 U1 B1 hs1 ⊢
        clear bx1 d1 hbl f4
        go_upto_region 5 with (go_at_call 34; refine (w_layR q base _ _ _ _ _ d.code 11 0 _ st1 oc1 hroom hs1 hq).mono ?_; rintro e w3 ⟨a9, c9, rfl, st2, oc2, u2, d2⟩)
        have U2 : Hid (Out 0 0 w w3) := U1.out.trans u2
        have B2 : Hid (Below base w w3) := btrans B1.out d2
        have V2 : Hid (Out 0 0 w2b w3) := u2
        have hs2 := Nat.le_trans hs1 d2.size
        clear st1
        have sb2 := stands_out sb1 V2.out (Or.inr rfl)
        have g1 := sb2.cell 1 _ rfl
        have hC0 : (d.code ++ [(11, 0)]).length = d.code.length + 1 := by simp
        obtain ⟨gc, cC, eC⟩ := gcode oc2 (by rw [hC0]; omega)
        obtain ⟨rfl, rfl⟩ := slice_inj eC
        clear eC
        go_upto_region 7 with fail
        have hC3 : (d.code ++ [(11, 0)]).length = d.code.length + 1 := by simp [aim_len]
        have hI3 : (((d.code ++ [(11, 0)]).length : Nat) : Int) = (d.code.length : Int) + 1 := by rw [hC3]; rfl
        obtain ⟨csC3, rC3⟩ := OwnR.row oc2
        have cl3 := w_lead q base gc c9 x1 x2 x3 (.slice (some ⟨g, 0, none⟩) d.cases.length cap) (.slice va (nwO d.cases).2.length vq) (d.code ++ [(11, 0)]) (nwO d.cases).2 w3 (by rw [hC3]; exact st2) (by rw [hC3]; exact oc2) (fun W kk => (Rd_own (own_kept kk (by decide) (own_out Nn.outs U2.out (Or.inl rfl)))).1) (fun n hn => by rw [hI3]; have := HI.out n hn; omega) (by rw [hC3]; omega)
        rw [hI3] at cl3
        rw [hC3] at cl3
        go_upto_region 8 with (go_at_call 51; refine cl3.mono ?_; rintro e w4 ⟨rfl, oc3, g3⟩)
        have kC3 := Kept.own rC3 g3
        have st3 := stands_kept kC3 (by decide) st2
        have U3 : Hid (Out 0 0 w w4) := U2.out.trans (Out.kept kC3 (by decide) (by decide))
        have V3 : Hid (Out 0 0 w3 w4) := Out.kept kC3 (by decide) (by decide)
        have B3 : Hid (Below base w w4) := bgrown B2.out g3 hs2 (fun k hk => (rC3.lt k hk).1)
        have hs3 := Nat.le_trans hs2 g3.size
        clear cl3
        have kS4 := set_kept st3 4 (.slice (some ⟨g, 0, none⟩) (d.cases.length - 1) cap)
        have st4 : Stands (w4.setCell ⟨q, 4, none⟩ (.slice (some ⟨g, 0, none⟩) (d.cases.length - 1) cap)) q #[.slice (some ⟨gc, 0, none⟩) (d.code.length + 1) c9, x1, x2, x3, .slice (some ⟨g, 0, none⟩) (d.cases.length - 1) cap] 52 := st3.set 4 (.slice (some ⟨g, 0, none⟩) (d.cases.length - 1) cap)
        have oc4 : OwC base _ _ _ := OwnR.kept oc3 kS4 (by decide) opR_apt10
        have U4 : Hid (Out 0 0 w (w4.setCell ⟨q, 4, none⟩ (.slice (some ⟨g, 0, none⟩) (d.cases.length - 1) cap))) := U3.out.trans (Out.kept kS4 (by decide) (by decide))
        have V4 : Hid (Out 0 0 w4 (w4.setCell ⟨q, 4, none⟩ (.slice (some ⟨g, 0, none⟩) (d.cases.length - 1) cap))) := Out.kept kS4 (by decide) (by decide)
        have B4 : Hid (Below base w (w4.setCell ⟨q, 4, none⟩ (.slice (some ⟨g, 0, none⟩) (d.cases.length - 1) cap))) := bset B3.out q 4 (.slice (some ⟨g, 0, none⟩) (d.cases.length - 1) cap) hq
        have hs4 : base ≤ (w4.setCell ⟨q, 4, none⟩ (.slice (some ⟨g, 0, none⟩) (d.cases.length - 1) cap)).heap.size := by simpa [World.setCell] using hs3
        have f4 := st3.cell 4 _ rfl
        have y4 := st3.free 4
        go_upto_region 9 with fail
        generalize (w4.setCell ⟨q, 4, none⟩ (.slice (some ⟨g, 0, none⟩) (d.cases.length - 1) cap)) = w5 at st4 oc4 U4 B4 hs4 V4 ⊢
        clear f4 y4 kS4
        have UZ : Out b3 w.heap.size w _ := U4.out.all
        have soZ := st4
        have ocZ := oc4
        have BZ := B4.out
        have rowZ := own_outN (opnO_leR (base := base) pT (by omega)) U4.out
        have oEZ := OwD.toK oD UZ ocZ rowZ
        go_wp2_with fail
        go_ret
        exact actP_yes (v' := ⟨.slice (some ⟨gc, 0, none⟩) (d.code.length + 1) c9, x1, x2, x3, .slice (some ⟨g, 0, none⟩) (d.cases.length - 1) cap⟩) hD soZ oEZ BZ rfl
    · have hA1 : ((nwO d.cases).1 != -1) = true := by simp [hA0]
      have hN : actD d 15 = (nilD, 13) := pact_no2 hf (by decide) (by decide) (by simp [lakF, hne, hA0])
      have NW := NU.out w (Out.refl _ _ _)
      clear hA0
      go_enter Try.func47, Try.ntmps47
      go_wp2_with (go_at_call 53; refine (w_ncaseN b3 w.heap.size q g cap _ _ _ _ d.cases rows _ false _ st0 hp NW hA1).mono ?_; rintro e w2 ⟨rfl, d1⟩; have bo := below_base (below_trans d1 (box_below w2 (.cells #[.int .i64 0, .slice none 0 0] 58))) hs0)
      go_ret
      exact actP_no hN (by decide) bo rfl
  · have he : d.cases = [] := List.eq_nil_of_length_eq_zero (by omega)
    have hN : actD d 15 = (nilD, 13) := pact_no2 hf (by decide) (by decide) (by simp [lakF, he])
    have r0 : RdN w x4 [] := by have := oD.cases.read; rw [he] at this; exact this
    have f4 := st0.cell 4 _ rfl
    go_enter Try.func47, Try.ntmps47
    go_wp2_with (go_at_call 53; refine (w_ncase0 q _ _ _ _ x4 false _ st0 r0).mono ?_; rintro e w2 ⟨rfl, d1⟩; have bo := below_base (below_trans d1 (box_below w2 (.cells #[.int .i64 0, .slice none 0 0] 58))) hs0)
    go_ret
    exact actP_no hN (by decide) bo rfl

end Go.Proofs.Ytfmpeminfcehaaa
