/-
  Show of package path.
-/
import Derived.Test.YtmjgiaomijghoaaDoorPp3
namespace Go.Proofs.YtmjgiaomijghoaaDoor
open Go.ChangeShapes Go.WideShapes Go.ChangeAt Go.RowKit
set_option linter.unusedVariables false
set_option linter.unusedSimpArgs false

theorem shpT_bytes7 : ∀ l : List Sp, (∀ x ∈ l, bytesL x.1 ∧ bytesL x.2.2) → (∀ x ∈ l, cells x.2.1) → bytesL (shpT l) := by
  intro l
  induction l with
  | nil => intro _ _ x hx; simp [shpT] at hx
  | cons y l ih =>
    intro hb hc x hx
    have h1 := hb y (by simp)
    simp only [shpT, List.mem_cons, List.mem_append, bodT] at hx
    rcases hx with rfl | (hx | hx | hx) | hx
    · omega
    · exact h1.1 x hx
    · split at hx
      · simp at hx
      · simp only [List.mem_cons] at hx
        rcases hx with rfl | hx
        · omega
        · exact shoF_bytes y.2.1 (hc y (by simp)) x hx
    · split at hx
      · simp at hx
      · simp only [List.mem_cons] at hx
        rcases hx with rfl | hx
        · omega
        · exact h1.2 x hx
    · exact ih (fun z hz => hb z (by simp [hz])) (fun z hz => hc z (by simp [hz])) x hx

set_option maxHeartbeats 4000000 in
set_option maxRecDepth 100000 in
theorem w_pshow7 (v : Value) (xs : List Sp) (w : World) (h : SlR 3 stpR w v xs) (bx : ∀ x ∈ xs, bytesL x.1 ∧ bytesL x.2.2) (cx : ∀ x ∈ xs, cells x.2.1) (hz : (shpT xs).length ≤ 100000000000) (hsz : ∀ x ∈ xs, x.1.length ≤ 100000000000 ∧ x.2.1.length ≤ 100000000000 ∧ x.2.2.length ≤ 100000000000) (hT : Tab w) :
    Calls Tryd.prog 12 #[v] w fun e w' => e = .returned (.tuple #[.string (strOfNums (shpF xs).1), .int .i64 (shpF xs).2]) ∧ Below w.heap.size w w' := by
  have hla := slr_len h uP (P := Tryd.prog)
  have hma := slr_max h
  unfold maxLen at hma
  obtain ⟨A, E, hAE⟩ : ∃ A E, shpF xs = (A, E) := ⟨_, _, rfl⟩
  have HAE := hid hAE
  rw [hAE]
  show Calls _ _ _ _ fun e w' => e = .returned (.tuple #[.string (strOfNums A), .int .i64 E]) ∧ _
  clear hAE
  go_enter Tryd.func12, Tryd.ntmps12
  go_wp2_with fail
  go_loopw [11] (fun I wx => ∃ (i : Nat), (i : Int) ≤ xs.length ∧ I = .int .i64 i ∧ Hid ((xs.take i).all okS = true) ∧ Below w.heap.size w wx) (fun I _ => (xs.length - intOf I).toNat)
  case atStart => exact ⟨0, by omega, rfl, hid rfl, Below.refl _ _⟩
  case round =>
    obtain ⟨i, hi, rfl, hall, hb⟩ := hrel
    by_cases hlt : (i : Int) < xs.length
    · have hil : i < xs.length := by omega
      obtain ⟨b, o, nm, ar, ao, n, cap, r, a0, a1, a2, e0, e2, hU⟩ := stp_at h i hil
      have c0 := below_cell hb a0
      have c1 := below_cell hb a1
      have c2 := below_cell hb a2
      have hNL : L nm = xs[i].1 := by rw [← e0]; exact LB_nums _ (bx _ (List.getElem_mem hil)).1
      have hAL : L ar = xs[i].2.2 := by rw [← e2]; exact LB_nums _ (bx _ (List.getElem_mem hil)).2
      have hNs : nm.size ≤ 100000000000 := by rw [← L_len, hNL]; exact (hsz _ (List.getElem_mem hil)).1
      have hAs : ar.size ≤ 100000000000 := by rw [← L_len, hAL]; exact (hsz _ (List.getElem_mem hil)).2.2
      have hb0 := hb.alloc hb.size (.cells #[.string nm, .slice ao n cap, .string ar] 40)
      have st0 := stands_new wr #[.string nm, .slice ao n cap, .string ar] 40
      have x0 := st0.cell 0 _ rfl
      have x1 := st0.cell 1 _ rfl
      have x2 := st0.cell 2 _ rfl
      have cf := w_pformed nm ar (.slice ao n cap) xs[i].2.1 (wr.alloc (.cells #[.string nm, .slice ao n cap, .string ar] 40)) (hU.below hb0) (by unfold maxLen; omega) (by unfold maxLen; omega)
      rw [hNL, hAL] at cf
      have hoo : okS (xs[i].1, xs[i].2.1, xs[i].2.2) = okS xs[i] := rfl
      rw [hoo] at cf
      cases hok : okS xs[i]
      · have e : Hid (shpF xs = ([], 1)) := shp_bad xs i hil hok
        rw [hok] at cf
        clear e0 e2 hNL hAL hok hoo
        go_wp2_with (go_at_call 24; refine cf.mono ?_; rintro e w2 ⟨rfl, b2⟩)
        go_ret2
        obtain ⟨rfl, rfl⟩ := Prod.mk.inj (HAE.out.symm.trans e.out)
        exact ⟨rfl, below_trans hb0 b2⟩
      · rw [hok] at cf
        have hall2 : Hid ((xs.take (i + 1)).all okS = true) := by
          show _ = _
          rw [List.take_succ_eq_append_getElem hil, List.all_append, hall.out]
          simp [hok]
        clear e0 e2 hNL hAL hok hoo
        go_wp2_with (go_at_call 24; refine cf.mono ?_; rintro e w2 ⟨rfl, b2⟩)
        go_roundw
        case rel => exact ⟨i + 1, by omega, by go_num, hall2, below_trans hb0 b2⟩
        case measure => simp [intOf]; omega
    · have hok : Hid (xs.all okS = true) := by
        show _ = _
        have := hall.out
        rw [List.take_of_length_le (by omega)] at this
        exact this
      clear hall
      by_cases hx0 : xs.length = 0
      · have hxe : xs = [] := List.eq_nil_of_length_eq_zero hx0
        subst hxe
        have e : Hid (shpF [] = ([47], 0)) := hid (by decide +kernel)
        clear hz hsz bx cx hok
        go_wp2_with fail
        go_ret2
        obtain ⟨rfl, rfl⟩ := Prod.mk.inj (HAE.out.symm.trans e.out)
        exact ⟨rfl, hb⟩
      · have hxb : ((xs.length : Int) == 0) = false := by simpa using hx0
        obtain ⟨W, rfl⟩ : ∃ W, W = wr := ⟨_, rfl⟩
        have hbn := bld_new W
        go_wp2_with fail
        go_loopw [24] (fun I wx => ∃ (j : Nat) (ys : List Int), (j : Int) ≤ xs.length ∧ I = .int .i64 j ∧ Hid (ys = shpT (xs.take j)) ∧ Bld W.heap.size W.heap.size ys wx ∧ Below W.heap.size W wx) (fun I _ => (xs.length - intOf I).toNat)
        case atStart => exact ⟨0, [], by omega, rfl, hid rfl, hbn, box_below _ _⟩
        case round =>
          obtain ⟨j, ys, hj, rfl, hys, hbd, hbw⟩ := hrel
          have hbx := below_trans hb hbw
          by_cases hjt : (j : Int) < xs.length
          · have hil : j < xs.length := by omega
            obtain ⟨b, o, nm, ar, ao, n, cap, r, a0, a1, a2, e0, e2, hU⟩ := stp_at h j hil
            have c0 := below_cell hbx a0
            have c1 := below_cell hbx a1
            have c2 := below_cell hbx a2
            have hNL : L nm = xs[j].1 := by rw [← e0]; exact LB_nums _ (bx _ (List.getElem_mem hil)).1
            have hAL : L ar = xs[j].2.2 := by rw [← e2]; exact LB_nums _ (bx _ (List.getElem_mem hil)).2
            have hNs : nm.size ≤ 100000000000 := by rw [← L_len, hNL]; exact (hsz _ (List.getElem_mem hil)).1
            have hAs : ar.size ≤ 100000000000 := by rw [← L_len, hAL]; exact (hsz _ (List.getElem_mem hil)).2.2
            have hF : shpT (xs.take (j + 1)) = ys ++ 47 :: bodT xs[j] := by rw [List.take_succ_eq_append_getElem hil, shp_snoc, hys.out]
            have hol := shp_take xs (j + 1)
            rw [hF] at hol
            simp only [List.length_append, List.length_cons] at hol
            have hcu := cx _ (List.getElem_mem hil)
            have hu4 : xs[j].2.1.length ≤ 4 := (ok_parts (List.all_eq_true.1 hok.out _ (List.getElem_mem hil))).2.1
            have hbo : bodT (L nm, xs[j].2.1, L ar) = bodT xs[j] := by rw [hNL, hAL]
            have hB0 := box_below wr (.cells #[.string nm, .slice ao n cap, .string ar] 40)
            have hbw0 := hbw.alloc hbw.size (.cells #[.string nm, .slice ao n cap, .string ar] 40)
            have hbx0 := below_trans hbx hB0
            have st0 := stands_new wr #[.string nm, .slice ao n cap, .string ar] 40
            have hbd0 := bld_below hbd hB0
            have cw1 := w_bws W.heap.size W.heap.size ys ⟨#[47]⟩ (wr.alloc (.cells #[.string nm, .slice ao n cap, .string ar] 40)) hbd0 (by show _ + 1 ≤ _; omega) hbw0.size
            have cs2 := fun w' (g : Below w.heap.size w w') => w_pshowstep nm ar (.slice ao n cap) xs[j].2.1 w' (hT.below g) (hU.below g) hcu hu4 hNs hAs
            have cw3 := fun w' S (g : Bld W.heap.size W.heap.size (ys ++ [47]) w') (gl : L S = bodT xs[j]) (gs : W.heap.size ≤ w'.heap.size) => w_bws W.heap.size W.heap.size (ys ++ [47]) S w' g (by rw [← L_len, gl]; simp; omega) gs
            rw [hbo] at cs2
            rw [show L ⟨#[47]⟩ = [47] by decide +kernel] at cw1
            have HF := hid hF
            clear e0 e2 hNL hAL hbo hF hol
            go_wp2_with (first
              | (go_at_call 25; refine (cw3 _ S d2 hSL hbw2.size).mono ?_; rintro e w3 ⟨rfl, d3, b3, -⟩; have hbw3 := hbw2.trans b3; have HSL := hid hSL; clear hSL)
              | (go_at_call 26; refine (cs2 _ hbx1).mono ?_; rintro e w2 ⟨S, rfl, hSL, b2⟩; have d2 := bld_below d1 b2; have hbw2 := below_trans hbw1 b2)
              | (go_at_call 25; refine cw1.mono ?_; rintro e w1 ⟨rfl, d1, b1, k1⟩; have st1 := k1 _ _ st0; have y0 := st1.cell 0 _ rfl; have y1 := st1.cell 1 _ rfl; have y2 := st1.cell 2 _ rfl; have hbw1 := hbw0.trans b1; have hbx1 := below_trans hb hbw1))
            go_roundw
            case rel =>
              refine ⟨j + 1, ys ++ [47] ++ L S, by omega, by go_num, hid ?_, d3, hbw3⟩
              rw [HF.out, HSL.out]
              simp
            case measure => simp [intOf]; omega
          · have hye : ys = shpT xs := by
              rw [hys.out, List.take_of_length_le (by omega)]
            have hyb : bytesL ys := by rw [hye]; exact shpT_bytes7 xs bx cx
            have hxn : ¬ xs = [] := fun e => hx0 (by rw [e]; rfl)
            have hyn : ys ≠ [] := by
              rw [hye]
              cases xs with
              | nil => exact absurd rfl hxn
              | cons y l => simp [shpT]
            have hss : (strOfNums ys).size = ys.length := by
              rw [← L_len]
              exact congrArg List.length (LB_nums ys hyb)
            have cst := w_bstr W.heap.size W.heap.size ys wr hbd hyn hyb
            have csh := fun w' => w_pshort (strOfNums ys) w' (by rw [hss]; unfold maxLen; rw [hye]; omega)
            rw [hss] at csh
            have e : Hid (shpF xs = if 256 < ys.length then ([], 3) else (ys, 0)) := by
              show _ = _
              unfold shpF
              rw [hok.out, if_neg (by simp), if_neg hxn, hye]
            clear hye hyb hyn hss
            by_cases h256 : 256 < ys.length
            · rw [if_pos h256] at e
              simp only [h256, if_true] at csh
              go_wp2_with (first
                | (go_at_call 28; refine cst.mono ?_; rintro e w1 ⟨rfl, b1⟩; have hbw1 := hbw.trans b1)
                | (go_at_call 27; refine (csh _).mono ?_; rintro e w2 ⟨rfl, rfl⟩))
              go_ret2
              obtain ⟨rfl, rfl⟩ := Prod.mk.inj (HAE.out.symm.trans e.out)
              exact ⟨rfl, below_trans hb hbw1⟩
            · rw [if_neg h256] at e
              simp only [h256, if_false] at csh
              go_wp2_with (first
                | (go_at_call 28; refine cst.mono ?_; rintro e w1 ⟨rfl, b1⟩; have hbw1 := hbw.trans b1)
                | (go_at_call 27; refine (csh _).mono ?_; rintro e w2 ⟨rfl, rfl⟩))
              go_ret2
              obtain ⟨rfl, rfl⟩ := Prod.mk.inj (HAE.out.symm.trans e.out)
              exact ⟨rfl, below_trans hb hbw1⟩
end Go.Proofs.YtmjgiaomijghoaaDoor
