/-
  Texts of one proof, laid one behind the other: Pp4 Tfb Tfc Tre Tal Flat Ttb.
-/
import Derived.Test.YtkdaimagdmbnfabDoorB4
import Derived.Deep.RegionHeld
import Derived.Lib.LaidTab
import Derived.Test.YtkdaimagdmbnfabDoorRows
import Derived.Stop.LaidErr
namespace Go.Proofs.YtkdaimagdmbnfabDoor
open Go.ChangeShapes Go.WideShapes Go.ChangeAt Go.RowKit
set_option linter.unusedVariables false
set_option linter.unusedSimpArgs false

/-
  Show of package path.
-/
theorem shpT_bytes7 : ∀ l : List Sp, (∀ x ∈ l, bytesL x.1 ∧ bytesL x.2.2) → (∀ x ∈ l, cells x.2.1) → bytesL (shpT l) := by
  intro l
  induction l with
  | nil => intro _ _ x hx; simp [shpT] at hx
  | cons y l ih =>
    intro hb hc x hx
    have h1 := hb y (by simp)
    simp only [shpT, List.mem_cons, List.mem_append, bodT] at hx
    rcases hx with rfl | (hx | hx | hx) | hx
    · omega
    · exact h1.1 x hx
    · split at hx
      · simp at hx
      · simp only [List.mem_cons] at hx
        rcases hx with rfl | hx
        · omega
        · exact shoF_bytes y.2.1 (hc y (by simp)) x hx
    · split at hx
      · simp at hx
      · simp only [List.mem_cons] at hx
        rcases hx with rfl | hx
        · omega
        · exact h1.2 x hx
    · exact ih (fun z hz => hb z (by simp [hz])) (fun z hz => hc z (by simp [hz])) x hx

set_option maxHeartbeats 4000000 in
set_option maxRecDepth 100000 in
theorem w_pshow7 (v : Value) (xs : List Sp) (w : World) (h : SlR 3 stpR w v xs) (bx : ∀ x ∈ xs, bytesL x.1 ∧ bytesL x.2.2) (cx : ∀ x ∈ xs, cells x.2.1) (hz : (shpT xs).length ≤ 100000000000) (hsz : ∀ x ∈ xs, x.1.length ≤ 100000000000 ∧ x.2.1.length ≤ 100000000000 ∧ x.2.2.length ≤ 100000000000) (hT : Tab w) :
    Calls Tryd.prog 16 #[v] w fun e w' => e = .returned (.tuple #[.string (strOfNums (shpF xs).1), .int .i64 (shpF xs).2]) ∧ Below w.heap.size w w' := by
  have hla := slr_len h uP (P := Tryd.prog)
  have hma := slr_max h
  unfold maxLen at hma
  obtain ⟨A, E, hAE⟩ : ∃ A E, shpF xs = (A, E) := ⟨_, _, rfl⟩
  have HAE := hid hAE
  rw [hAE]
  show Calls _ _ _ _ fun e w' => e = .returned (.tuple #[.string (strOfNums A), .int .i64 E]) ∧ _
  clear hAE
  go_enter Tryd.func16, Tryd.ntmps16
  go_wp2_with fail
  go_loopw [11] (fun I wx => ∃ (i : Nat), (i : Int) ≤ xs.length ∧ I = .int .i64 i ∧ Hid ((xs.take i).all okS = true) ∧ Below w.heap.size w wx) (fun I _ => (xs.length - intOf I).toNat)
  case atStart => exact ⟨0, by omega, rfl, hid rfl, Below.refl _ _⟩
  case round =>
    obtain ⟨i, hi, rfl, hall, hb⟩ := hrel
    by_cases hlt : (i : Int) < xs.length
    · have hil : i < xs.length := by omega
      obtain ⟨b, o, nm, ar, ao, n, cap, r, a0, a1, a2, e0, e2, hU⟩ := stp_at h i hil
      have c0 := below_cell hb a0
      have c1 := below_cell hb a1
      have c2 := below_cell hb a2
      have hNL : L nm = xs[i].1 := by rw [← e0]; exact LB_nums _ (bx _ (List.getElem_mem hil)).1
      have hAL : L ar = xs[i].2.2 := by rw [← e2]; exact LB_nums _ (bx _ (List.getElem_mem hil)).2
      have hNs : nm.size ≤ 100000000000 := by rw [← L_len, hNL]; exact (hsz _ (List.getElem_mem hil)).1
      have hAs : ar.size ≤ 100000000000 := by rw [← L_len, hAL]; exact (hsz _ (List.getElem_mem hil)).2.2
      have hb0 := hb.alloc hb.size (.cells #[.string nm, .slice ao n cap, .string ar] 43)
      have st0 := stands_new wr #[.string nm, .slice ao n cap, .string ar] 43
      have x0 := st0.cell 0 _ rfl
      have x1 := st0.cell 1 _ rfl
      have x2 := st0.cell 2 _ rfl
      have cf := w_pformed nm ar (.slice ao n cap) xs[i].2.1 (wr.alloc (.cells #[.string nm, .slice ao n cap, .string ar] 43)) (hU.below hb0) (by unfold maxLen; omega) (by unfold maxLen; omega)
      rw [hNL, hAL] at cf
      have hoo : okS (xs[i].1, xs[i].2.1, xs[i].2.2) = okS xs[i] := rfl
      rw [hoo] at cf
      cases hok : okS xs[i]
      · have e : Hid (shpF xs = ([], 1)) := shp_bad xs i hil hok
        rw [hok] at cf
        clear e0 e2 hNL hAL hok hoo
        go_wp2_with (go_at_call 27; refine cf.mono ?_; rintro e w2 ⟨rfl, b2⟩)
        go_ret2
        obtain ⟨rfl, rfl⟩ := Prod.mk.inj (HAE.out.symm.trans e.out)
        exact ⟨rfl, below_trans hb0 b2⟩
      · rw [hok] at cf
        have hall2 : Hid ((xs.take (i + 1)).all okS = true) := by
          show _ = _
          rw [List.take_succ_eq_append_getElem hil, List.all_append, hall.out]
          simp [hok]
        clear e0 e2 hNL hAL hok hoo
        go_wp2_with (go_at_call 27; refine cf.mono ?_; rintro e w2 ⟨rfl, b2⟩)
        go_roundw
        case rel => exact ⟨i + 1, by omega, by go_num, hall2, below_trans hb0 b2⟩
        case measure => simp [intOf]; omega
    · have hok : Hid (xs.all okS = true) := by
        show _ = _
        have := hall.out
        rw [List.take_of_length_le (by omega)] at this
        exact this
      clear hall
      by_cases hx0 : xs.length = 0
      · have hxe : xs = [] := List.eq_nil_of_length_eq_zero hx0
        subst hxe
        have e : Hid (shpF [] = ([47], 0)) := hid (by decide +kernel)
        clear hz hsz bx cx hok
        go_wp2_with fail
        go_ret2
        obtain ⟨rfl, rfl⟩ := Prod.mk.inj (HAE.out.symm.trans e.out)
        exact ⟨rfl, hb⟩
      · have hxb : ((xs.length : Int) == 0) = false := by simpa using hx0
        obtain ⟨W, rfl⟩ : ∃ W, W = wr := ⟨_, rfl⟩
        have hbn := bld_new W
        go_wp2_with fail
        go_loopw [24] (fun I wx => ∃ (j : Nat) (ys : List Int), (j : Int) ≤ xs.length ∧ I = .int .i64 j ∧ Hid (ys = shpT (xs.take j)) ∧ Bld W.heap.size W.heap.size ys wx ∧ Below W.heap.size W wx) (fun I _ => (xs.length - intOf I).toNat)
        case atStart => exact ⟨0, [], by omega, rfl, hid rfl, hbn, box_below _ _⟩
        case round =>
          obtain ⟨j, ys, hj, rfl, hys, hbd, hbw⟩ := hrel
          have hbx := below_trans hb hbw
          by_cases hjt : (j : Int) < xs.length
          · have hil : j < xs.length := by omega
            obtain ⟨b, o, nm, ar, ao, n, cap, r, a0, a1, a2, e0, e2, hU⟩ := stp_at h j hil
            have c0 := below_cell hbx a0
            have c1 := below_cell hbx a1
            have c2 := below_cell hbx a2
            have hNL : L nm = xs[j].1 := by rw [← e0]; exact LB_nums _ (bx _ (List.getElem_mem hil)).1
            have hAL : L ar = xs[j].2.2 := by rw [← e2]; exact LB_nums _ (bx _ (List.getElem_mem hil)).2
            have hNs : nm.size ≤ 100000000000 := by rw [← L_len, hNL]; exact (hsz _ (List.getElem_mem hil)).1
            have hAs : ar.size ≤ 100000000000 := by rw [← L_len, hAL]; exact (hsz _ (List.getElem_mem hil)).2.2
            have hF : shpT (xs.take (j + 1)) = ys ++ 47 :: bodT xs[j] := by rw [List.take_succ_eq_append_getElem hil, shp_snoc, hys.out]
            have hol := shp_take xs (j + 1)
            rw [hF] at hol
            simp only [List.length_append, List.length_cons] at hol
            have hcu := cx _ (List.getElem_mem hil)
            have hu4 : xs[j].2.1.length ≤ 4 := (ok_parts (List.all_eq_true.1 hok.out _ (List.getElem_mem hil))).2.1
            have hbo : bodT (L nm, xs[j].2.1, L ar) = bodT xs[j] := by rw [hNL, hAL]
            have hB0 := box_below wr (.cells #[.string nm, .slice ao n cap, .string ar] 43)
            have hbw0 := hbw.alloc hbw.size (.cells #[.string nm, .slice ao n cap, .string ar] 43)
            have hbx0 := below_trans hbx hB0
            have st0 := stands_new wr #[.string nm, .slice ao n cap, .string ar] 43
            have hbd0 := bld_below hbd hB0
            have cw1 := w_bws W.heap.size W.heap.size ys ⟨#[47]⟩ (wr.alloc (.cells #[.string nm, .slice ao n cap, .string ar] 43)) hbd0 (by show _ + 1 ≤ _; omega) hbw0.size
            have cs2 := fun w' (g : Below w.heap.size w w') => w_pshowstep nm ar (.slice ao n cap) xs[j].2.1 w' (hT.below g) (hU.below g) hcu hu4 hNs hAs
            have cw3 := fun w' S (g : Bld W.heap.size W.heap.size (ys ++ [47]) w') (gl : L S = bodT xs[j]) (gs : W.heap.size ≤ w'.heap.size) => w_bws W.heap.size W.heap.size (ys ++ [47]) S w' g (by rw [← L_len, gl]; simp; omega) gs
            rw [hbo] at cs2
            rw [show L ⟨#[47]⟩ = [47] by decide +kernel] at cw1
            have HF := hid hF
            clear e0 e2 hNL hAL hbo hF hol
            go_wp2_with (first
              | (go_at_call 28; refine (cw3 _ S d2 hSL hbw2.size).mono ?_; rintro e w3 ⟨rfl, d3, b3, -⟩; have hbw3 := hbw2.trans b3; have HSL := hid hSL; clear hSL)
              | (go_at_call 29; refine (cs2 _ hbx1).mono ?_; rintro e w2 ⟨S, rfl, hSL, b2⟩; have d2 := bld_below d1 b2; have hbw2 := below_trans hbw1 b2)
              | (go_at_call 28; refine cw1.mono ?_; rintro e w1 ⟨rfl, d1, b1, k1⟩; have st1 := k1 _ _ st0; have y0 := st1.cell 0 _ rfl; have y1 := st1.cell 1 _ rfl; have y2 := st1.cell 2 _ rfl; have hbw1 := hbw0.trans b1; have hbx1 := below_trans hb hbw1))
            go_roundw
            case rel =>
              refine ⟨j + 1, ys ++ [47] ++ L S, by omega, by go_num, hid ?_, d3, hbw3⟩
              rw [HF.out, HSL.out]
              simp
            case measure => simp [intOf]; omega
          · have hye : ys = shpT xs := by
              rw [hys.out, List.take_of_length_le (by omega)]
            have hyb : bytesL ys := by rw [hye]; exact shpT_bytes7 xs bx cx
            have hxn : ¬ xs = [] := fun e => hx0 (by rw [e]; rfl)
            have hyn : ys ≠ [] := by
              rw [hye]
              cases xs with
              | nil => exact absurd rfl hxn
              | cons y l => simp [shpT]
            have hss : (strOfNums ys).size = ys.length := by
              rw [← L_len]
              exact congrArg List.length (LB_nums ys hyb)
            have cst := w_bstr W.heap.size W.heap.size ys wr hbd hyn hyb
            have csh := fun w' => w_pshort (strOfNums ys) w' (by rw [hss]; unfold maxLen; rw [hye]; omega)
            rw [hss] at csh
            have e : Hid (shpF xs = if 256 < ys.length then ([], 3) else (ys, 0)) := by
              show _ = _
              unfold shpF
              rw [hok.out, if_neg (by simp), if_neg hxn, hye]
            clear hye hyb hyn hss
            by_cases h256 : 256 < ys.length
            · rw [if_pos h256] at e
              simp only [h256, if_true] at csh
              go_wp2_with (first
                | (go_at_call 31; refine cst.mono ?_; rintro e w1 ⟨rfl, b1⟩; have hbw1 := hbw.trans b1)
                | (go_at_call 30; refine (csh _).mono ?_; rintro e w2 ⟨rfl, rfl⟩))
              go_ret2
              obtain ⟨rfl, rfl⟩ := Prod.mk.inj (HAE.out.symm.trans e.out)
              exact ⟨rfl, below_trans hb hbw1⟩
            · rw [if_neg h256] at e
              simp only [h256, if_false] at csh
              go_wp2_with (first
                | (go_at_call 31; refine cst.mono ?_; rintro e w1 ⟨rfl, b1⟩; have hbw1 := hbw.trans b1)
                | (go_at_call 30; refine (csh _).mono ?_; rintro e w2 ⟨rfl, rfl⟩))
              go_ret2
              obtain ⟨rfl, rfl⟩ := Prod.mk.inj (HAE.out.symm.trans e.out)
              exact ⟨rfl, below_trans hb hbw1⟩

/-
  The library's Reverse at steps, and package tree's Path.
-/
theorem flat_setL {α : Type} (rows : List (List α)) (sz i : Nat) (row : List α) (h : ∀ r ∈ rows, r.length = sz) (hi : i < rows.length) (hr : row.length = sz) : setL rows.flatten (i * sz) row = (rows.set i row).flatten := by
  have hl := flat_len rows sz h
  have hle : (i + 1) * sz ≤ rows.length * sz := Nat.mul_le_mul_right _ hi
  rw [Nat.add_mul, Nat.one_mul] at hle
  rw [setL_eq _ _ _ (by rw [hl, hr]; exact hle), flat_take rows sz i h, hr, show i * sz + sz = (i + 1) * sz by rw [Nat.add_mul, Nat.one_mul], flat_drop rows sz (i + 1) h, List.set_eq_take_append_cons_drop, if_pos hi]
  simp
theorem idx_step (g m cap n : Nat) (h : n < m) : ∀ w', (Instr.indexAt 36 (.slice (some ⟨g, 0, none⟩) m cap) (.int .i64 (n : Int))).run Tryd.prog w' = .ok (.pointer (some ⟨g, n * 3, none⟩)) w' := by
  intro w'
  rw [run_indexAt_slice (h := uP), if_pos ⟨by omega, by omega⟩, zP]
  simp only [Result.andThen, Int.toNat_natCast]
  congr 3
  unfold Addr.add
  split
  · rename_i hz; rw [hz]
  · simp
/-- reversed from both ends, i rows each -/
def RvI (rows : List (List Value)) (i : Nat) (rs : List (List Value)) : Prop := rs.length = rows.length ∧ ∀ p, p < rows.length → rs.getD p [] = if p < i ∨ rows.length ≤ p + i then rows.getD (rows.length - 1 - p) [] else rows.getD p []
theorem rv_end {rows rs : List (List Value)} {i : Nat} (h : RvI rows i rs) (hi : rows.length ≤ 2 * i + 1) : rs = rows.reverse := by
  apply List.ext_getElem
  · rw [h.1, List.length_reverse]
  · intro p h1 h2
    have hp : p < rows.length := by rw [← h.1]; exact h1
    have e := h.2 p hp
    rw [List.getD_eq_getElem?_getD, List.getElem?_eq_getElem h1] at e
    simp only [Option.getD_some] at e
    rw [e, List.getElem_reverse]
    split
    · rw [List.getD_eq_getElem?_getD, List.getElem?_eq_getElem (by omega)]
      rfl
    · have hpp : rows.length - 1 - p = p := by omega
      simp only [hpp]
      rw [List.getD_eq_getElem?_getD, List.getElem?_eq_getElem hp]
      rfl
theorem rv_step {rows rs : List (List Value)} {i : Nat} (h : RvI rows i rs) (hi : 2 * i + 1 < rows.length) : RvI rows (i + 1) ((rs.set i (rs.getD (rows.length - 1 - i) [])).set (rows.length - 1 - i) (rs.getD i [])) := by
  have e1 := h.2 i (by omega)
  have e2 := h.2 (rows.length - 1 - i) (by omega)
  rw [if_neg (by omega)] at e1 e2
  refine ⟨by simp [h.1], fun p hp => ?_⟩
  by_cases h1 : p = rows.length - 1 - i
  · subst h1
    rw [set_getD _ _ _ (by simp [h.1]; omega), e1, if_pos (by omega), show rows.length - 1 - (rows.length - 1 - i) = i by omega]
  · rw [List.getD_eq_getElem?_getD, List.getElem?_set_ne (fun e => h1 e.symm), ← List.getD_eq_getElem?_getD]
    by_cases h2 : p = i
    · subst h2
      rw [set_getD _ _ _ (by rw [h.1]; omega), e2, if_pos (by omega)]
    · rw [List.getD_eq_getElem?_getD, List.getElem?_set_ne (fun e => h2 e.symm), ← List.getD_eq_getElem?_getD, h.2 p hp]
      by_cases h3 : p < i ∨ rows.length ≤ p + i
      · rw [if_pos h3, if_pos (by omega)]
      · rw [if_neg h3, if_neg (by omega)]

set_option maxHeartbeats 4000000 in
set_option maxRecDepth 100000 in
theorem w_preverse (g m cap base : Nat) (rows : List (List Value)) (w : World) (o : w.ownsRow base 43 3 (.slice (some ⟨g, 0, none⟩) m cap) m rows.flatten) (hl : rows.length = m) (h2 : ∀ r ∈ rows, ∃ (nm ar : ByteArray) (a : Option Addr) (l c : Nat), r = [.string nm, .slice a l c, .string ar]) (hm : (m : Int) ≤ 1000) :
    Calls Tryd.prog 15 #[.slice (some ⟨g, 0, none⟩) m cap] w fun e w' => e = .returned (.tuple #[]) ∧ w'.ownsRow base 43 3 (.slice (some ⟨g, 0, none⟩) m cap) m rows.reverse.flatten ∧ w.grownBy w' (some g) := by
  have H2 := hid h2
  have O := hid o
  have HL := hid hl
  clear h2 o hl
  go_enter Tryd.func15, Tryd.ntmps15
  go_wp2_with fail
  go_loopw [2, 3] (fun I J wx => ∃ (i : Nat) (rs : List (List Value)), I = .int .i64 i ∧ J = .int .i64 ((m : Int) - 1 - i) ∧ Hid (2 * i ≤ m + 1 ∧ RvI rows i rs) ∧ Hid (∀ r ∈ rs, ∃ (nm ar : ByteArray) (a : Option Addr) (l c : Nat), r = [.string nm, .slice a l c, .string ar]) ∧ Hid (wx.ownsRow base 43 3 (.slice (some ⟨g, 0, none⟩) m cap) m rs.flatten) ∧ Hid (w.grownBy wx (some g))) (fun I _ _ => (m - intOf I).toNat)
  case atStart =>
    refine ⟨0, rows, rfl, ?_, hid ⟨by omega, rfl, fun p hp => ?_⟩, H2, O, hid (gb_refl _ _)⟩
    · congr 1
      omega
    · rw [if_neg (by omega)]
  case round =>
    obtain ⟨i, rs, rfl, rfl, hRv, hsh, hown, hgr⟩ := hrel
    by_cases hlt : (i : Int) < (m : Int) - 1 - i
    · obtain ⟨j, hj⟩ : ∃ j : Nat, (m : Int) - 1 - i = j := ⟨m - 1 - i, by omega⟩
      have hjm : j = m - 1 - i := by omega
      have hjI : (j : Int) < m := by omega
      have hiI : (i : Int) < m := by omega
      have hij : (i : Int) < j := by omega
      have hrl : rs.length = m := by rw [hRv.out.2.1, HL.out]
      obtain ⟨n1, a1, u1, l1, c1, r1⟩ := hsh.out _ (List.getElem_mem (show i < rs.length by omega))
      obtain ⟨n2, a2, u2, l2, c2, r2⟩ := hsh.out _ (List.getElem_mem (show j < rs.length by omega))
      have d1 : rs.getD i [] = [.string n1, .slice u1 l1 c1, .string a1] := by rw [List.getD_eq_getElem?_getD, List.getElem?_eq_getElem (by omega)]; exact r1
      have d2 : rs.getD j [] = [.string n2, .slice u2 l2 c2, .string a2] := by rw [List.getD_eq_getElem?_getD, List.getElem?_eq_getElem (by omega)]; exact r2
      have hlen3 : ∀ r ∈ rs, r.length = 3 := fun r hr => by
        obtain ⟨_, _, _, _, _, e⟩ := hsh.out r hr
        rw [e]
        rfl
      have x1 := idx_step g m cap i (by omega)
      have x2 := idx_step g m cap j (by omega)
      have oo := hown.out
      have ci0 : wr.cell? ⟨g, i * 3 + 0, none⟩ = some (.string n1) := own_cell oo _ _ (by rw [flat_get rs 3 i 0 hlen3 (by omega) (by decide), d1]; rfl)
      have ci1 : wr.cell? ⟨g, i * 3 + 1, none⟩ = some (.slice u1 l1 c1) := own_cell oo _ _ (by rw [flat_get rs 3 i 1 hlen3 (by omega) (by decide), d1]; rfl)
      have ci2 : wr.cell? ⟨g, i * 3 + 2, none⟩ = some (.string a1) := own_cell oo _ _ (by rw [flat_get rs 3 i 2 hlen3 (by omega) (by decide), d1]; rfl)
      have cj0 : wr.cell? ⟨g, j * 3 + 0, none⟩ = some (.string n2) := own_cell oo _ _ (by rw [flat_get rs 3 j 0 hlen3 (by omega) (by decide), d2]; rfl)
      have cj1 : wr.cell? ⟨g, j * 3 + 1, none⟩ = some (.slice u2 l2 c2) := own_cell oo _ _ (by rw [flat_get rs 3 j 1 hlen3 (by omega) (by decide), d2]; rfl)
      have cj2 : wr.cell? ⟨g, j * 3 + 2, none⟩ = some (.string a2) := own_cell oo _ _ (by rw [flat_get rs 3 j 2 hlen3 (by omega) (by decide), d2]; rfl)
      rw [Nat.add_zero] at ci0 cj0
      have fr : ∀ q, wr.frozen? ⟨g, q, none⟩ = false := fun q => oo.frozenAt q
      have z0 := fr (i * 3)
      have y1 : ((wr).setCell ⟨g, i * 3, none⟩ (.string n2)).cell? ⟨g, i * 3 + 1, none⟩ = some (.slice u1 l1 c1) := by
        rw [World.cell?_setCell_other _ _ _ _ (by intro e; simp only [Addr.mk.injEq, true_and, and_true] at e; omega)]
        exact ci1
      have z1 : ((wr).setCell ⟨g, i * 3, none⟩ (.string n2)).frozen? ⟨g, i * 3 + 1, none⟩ = false := by
        have q := (own_setCells [(.string n2)] wr _ (i * 3) oo).1
        exact q.frozenAt _
      have y2 : (((wr).setCell ⟨g, i * 3, none⟩ (.string n2)).setCell ⟨g, i * 3 + 1, none⟩ (.slice u2 l2 c2)).cell? ⟨g, i * 3 + 2, none⟩ = some (.string a1) := by
        rw [World.cell?_setCell_other _ _ _ _ (by intro e; simp only [Addr.mk.injEq, true_and, and_true] at e; omega)]
        rw [World.cell?_setCell_other _ _ _ _ (by intro e; simp only [Addr.mk.injEq, true_and, and_true] at e; omega)]
        exact ci2
      have z2 : (((wr).setCell ⟨g, i * 3, none⟩ (.string n2)).setCell ⟨g, i * 3 + 1, none⟩ (.slice u2 l2 c2)).frozen? ⟨g, i * 3 + 2, none⟩ = false := by
        have q := (own_setCells [(.string n2), (.slice u2 l2 c2)] wr _ (i * 3) oo).1
        exact q.frozenAt _
      have y3 : ((((wr).setCell ⟨g, i * 3, none⟩ (.string n2)).setCell ⟨g, i * 3 + 1, none⟩ (.slice u2 l2 c2)).setCell ⟨g, i * 3 + 2, none⟩ (.string a2)).cell? ⟨g, j * 3, none⟩ = some (.string n2) := by
        rw [World.cell?_setCell_other _ _ _ _ (by intro e; simp only [Addr.mk.injEq, true_and, and_true] at e; omega)]
        rw [World.cell?_setCell_other _ _ _ _ (by intro e; simp only [Addr.mk.injEq, true_and, and_true] at e; omega)]
        rw [World.cell?_setCell_other _ _ _ _ (by intro e; simp only [Addr.mk.injEq, true_and, and_true] at e; omega)]
        exact cj0
      have z3 : ((((wr).setCell ⟨g, i * 3, none⟩ (.string n2)).setCell ⟨g, i * 3 + 1, none⟩ (.slice u2 l2 c2)).setCell ⟨g, i * 3 + 2, none⟩ (.string a2)).frozen? ⟨g, j * 3, none⟩ = false := by
        have q := (own_setCells [(.string n2), (.slice u2 l2 c2), (.string a2)] wr _ (i * 3) oo).1
        exact q.frozenAt _
      have y4 : (((((wr).setCell ⟨g, i * 3, none⟩ (.string n2)).setCell ⟨g, i * 3 + 1, none⟩ (.slice u2 l2 c2)).setCell ⟨g, i * 3 + 2, none⟩ (.string a2)).setCell ⟨g, j * 3, none⟩ (.string n1)).cell? ⟨g, j * 3 + 1, none⟩ = some (.slice u2 l2 c2) := by
        rw [World.cell?_setCell_other _ _ _ _ (by intro e; simp only [Addr.mk.injEq, true_and, and_true] at e; omega)]
        rw [World.cell?_setCell_other _ _ _ _ (by intro e; simp only [Addr.mk.injEq, true_and, and_true] at e; omega)]
        rw [World.cell?_setCell_other _ _ _ _ (by intro e; simp only [Addr.mk.injEq, true_and, and_true] at e; omega)]
        rw [World.cell?_setCell_other _ _ _ _ (by intro e; simp only [Addr.mk.injEq, true_and, and_true] at e; omega)]
        exact cj1
      have z4 : (((((wr).setCell ⟨g, i * 3, none⟩ (.string n2)).setCell ⟨g, i * 3 + 1, none⟩ (.slice u2 l2 c2)).setCell ⟨g, i * 3 + 2, none⟩ (.string a2)).setCell ⟨g, j * 3, none⟩ (.string n1)).frozen? ⟨g, j * 3 + 1, none⟩ = false := by
        have q := (own_setCells [(.string n2), (.slice u2 l2 c2), (.string a2)] wr _ (i * 3) oo).1
        have q2 := (own_setCells [(.string n1)] _ _ (j * 3) q).1
        exact q2.frozenAt _
      have y5 : ((((((wr).setCell ⟨g, i * 3, none⟩ (.string n2)).setCell ⟨g, i * 3 + 1, none⟩ (.slice u2 l2 c2)).setCell ⟨g, i * 3 + 2, none⟩ (.string a2)).setCell ⟨g, j * 3, none⟩ (.string n1)).setCell ⟨g, j * 3 + 1, none⟩ (.slice u1 l1 c1)).cell? ⟨g, j * 3 + 2, none⟩ = some (.string a2) := by
        rw [World.cell?_setCell_other _ _ _ _ (by intro e; simp only [Addr.mk.injEq, true_and, and_true] at e; omega)]
        rw [World.cell?_setCell_other _ _ _ _ (by intro e; simp only [Addr.mk.injEq, true_and, and_true] at e; omega)]
        rw [World.cell?_setCell_other _ _ _ _ (by intro e; simp only [Addr.mk.injEq, true_and, and_true] at e; omega)]
        rw [World.cell?_setCell_other _ _ _ _ (by intro e; simp only [Addr.mk.injEq, true_and, and_true] at e; omega)]
        rw [World.cell?_setCell_other _ _ _ _ (by intro e; simp only [Addr.mk.injEq, true_and, and_true] at e; omega)]
        exact cj2
      have z5 : ((((((wr).setCell ⟨g, i * 3, none⟩ (.string n2)).setCell ⟨g, i * 3 + 1, none⟩ (.slice u2 l2 c2)).setCell ⟨g, i * 3 + 2, none⟩ (.string a2)).setCell ⟨g, j * 3, none⟩ (.string n1)).setCell ⟨g, j * 3 + 1, none⟩ (.slice u1 l1 c1)).frozen? ⟨g, j * 3 + 2, none⟩ = false := by
        have q := (own_setCells [(.string n2), (.slice u2 l2 c2), (.string a2)] wr _ (i * 3) oo).1
        have q2 := (own_setCells [(.string n1), (.slice u1 l1 c1)] _ _ (j * 3) q).1
        exact q2.frozenAt _
      obtain ⟨o3, g3⟩ := own_setCells [(.string n2), (.slice u2 l2 c2), (.string a2)] wr _ (i * 3) oo
      rw [flat_setL rs 3 i _ hlen3 (by omega) rfl] at o3
      obtain ⟨o4, g4⟩ := own_setCells [(.string n1), (.slice u1 l1 c1), (.string a1)] _ _ (j * 3) o3
      have hlen4 : ∀ r ∈ rs.set i [(.string n2), (.slice u2 l2 c2), (.string a2)], r.length = 3 := fun r hr => by
        rcases List.mem_or_eq_of_mem_set hr with hr | rfl
        · exact hlen3 r hr
        · rfl
      rw [flat_setL _ 3 j _ hlen4 (by simp; omega) rfl] at o4
      have GN : Hid (w.grownBy (((((((wr).setCell ⟨g, i * 3, none⟩ (.string n2)).setCell ⟨g, i * 3 + 1, none⟩ (.slice u2 l2 c2)).setCell ⟨g, i * 3 + 2, none⟩ (.string a2)).setCell ⟨g, j * 3, none⟩ (.string n1)).setCell ⟨g, j * 3 + 1, none⟩ (.slice u1 l1 c1)).setCell ⟨g, j * 3 + 2, none⟩ (.string a1)) (some g)) := ⟨g4.os.trans (g3.os.trans hgr.out.os), g4.tape.trans (g3.tape.trans hgr.out.tape), g4.output.trans (g3.output.trans hgr.out.output), Nat.le_trans hgr.out.size (Nat.le_trans g3.size g4.size), fun k hk hne => (g4.block k (Nat.lt_of_lt_of_le hk (Nat.le_trans hgr.out.size g3.size)) hne).trans ((g3.block k (Nat.lt_of_lt_of_le hk hgr.out.size) hne).trans (hgr.out.block k hk hne))⟩
      have ON : Hid ((((((((wr).setCell ⟨g, i * 3, none⟩ (.string n2)).setCell ⟨g, i * 3 + 1, none⟩ (.slice u2 l2 c2)).setCell ⟨g, i * 3 + 2, none⟩ (.string a2)).setCell ⟨g, j * 3, none⟩ (.string n1)).setCell ⟨g, j * 3 + 1, none⟩ (.slice u1 l1 c1)).setCell ⟨g, j * 3 + 2, none⟩ (.string a1)).ownsRow base 43 3 (.slice (some ⟨g, 0, none⟩) m cap) m ((rs.set i [(.string n2), (.slice u2 l2 c2), (.string a2)]).set j [(.string n1), (.slice u1 l1 c1), (.string a1)]).flatten) := o4
      have RN : Hid (2 * (i + 1) ≤ m + 1 ∧ RvI rows (i + 1) ((rs.set i [(.string n2), (.slice u2 l2 c2), (.string a2)]).set j [(.string n1), (.slice u1 l1 c1), (.string a1)])) := by
        have q := rv_step hRv.out.2 (by rw [HL.out]; omega)
        rw [HL.out, ← hjm, d1, d2] at q
        exact ⟨by omega, q⟩
      have SN : Hid (∀ r ∈ (rs.set i [(.string n2), (.slice u2 l2 c2), (.string a2)]).set j [(.string n1), (.slice u1 l1 c1), (.string a1)], ∃ (nm ar : ByteArray) (a : Option Addr) (l c : Nat), r = [.string nm, .slice a l c, .string ar]) := by
        show ∀ r ∈ _, _
        intro r hr
        rcases List.mem_or_eq_of_mem_set hr with hr | rfl
        · rcases List.mem_or_eq_of_mem_set hr with hr | rfl
          · exact hsh.out r hr
          · exact ⟨_, _, _, _, _, rfl⟩
        · exact ⟨_, _, _, _, _, rfl⟩
      rw [hj]
      rw [hj] at hlt
      have HJ := hid hj
      clear hj hjm o3 o4 g3 g4 r1 r2 d1 d2 oo
      go_wp2_with fail
      go_region
      all_goals (
        go_wp2_with fail
        go_roundw
        case rel =>
          have := HJ.out
          refine ⟨i + 1, _, by go_num, ?_, RN, SN, hid (own_kept (T := 5) (Kept.below (below_drewN (Below.refl _ _) 1)) (by decide) ON.out), hid (gb_below GN.out (below_drewN (Below.refl _ _) 1))⟩
          rw [← this]
          go_num
        case measure => simp [intOf]; omega)
    · have hfin : Hid (rs = rows.reverse) := hid (rv_end hRv.out.2 (by rw [HL.out]; omega))
      go_wp2_with fail
      go_end0
      rw [← hfin.out]
      exact ⟨rfl, hown.out, hgr.out⟩

/-
  Package tree's Path.
-/
/-- a step whose unit address lies in an old world -/
def stpW (w0 : World) (_ : World) (cs : List Value) (x : Sp) : Prop := ∃ (nm : ByteArray) (a : Option Addr) (l c : Nat), cs = [.string nm, .slice a l c, .string ⟨#[]⟩] ∧ strOfNums x.1 = nm ∧ x.2.2 = [] ∧ Rd .u32 w0 (.slice a l c) x.2.1
theorem stpW_apt (w0 : World) (T : TypeId) : Apt T (stpW w0) := fun _ _ _ _ _ h => h
theorem stpW_R {w0 w : World} (g : Below w0.heap.size w0 w) (cs : List Value) (x : Sp) (h : stpW w0 w cs x) : stpR w cs x := by
  obtain ⟨nm, a, l, c, rfl, h1, h2, h3⟩ := h
  exact ⟨_, by rw [h1, h2, show strOfNums ([] : List Int) = ⟨#[]⟩ by decide +kernel], h3.below g⟩

set_option maxHeartbeats 1000000 in
theorem w_preverse_nil (w : World) : Calls Tryd.prog 15 #[.slice none 0 0] w fun e w' => e = .returned (.tuple #[]) ∧ w' = w := by
  go_enter Tryd.func15, Tryd.ntmps15
  go_wp2_with fail
  go_rounds 1
  go_end0
  exact ⟨rfl, rfl⟩
/-- steps of the call's own, reversed -/
theorem w_preverseS (v : Value) (xs : List Sp) (base : Nat) (w0 w : World) (h : OwnR 43 3 (stpW w0) base w v xs) (hb : Below w0.heap.size w0 w) (hbase : base = w0.heap.size) (hm : (xs.length : Int) ≤ 1000) :
    Calls Tryd.prog 15 #[v] w fun e w' => e = .returned (.tuple #[]) ∧ SlR 3 stpR w' v xs.reverse ∧ Below w0.heap.size w0 w' := by
  obtain ⟨rows, h1, h2, h3, h4⟩ := h
  have hsh : ∀ r ∈ rows, ∃ (nm ar : ByteArray) (a : Option Addr) (l c : Nat), r = [.string nm, .slice a l c, .string ar] := by
    intro r hr
    obtain ⟨i, hi, rfl⟩ := List.getElem_of_mem hr
    obtain ⟨nm, a, l, c, e, -⟩ := h4 i (by omega)
    rw [List.getD_eq_getElem?_getD, List.getElem?_eq_getElem hi] at e
    exact ⟨nm, ⟨#[]⟩, a, l, c, e⟩
  rcases h3.2 with ⟨hv, hn⟩ | ⟨g, cap, cur, hv, hg, _⟩
  · have hx : xs = [] := List.eq_nil_of_length_eq_zero hn
    subst hx
    subst hv
    refine (w_preverse_nil w).mono ?_
    rintro e w' ⟨rfl, rfl⟩
    exact ⟨rfl, SlR.nil, hb⟩
  · subst hv
    refine (w_preverse g xs.length cap base rows w h3 h1 hsh hm).mono ?_
    rintro e w' ⟨rfl, o, gr⟩
    have hb2 : Below w0.heap.size w0 w' := below_grown hb gr (fun k hk => by cases hk; rw [← hbase]; exact hg)
    refine ⟨rfl, ?_, hb2⟩
    have hR : OwnR 43 3 (stpW w0) base w' (.slice (some ⟨g, 0, none⟩) xs.length cap) xs.reverse := by
      refine ⟨rows.reverse, by simp [h1], fun r hr => h2 r (by simpa using hr), by simpa using o, fun i hi => ?_⟩
      have hi2 : i < xs.length := by simpa using hi
      rw [List.getD_eq_getElem?_getD, List.getElem?_reverse (by omega), List.getElem_reverse, ← List.getD_eq_getElem?_getD, h1]
      exact h4 (xs.length - 1 - i) (by omega)
    exact hR.read (by decide) (stpW_R hb2)

set_option maxHeartbeats 4000000 in
set_option maxRecDepth 100000 in
theorem w_p8path' (v : Value) (t : List Nd) (n : Int) (w : World) (h : RdT w v t) (bt : ∀ x ∈ t, bytN x) (ls : ∀ x ∈ t, lenN x) (ct : ∀ x ∈ t, cells x.2.1) (hT : Tab w) :
    Calls Tryd.prog 7 #[v, .int .i64 n] w fun e w' => e = .returned (.tuple #[.string (strOfNums (pthF t n).1), .int .i64 (pthF t n).2]) ∧ Below w.heap.size w w' := by
  have cw := w_pdevice v t n w h bt ls
  obtain ⟨i0, hi0, hz0, hz1, hz2⟩ := info_parts infoStp8
  by_cases hw : wrgF t n = 0
  · obtain ⟨hf, n0, n1⟩ := wrg_ok hw
    obtain ⟨k, rfl⟩ : ∃ k : Nat, n = k := ⟨n.toNat, by omega⟩
    have hk : k < t.length := by simpa using n1
    have e : pthF t k = shpF (stF t k k) := by unfold pthF; rw [if_neg (by simp [hw])]; rfl
    have hok := st_ok hf k hk
    have hlen := st_len hf k hk
    obtain ⟨hl32, -⟩ := frm_siz hf
    rw [e]
    rw [hw] at cw
    have hbx : ∀ x ∈ stF t k k, bytesL x.1 ∧ bytesL x.2.2 := fun x hx => by
      obtain ⟨_, y, hy, h1, h2, h3⟩ := hok x hx
      rw [h1, h3]
      exact ⟨(bt y hy).1, fun c hc => by simp at hc⟩
    have hcx : ∀ x ∈ stF t k k, cells x.2.1 := fun x hx => by
      obtain ⟨_, y, hy, h1, h2, h3⟩ := hok x hx
      rw [h2]
      exact ct y hy
    have hsz : ∀ x ∈ stF t k k, x.1.length ≤ 31 ∧ x.2.1.length ≤ 4 ∧ x.2.2.length ≤ 0 := fun x hx => by
      obtain ⟨ho, y, hy, h1, h2, h3⟩ := hok x hx
      obtain ⟨o1, o2, o3⟩ := ok_parts ho
      exact ⟨nm_len o1, o2, by rw [h3]; simp⟩
    have hz : (shpT (stF t k k)).length ≤ 100000000000 := by
      have h1 := shp_wt (stF t k k) hcx
      have h2 := wtS_le (stF t k k) hsz
      omega
    have csh := fun w' v1 (g : SlR 3 stpR w' v1 (stF t k k)) hT' => w_pshow7 v1 (stF t k k) w' g hbx hcx hz (fun x hx => by have := hsz x hx; omega) hT'
    obtain ⟨A, E, hAE⟩ : ∃ A E, shpF (stF t k k) = (A, E) := ⟨_, _, rfl⟩
    simp only [hAE] at csh ⊢
    obtain ⟨S, hS⟩ : ∃ S, stF t k k = S := ⟨_, rfl⟩
    rw [hS] at hlen
    simp only [hS] at csh
    have HS := hid hS
    have HF := hid hf
    have CSH := hid csh
    have hSl : (S.length : Int) ≤ 32 := by omega
    clear hAE e hok hlen hbx hcx hsz hz hS hw hf csh
    go_enter Tryd.func7, Tryd.ntmps7
    go_wp2_with (go_at_call 14; refine cw.mono ?_; rintro e w1 ⟨rfl, b1⟩)
    go_loopw [1, 7] (fun I U wx => ∃ (m : Nat) (xs : List Sp), m < t.length ∧ I = .int .i64 m ∧ Hid (S = stF t m m ++ xs.reverse) ∧ OwnR 43 3 (stpW w) w.heap.size wx U xs ∧ Below w.heap.size w wx) (fun I _ _ => (intOf I).toNat)
    case atStart => exact ⟨k, [], hk, rfl, hid (by rw [HS.out]; simp), OwnR.nil _ _ _ _ _, b1⟩
    case round =>
      clear b1 cw
      obtain ⟨m, xs, hm, rfl, hin, ho, hb⟩ := hrel
      have hxl : xs.length ≤ 32 := by
        have := congrArg List.length hin.out
        rw [List.length_append, List.length_reverse] at this
        omega
      by_cases h0 : m = 0
      · subst h0
        have e : S = xs.reverse := by rw [hin.out, st_root]; simp
        have cr := w_preverseS _ xs w.heap.size w wr ho hb rfl (by omega)
        rw [← e] at cr
        clear e
        go_wp2_with (first
          | (go_at_call 15; refine cr.mono ?_; rintro e w2 ⟨rfl, r2, b2⟩)
          | (go_at_call 16; refine (CSH.out _ _ r2 (hT.below b2)).mono ?_; rintro e w3 ⟨rfl, b3⟩))
        go_ret2
        exact ⟨rfl, below_trans b2 b3⟩
      · have hm0 : ((m : Int) != 0) = true := by simp; exact h0
        obtain ⟨b1, o1, nm, u1, p1, c1, r1, f0, f1, f2, f3, f4, e1, hu1, hp1, hc1⟩ := nod_at h m hm
        obtain ⟨ua, uq, rfl⟩ := rd_slice hu1
        obtain ⟨q1, q2, q3, q4, -⟩ := frm_at HF.out hm h0
        have hst := st_step HF.out hm h0
        obtain ⟨P, hP⟩ : ∃ P : Nat, t[m].2.2.1 = P := ⟨t[m].2.2.1.toNat, by omega⟩
        rw [hP] at f2 q3 q4 hst
        rw [Int.toNat_natCast] at hst
        have hin2 : Hid (S = stF t P P ++ (xs ++ [(t[m].1, t[m].2.1, [])]).reverse) := by
          show _ = _
          rw [hin.out, hst]
          simp
        have HC : Hid (∀ W, Below w.heap.size w W → W.cell? ⟨b1, o1, none⟩ = some (.string nm) ∧ W.cell? ⟨b1, o1 + 1, none⟩ = some (.slice ua t[m].2.1.length uq)) := fun W g => ⟨below_cell g f0, below_cell g f1⟩
        have H2 := hid f2
        have hbd : Hid (Below w.heap.size w wr.drew) := below_drewN hb 1
        have HO := hid ho
        have hx : stpW w (wr.drew.alloc (.cells #[.string nm, .slice ua t[m].2.1.length uq, .string ⟨#[]⟩] 43)) [Value.string nm, .slice ua t[m].2.1.length uq, .string ⟨#[]⟩] (t[m].1, t[m].2.1, []) := ⟨nm, ua, _, uq, rfl, e1, rfl, hu1⟩
        have HX := hid hx
        clear hst hp1 hc1 f0 f1 f2 f3 f4 hx hP ho
        go_wp2_with fail
        refine wp_region_held_drew (S := fun W => W.cell? ⟨b1, o1, none⟩ = some (.string nm) ∧ W.cell? ⟨b1, o1 + 1, none⟩ = some (.slice ua t[m].2.1.length uq)) (by kernel_rfl) (HC.out _ hbd.out) (fun hHeld => ?_)
        refine wpAnyH_take (i := 0) (v := ?v1) rfl (by kernel_rfl) (by kernel_rfl) (by kernel_rfl) (fun _ _ _ h => h) (Or.inl ⟨by rfl, ?h1⟩) (by assumption) ?r1
        case h1 => intro W hSw; (try dsimp only at hSw); obtain ⟨s0, s1⟩ := hSw; go_simp; try with_reducible rfl
        simp only [Act.put, List.setIfInBounds_toArray, List.set_cons_zero, List.set_cons_succ]
        refine wpAnyH_take (i := 1) (v := ?v2) rfl (by kernel_rfl) (by kernel_rfl) (by kernel_rfl) (fun _ _ _ h => h) (Or.inl ⟨by rfl, ?h2⟩) (by assumption) ?r2
        case h2 => intro W hSw; (try dsimp only at hSw); obtain ⟨s0, s1⟩ := hSw; go_simp; try with_reducible rfl
        simp only [Act.put, List.setIfInBounds_toArray, List.set_cons_zero, List.set_cons_succ]
        refine wpAnyH_take (i := 2) (v := ?v3) rfl (by kernel_rfl) (by kernel_rfl) (by kernel_rfl) (fun _ _ _ h => h) (Or.inl ⟨by rfl, ?h3⟩) (by assumption) ?r3
        case h3 => intro W hSw; (try dsimp only at hSw); obtain ⟨s0, s1⟩ := hSw; go_simp; try with_reducible rfl
        simp only [Act.put, List.setIfInBounds_toArray, List.set_cons_zero, List.set_cons_succ]
        refine wpAnyH_take (i := 3) (v := ?v4) rfl (by kernel_rfl) (by kernel_rfl) (by kernel_rfl) (fun _ _ _ h => h) (Or.inl ⟨by rfl, ?h4⟩) (by assumption) ?r4
        case h4 => intro W hSw; (try dsimp only at hSw); obtain ⟨s0, s1⟩ := hSw; go_simp; try with_reducible rfl
        simp only [Act.put, List.setIfInBounds_toArray, List.set_cons_zero, List.set_cons_succ]
        refine wpAnyH_take (i := 4) (v := ?v5) rfl (by kernel_rfl) (by kernel_rfl) (by kernel_rfl) (fun _ _ _ h => h) (Or.inl ⟨by rfl, ?h5⟩) (by assumption) ?r5
        case h5 => intro W hSw; (try dsimp only at hSw); obtain ⟨s0, s1⟩ := hSw; go_simp; try with_reducible rfl
        simp only [Act.put, List.setIfInBounds_toArray, List.set_cons_zero, List.set_cons_succ]
        refine wpAnyH_take (i := 5) (v := ?v6) rfl (by kernel_rfl) (by kernel_rfl) (by kernel_rfl) (fun _ _ _ h => h) (Or.inl ⟨by rfl, ?h6⟩) (by assumption) ?r6
        case h6 => intro W hSw; (try dsimp only at hSw); obtain ⟨s0, s1⟩ := hSw; go_simp; try with_reducible rfl
        simp only [Act.put, List.setIfInBounds_toArray, List.set_cons_zero, List.set_cons_succ]
        refine wpAnyH_take (i := 6) (v := ?v7) rfl (by kernel_rfl) (by kernel_rfl) (by kernel_rfl) (fun _ _ _ h => h) (Or.inl ⟨by rfl, ?h7⟩) (by assumption) ?r7
        case h7 => intro W hSw; (try dsimp only at hSw); obtain ⟨s0, s1⟩ := hSw; go_simp; try with_reducible rfl
        simp only [Act.put, List.setIfInBounds_toArray, List.set_cons_zero, List.set_cons_succ]
        refine wpAnyH_take (i := 7) (v := ?v8) rfl (by kernel_rfl) (by kernel_rfl) (by kernel_rfl) (fun _ _ _ h => h) (Or.inl ⟨by rfl, ?h8⟩) (by assumption) ?r8
        case h8 => intro W hSw; (try dsimp only at hSw); obtain ⟨s0, s1⟩ := hSw; go_simp; try with_reducible rfl
        simp only [Act.put, List.setIfInBounds_toArray, List.set_cons_zero, List.set_cons_succ]
        refine wpAnyH_take (i := 8) (v := ?v9) rfl (by kernel_rfl) (by kernel_rfl) (by kernel_rfl) (fun _ _ _ h => h) (Or.inl ⟨by rfl, ?h9⟩) (by assumption) ?r9
        case h9 => intro W hSw; (try dsimp only at hSw); obtain ⟨s0, s1⟩ := hSw; go_simp; try with_reducible rfl
        simp only [Act.put, List.setIfInBounds_toArray, List.set_cons_zero, List.set_cons_succ]
        refine wpAnyH_take (i := 9) (v := ?v10) rfl (by kernel_rfl) (by kernel_rfl) (by kernel_rfl) (fun _ _ _ h => h) (Or.inl ⟨by rfl, ?h10⟩) (by assumption) ?r10
        case h10 => intro W hSw; (try dsimp only at hSw); obtain ⟨s0, s1⟩ := hSw; go_simp; try with_reducible rfl
        simp only [Act.put, List.setIfInBounds_toArray, List.set_cons_zero, List.set_cons_succ]
        refine wpAnyH_take (i := 10) (v := ?v11) rfl (by kernel_rfl) (by kernel_rfl) (by kernel_rfl) (fun _ _ _ h => h) (Or.inl ⟨by rfl, ?h11⟩) (by assumption) ?r11
        case h11 => intro W hSw; (try dsimp only at hSw); obtain ⟨s0, s1⟩ := hSw; go_simp; try with_reducible rfl
        simp only [Act.put, List.setIfInBounds_toArray, List.set_cons_zero, List.set_cons_succ]
        refine wpAnyH_take (i := 11) (v := ?v12) rfl (by kernel_rfl) (by kernel_rfl) (by kernel_rfl) (fun _ _ _ h => h) (Or.inl ⟨by rfl, ?h12⟩) (by assumption) ?r12
        case h12 => intro W hSw; (try dsimp only at hSw); obtain ⟨s0, s1⟩ := hSw; go_simp; try with_reducible rfl
        simp only [Act.put, List.setIfInBounds_toArray, List.set_cons_zero, List.set_cons_succ]
        refine wpAnyH_ready (rs := [12]) (by kernel_rfl) (by simp) ?_
        refine AllReadyH.cons rfl (fun K hK => ?_) AllReadyH.nil
        go_simp
        refine hK.out _ _ (HC.out _ (hbd.out.alloc hbd.out.size _)) (fun hHeld => ?_)
        clear hK K
        have BX : Below w.heap.size w (wr.drew.alloc (.cells #[.string nm, .slice ua t[m].2.1.length uq, .string ⟨#[]⟩] 43)) := hbd.out.alloc hbd.out.size _
        have BR : Below wr.heap.size wr (wr.drew.alloc (.cells #[.string nm, .slice ua t[m].2.1.length uq, .string ⟨#[]⟩] 43)) := (below_drewN (Below.refl _ wr) 1).alloc (below_drewN (Below.refl _ wr) 1).size _
        obtain ⟨rows, k1, k2, k3, k4⟩ := OwnR.below HO.out BR (fun _ _ q => q)
        refine wpAnyH_ready (rs := [13]) (by kernel_rfl) (by simp) ?_
        refine AllReadyH.cons rfl (fun K hK => ?_) AllReadyH.nil
        refine step_append_rows rfl _ _ 36 rfl w.heap.size 43 i0 _ 3 56 Tryd.underlying36 hi0 hz0 hz1 hz2 rfl (by decide) _ xs.length _ rfl k3 _ [[Value.string nm, .slice ua t[m].2.1.length uq, .string ⟨#[]⟩]] rfl (slc_one wr.drew [Value.string nm, .slice ua t[m].2.1.length uq, .string ⟨#[]⟩] 43 3 rfl) (fun r hr => by rw [List.mem_singleton] at hr; subst hr; exact one3 _ _ _ _ _) (by unfold maxLen; simp only [List.length_singleton]; omega) (by simp only [List.length_singleton]; omega) BX.size ?_
        intro v9 w9 ho9 hg9
        have oT9 := hid (OwnR.snoc (stpW_apt w 43) k1 k2 k3 k4 rfl HX.out (by simpa using ho9) hg9)
        have b9 : Hid (Below w.heap.size w w9) := below_grown BX hg9 (fun k hk => (k3.lt k hk).1)
        refine hK.out _ _ (HC.out _ b9.out) (fun hHeld => ?_)
        clear hK K
        clear k1 k2 k3 k4 ho9 hg9 BX BR
        refine wpAnyH_ready (rs := [14]) (by kernel_rfl) (by simp) ?_
        refine AllReadyH.cons rfl (fun K hK => ?_) AllReadyH.nil
        go_simp
        refine hK.out _ _ (HC.out _ b9.out) (fun hHeld => ?_)
        clear hK K
        refine wpAnyH_done (by kernel_rfl) ?_ _
        have l9 := below_cell b9.out H2.out
        go_wp2_with fail
        go_roundw
        case rel => exact ⟨P, _, by omega, rfl, hin2, oT9.out, b9.out⟩
        case measure => simp [intOf]; omega
  · have e : pthF t n = ([], wrgF t n) := by unfold pthF; rw [if_pos hw]
    rw [e]
    obtain ⟨W, hW⟩ : ∃ W, wrgF t n = W := ⟨_, rfl⟩
    rw [hW] at cw hw
    simp only [hW]
    have hwb : (W != 0) = true := by simpa using hw
    have es : strOfNums ([] : List Int) = ⟨#[]⟩ := by decide +kernel
    rw [es]
    clear hW hw e es
    go_enter Tryd.func7, Tryd.ntmps7
    go_wp2_with (go_at_call 14; refine cw.mono ?_; rintro e w1 ⟨rfl, b1⟩)
    go_ret2
    exact ⟨rfl, b1⟩

/-
  Package tree's calls, as the laws take them.
-/
theorem w_p8new (w : World) (hT : Tab w) : Calls Tryd.prog 12 #[] w fun e w' => ∃ v, e = .returned v ∧ RdT w' v [([], [], -1, [], [])] ∧ Below w.heap.size w w' := w_p8new' w

theorem w_p8formed (v : Value) (t : List Nd) (w : World) (hT : Tab w) (h : RdT w v t) (g : goodT t) :
    Calls Tryd.prog 19 #[v] w fun e w' => e = .returned (.bool (frmT t)) ∧ Below w.heap.size w w' := w_p8formed' v t w h g.byt g.len

theorem w_p8copy (v : Value) (t : List Nd) (w : World) (hT : Tab w) (h : RdT w v t) (g : goodT t) (hz : t.length * 96 ≤ 140737488351232) :
    Calls Tryd.prog 25 #[v] w fun e w' => ∃ v1, e = .returned v1 ∧ RdT w' v1 t ∧ Below w.heap.size w w' := by
  refine (w_p8copyS v t w h (by omega) g.siz).mono ?_
  rintro e w' ⟨v1, rfl, o, b⟩
  exact ⟨v1, rfl, ownT8_read o.own, b⟩

theorem w_p8add (v : Value) (t : List Nd) (p : Int) (s : ByteArray) (vu : Value) (un : List Int) (w : World) (hT : Tab w) (h : RdT w v t) (g : goodT t) (hz : t.length * 96 ≤ 140737488351232) (hp : (Lit.int .i64 p).wf = true) (hs : s.size ≤ maxLen) (hu : Rd .u32 w vu un) (cu : cells un) :
    Calls Tryd.prog 11 #[v, .int .i64 p, .string s, vu] w fun e w' => ∃ v1, e = .returned (.tuple #[v1, .int .i64 (addF t p (L s) un).2.1, .int .i64 (addF t p (L s) un).2.2]) ∧ RdT w' v1 (addF t p (L s) un).1 ∧ Below w.heap.size w w' := w_p8add' v t p s vu un w h hu g.byt g.len hs

theorem w_p8next (v : Value) (t : List Nd) (n : Int) (s : ByteArray) (w : World) (hT : Tab w) (h : RdT w v t) (g : goodT t) (hz : t.length * 96 ≤ 140737488351232) (hn : (Lit.int .i64 n).wf = true) (hs : s.size ≤ maxLen) :
    Calls Tryd.prog 6 #[v, .int .i64 n, .string s] w fun e w' => e = .returned (.tuple #[.string (strOfNums (nxtF t n (L s)).1), .int .i64 (nxtF t n (L s)).2]) ∧ Below w.heap.size w w' := w_p8next' v t n s w h g.byt g.len

theorem w_p8find (v vl : Value) (t : List Nd) (l : List Sp) (w : World) (hT : Tab w) (h : RdT w v t) (g : goodT t) (hz : t.length * 96 ≤ 140737488351232) (hl : SlR 3 stpR w vl l) (bl : ∀ x ∈ l, bytesL x.1 ∧ bytesL x.2.2) :
    Calls Tryd.prog 9 #[v, vl] w fun e w' => e = .returned (.tuple #[.int .i64 (finT t l).1, .int .i64 (finT t l).2]) ∧ Below w.heap.size w w' := w_p8find' v vl t l w h hl g.byt g.len bl

theorem w_p8path (v : Value) (t : List Nd) (n : Int) (w : World) (hT : Tab w) (h : RdT w v t) (g : goodT t) (hz : t.length * 96 ≤ 140737488351232) (hn : (Lit.int .i64 n).wf = true) :
    Calls Tryd.prog 7 #[v, .int .i64 n] w fun e w' => e = .returned (.tuple #[.string (strOfNums (pthF t n).1), .int .i64 (pthF t n).2]) ∧ Below w.heap.size w w' := w_p8path' v t n w h g.byt g.len g.cel hT

/-
  The fixed fact of layer 8's statements: alive returns true, out of the calls' plain functions; and what its walks share.
-/
theorem wrapI (n : Int) (h0 : 0 ≤ n) (h1 : n < 4611686018427387904) : IntKind.i64.wrap n = n := by
  simp [IntKind.wrap, IntKind.bits, IntKind.signed]
  omega
theorem L_size (s : ByteArray) : (L s).length = s.size := LB_len s
theorem L_inj {a b : ByteArray} (h : L a = L b) : a = b := by
  have h1 := nums_LB a
  have h2 := nums_LB b
  rw [← h1, ← h2]
  exact congrArg strOfNums h
theorem drp_size (t : List Nd) (n : Int) (nm : List Int) : (drpF t n nm).1.length ≤ t.length := by
  unfold drpF
  split
  · simp
  · split
    · simp
    · simp only [put_len]
      omega
/-- a case in a box -/
theorem cas_cells {q : World} {b : Nat} {ct cd : Value} {n : Int} {s : ByteArray} {T : TypeId} (h : Stands q b #[ct, .int .i64 n, .string s, cd] T) :
    q.cell? ⟨b, 0, none⟩ = some ct ∧ q.cell? ⟨b, 1, none⟩ = some (.int .i64 n) ∧ q.cell? ⟨b, 2, none⟩ = some (.string s) ∧ q.cell? ⟨b, 3, none⟩ = some cd :=
  ⟨h.cell 0 _ rfl, h.cell 1 _ rfl, h.cell 2 _ rfl, h.cell 3 _ rfl⟩
theorem al_add1 : addF [([], [], -1, [], [])] 0 (L ⟨#[112, 99, 105]⟩) [31] = ([([], [], -1, [], []), ([112, 99, 105], [31], 0, [], [])], 1, 0) := by kernel_rfl
theorem al_add2 : addF [([], [], -1, [], []), ([112, 99, 105], [31], 0, [], [])] 1 (L ⟨#[100, 105, 115, 107]⟩) [] = ([([], [], -1, [], []), ([112, 99, 105], [31], 0, [], []), ([100, 105, 115, 107], [], 1, [], [])], 2, 0) := by kernel_rfl
theorem al_pth : pthF [([], [], -1, [], []), ([112, 99, 105], [31], 0, [], []), ([100, 105, 115, 107], [], 1, [], [])] 2 = ([47, 112, 99, 105, 64, 49, 102, 47, 100, 105, 115, 107], 0) := by decide +kernel
theorem al_txt : strOfNums [47, 112, 99, 105, 64, 49, 102, 47, 100, 105, 115, 107] = ⟨#[47, 112, 99, 105, 64, 49, 102, 47, 100, 105, 115, 107]⟩ := by decide +kernel
theorem al_g1 : goodT [([], [], -1, [], []), ([112, 99, 105], [31], 0, [], [])] := by
  have h := add_goodT (t := [([], [], -1, [], [])]) (p := 0) (nm := L ⟨#[112, 99, 105]⟩) (un := [31]) root_good (LB_bytes _) (by decide) (by intro n hn; simp at hn; omega)
  rw [al_add1] at h
  exact h
theorem al_g2 : goodT [([], [], -1, [], []), ([112, 99, 105], [31], 0, [], []), ([100, 105, 115, 107], [], 1, [], [])] := by
  have h := add_goodT (t := [([], [], -1, [], []), ([112, 99, 105], [31], 0, [], [])]) (p := 1) (nm := L ⟨#[100, 105, 115, 107]⟩) (un := []) al_g1 (LB_bytes _) (by decide) (by intro n hn; simp at hn)
  rw [al_add2] at h
  exact h

set_option maxHeartbeats 1000000 in
set_option maxRecDepth 100000 in
theorem w_alive8 (w : World) (hT : Tab w) : Calls Tryd.prog 5 #[] w fun e w' => e = .returned (.bool true) ∧ Below w.heap.size w w' := by
  have c1 := fun v w hT h vu hu => w_p8add v [([], [], -1, [], [])] 0 ⟨#[112, 99, 105]⟩ vu [31] w hT h root_good (by simp) (by decide) (by decide) hu (by intro n hn; simp at hn; omega)
  have c2 := fun v w hT h => w_p8add v [([], [], -1, [], []), ([112, 99, 105], [31], 0, [], [])] 1 ⟨#[100, 105, 115, 107]⟩ (.slice none 0 0) [] w hT h al_g1 (by simp) (by decide) (by decide) Rd_nil (by intro n hn; simp at hn)
  have c3 := fun v w hT h => w_p8path v [([], [], -1, [], []), ([112, 99, 105], [31], 0, [], []), ([100, 105, 115, 107], [], 1, [], [])] 2 w hT h al_g2 (by simp) (by decide)
  simp only [al_add1, al_add2, al_pth, al_txt] at c1 c2 c3
  go_enter Tryd.func5, Tryd.ntmps5
  go_wp2_with (first
    | (go_at_call 12; refine (w_p8new _ hT).mono ?_; rintro e w1 ⟨v1, rfl, r1, b1⟩; have bx := box_below w1 (.cells #[.int .u32 31] 47))
    | (go_at_call_of 11 v1; refine (c1 v1 _ ((hT.below b1).below bx) (r1.below bx) _ (rd_one w1 31 47)).mono ?_; rintro e w2 ⟨v2, rfl, r2, b2⟩)
    | (go_at_call_of 11 v2; refine (c2 v2 _ (((hT.below b1).below bx).below b2) r2).mono ?_; rintro e w3 ⟨v3, rfl, r3, b3⟩)
    | (go_at_call 7; refine (c3 v3 _ ((((hT.below b1).below bx).below b2).below b3) r3).mono ?_; rintro e w4 ⟨rfl, b4⟩))
  go_ret
  exact ⟨by simp, below_trans (below_trans (below_trans (below_trans b1 bx) b2) b3) b4⟩

/-
  Plain data (numbers, bools, texts; rows and structs of such) tells the cells that hold it. No Go text in sight.
-/
open Go

/-- the cells of plain data, one behind the other -/
def flatCells : DataW Unit → List Value
  | .lit (.int k n) => [.int k n]
  | .lit (.bool b) => [.bool b]
  | .lit (.string l) => [.string ⟨l.toArray⟩]
  | .agg ds => ds.attach.flatMap fun ⟨d, _⟩ => flatCells d
  | _ => []
theorem flat_agg (ds : List (DataW Unit)) : flatCells (.agg ds) = ds.flatMap flatCells := by
  rw [flatCells]
  conv => rhs; rw [← List.attach_map_subtype_val ds]
  rw [List.flatMap_map]

/-- fields that lie one behind the other, from cell o to cell e -/
def contB (P : Program) : List Field → Nat → Nat → Bool
  | [], o, e => o == e
  | f :: fs, o, e => f.offset == o && contB P fs (o + P.cellsOf f.type) e
theorem contB_le (P : Program) : ∀ (fs : List Field) (o e : Nat), contB P fs o e = true → o ≤ e
  | [], o, e, h => by simp [contB] at h; omega
  | f :: fs, o, e, h => by
    simp [contB] at h
    have := contB_le P fs _ e h.2
    omega
/-- a type whose values are plain data -/
def flatB (P : Program) : Nat → TypeId → Bool
  | 0, _ => false
  | m + 1, t => match P.underlying t with
    | some .bool => true
    | some (.int _) => true
    | some .string => true
    | some (.struct fs) => contB P fs.toList 0 (P.cellsOf t) && fs.toList.all fun f => flatB P m f.type
    | some (.array n e) => P.cellsOf t == n * P.cellsOf e && flatB P m e
    | _ => false

theorem flat_fields {P : Program} (cs : List Value) (g : TypeId → List Value → Option (DataW Unit × List MemPlace)) :
    ∀ (fs : List Field) (o e : Nat) (xs : List (DataW Unit × List MemPlace)), contB P fs o e = true → e ≤ cs.length →
      (∀ f ∈ fs, ∀ l d p, g f.type l = some (d, p) → l = flatCells d) →
      fs.mapM (fun f => g f.type ((cs.drop f.offset).take (P.cellsOf f.type))) = some xs → (cs.drop o).take (e - o) = (xs.map (·.1)).flatMap flatCells
  | [], o, e, xs, hc, he, hf, hm => by
    simp [contB] at hc
    subst hc
    simp at hm
    subst hm
    simp
  | f :: fs, o, e, xs, hc, he, hf, hm => by
    simp only [List.mapM_cons, Option.bind_eq_bind, Option.bind_eq_some_iff, Option.pure_def, Option.some.injEq] at hm
    obtain ⟨⟨d, p⟩, hd, r, hr, rfl⟩ := hm
    simp [contB] at hc
    obtain ⟨ho, hc⟩ := hc
    have hle := contB_le P fs _ e hc
    have ih := flat_fields cs g fs _ e r hc he (fun f' h' => hf f' (List.mem_cons_of_mem _ h')) hr
    have h1 := hf f (List.mem_cons_self ..) _ _ _ hd
    rw [ho] at h1
    simp only [List.map_cons, List.flatMap_cons]
    rw [← h1, ← ih, show e - o = P.cellsOf f.type + (e - (o + P.cellsOf f.type)) by omega, List.take_add, List.drop_drop]
theorem flat_rows {P : Program} (cs : List Value) (c : Nat) (g : List Value → Option (DataW Unit × List MemPlace)) (hg : ∀ l d p, g l = some (d, p) → l = flatCells d) :
    ∀ (m s : Nat) (xs : List (DataW Unit × List MemPlace)), (List.range' s m).mapM (fun i => g ((cs.drop (i * c)).take c)) = some xs → (cs.drop (s * c)).take (m * c) = (xs.map (·.1)).flatMap flatCells
  | 0, s, xs, hm => by
    simp at hm
    subst hm
    simp
  | m + 1, s, xs, hm => by
    rw [List.range'_succ] at hm
    simp only [List.mapM_cons, Option.bind_eq_bind, Option.bind_eq_some_iff, Option.pure_def, Option.some.injEq] at hm
    obtain ⟨⟨d, p⟩, hd, r, hr, rfl⟩ := hm
    have ih := flat_rows (P := P) cs c g hg m (s + 1) r hr
    have h1 := hg _ _ _ hd
    simp only [List.map_cons, List.flatMap_cons]
    rw [← h1, ← ih, Nat.succ_mul, Nat.add_comm (m * c) c, List.take_add, List.drop_drop, Nat.succ_mul]
/-- what reads as plain data holds just its cells -/
theorem flat_of_trod {enc : TypeId × Value → Unit} {P : Program} {w : World} {base : Nat} {sp : Nat → Bool} {held : Bool} : ∀ (m fuel : Nat) (t : TypeId) (cs : List Value) (d : DataW Unit) (p : List MemPlace), flatB P m t = true →
    DataW.trod enc P w base sp held fuel t cs = some (d, p) → cs = flatCells d
  | 0, _, _, _, _, _, hf, _ => by simp [flatB] at hf
  | m + 1, 0, _, _, _, _, _, h => by simp [DataW.trod] at h
  | m + 1, fuel + 1, t, cs, d, p, hf, h => by
    unfold flatB at hf
    cases hu : P.underlying t with
    | none => rw [hu] at hf; simp at hf
    | some u =>
      rw [hu] at hf
      cases u <;> simp only [] at hf
      case bool =>
        obtain ⟨z, hc, hx⟩ := DataW.trod_bool hu h
        obtain ⟨rfl, _⟩ := Prod.mk.inj hx
        simp [hc, flatCells]
      case int k =>
        obtain ⟨z, hc, hx, _⟩ := DataW.trod_int hu h
        obtain ⟨rfl, _⟩ := Prod.mk.inj hx
        simp [hc, flatCells]
      case string =>
        obtain ⟨z, hc, hx, _⟩ := DataW.trod_string hu h
        obtain ⟨rfl, _⟩ := Prod.mk.inj hx
        simp [hc, flatCells]
      case struct fs =>
        simp only [DataW.trod, hu] at h
        split at h
        · rename_i hl
          obtain ⟨xs, hm, hx⟩ := Option.map_eq_some_iff.1 h
          rw [Bool.and_eq_true] at hf
          obtain ⟨rfl, _⟩ : .agg (xs.map (·.1)) = d ∧ _ := by simpa using hx
          rw [flat_agg]
          have := flat_fields (P := P) cs (fun t l => DataW.trod enc P w base sp held fuel t l) fs.toList 0 (P.cellsOf t) xs hf.1 (by omega) (fun f hf' l d p hd => flat_of_trod m fuel f.type l d p (List.all_eq_true.1 hf.2 f hf') hd) hm
          rw [← this, List.drop_zero, Nat.sub_zero, List.take_of_length_le (by omega)]
        · cases h
      case array n e =>
        simp only [DataW.trod, hu] at h
        split at h
        · rename_i hl
          obtain ⟨xs, hm, hx⟩ := Option.map_eq_some_iff.1 h
          rw [Bool.and_eq_true, beq_iff_eq] at hf
          obtain ⟨rfl, _⟩ : .agg (xs.map (·.1)) = d ∧ _ := by simpa using hx
          rw [flat_agg]
          rw [List.range_eq_range'] at hm
          have := flat_rows (P := P) cs (P.cellsOf e) (fun l => DataW.trod enc P w base sp held fuel e l) (fun l d p hd => flat_of_trod m fuel e l d p hf.2 hd) n 0 xs hm
          rw [← this, Nat.zero_mul, List.drop_zero, List.take_of_length_le (by omega)]
        · cases h
      all_goals exact absurd hf (by decide)
/-- a listed variable of plain data, the first on its list, holds its cells -/
theorem flat_laid {P : Program} {W : World} {name : String} {d : DataW Unit} {rest : List (String × DataW Unit)} {g : Nat} {t : TypeId} (m : Nat) (hg : P.globalNamed name = some g) (hty : (P.globals[g]?).map (·.type) = some t) (hf : flatB P m t = true)
    (h : laidMet P ((name, d) :: rest) W) : ∀ j v, (flatCells d)[j]? = some v → W.cell? ⟨g, j, none⟩ = some v := by
  obtain ⟨ps, ⟨g', t', cs, fuel, p, q, hg', ht', hvar, hd, _, _⟩, _⟩ := h
  obtain rfl := Option.some.inj (hg.symm.trans hg')
  obtain rfl := Option.some.inj (hty.symm.trans ht')
  have e := flat_of_trod m fuel t cs.toList d p hf hd
  intro j v hv
  rw [World.var?_cell hg hvar j, ← Array.getElem?_toList, e, hv]

/-
  The variables that the rows list: that they are listed says what the walks lean on; and a world that holds them, for the witness.
-/
open Go

theorem g64 : Tryd.prog.globalNamed "math/bits.deBruijn64tab" = some 3 := by kernel_rfl
theorem g64T : (Tryd.prog.globals[3]?).map (·.type) = some 118 := by kernel_rfl
theorem g64F : flatB Tryd.prog 4 118 = true := by kernel_rfl
theorem tab_of_laid {W : World} (h : laidMetH Tryd.prog [("math/bits.deBruijn32tab", Rows.laid_math_bits_deBruijn32tab), ("math/bits.deBruijn64tab", Rows.laid_math_bits_deBruijn64tab), ("internal/strconv.uint64pow10", Rows.laid_internal_strconv_uint64pow10)] W) : Tab W := by
  have h : laidMet Tryd.prog [("math/bits.deBruijn32tab", Rows.laid_math_bits_deBruijn32tab), ("math/bits.deBruijn64tab", Rows.laid_math_bits_deBruijn64tab), ("internal/strconv.uint64pow10", Rows.laid_internal_strconv_uint64pow10)] W := h
  have h1 := flat_laid 4 g64 g64T g64F h.tail 15 (.int .u8 4) (by simp [Rows.laid_math_bits_deBruijn64tab, flat_agg, flatCells])
  exact ⟨trivial, h1⟩

/-- the listed blocks, for a witness -/
noncomputable def laidBlocks : List (Nat × Array Value) :=
  [(2, (([0, 1, 28, 2, 29, 14, 24, 3, 30, 22, 20, 15, 25, 17, 4, 8, 31, 27, 13, 23, 21, 19, 16, 7, 26, 12, 18, 6, 11, 5, 10, 9] : List Int).map (Value.int .u8)).toArray), (3, (([0, 1, 56, 2, 57, 49, 28, 3, 61, 58, 42, 50, 38, 29, 17, 4, 62, 47, 59, 36, 45, 43, 51, 22, 53, 39, 33, 30, 24, 18, 12, 5, 63, 55, 48, 27, 60, 41, 37, 16, 46, 35, 44, 21, 52, 32, 23, 11, 54, 26, 40, 15, 34, 20, 31, 10, 25, 14, 19, 9, 13, 8, 7, 6] : List Int).map (Value.int .u8)).toArray), (1, (([1, 10, 100, 1000, 10000, 100000, 1000000, 10000000, 100000000, 1000000000, 10000000000, 100000000000, 1000000000000, 10000000000000, 100000000000000, 1000000000000000, 10000000000000000, 100000000000000000, 1000000000000000000, 10000000000000000000] : List Int).map (Value.int .u64)).toArray)]

end Go.Proofs.YtkdaimagdmbnfabDoor
