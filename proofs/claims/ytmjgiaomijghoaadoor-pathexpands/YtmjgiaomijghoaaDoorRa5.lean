/-
  Show of the document's answer for paths.
-/
import Derived.Test.YtmjgiaomijghoaaDoorRa4
import Derived.Test.YtmjgiaomijghoaaDoorRnq
namespace Go.Proofs.YtmjgiaomijghoaaDoor
open Go.ChangeShapes Go.WideShapes Go.ChangeAt Go.RowKit
set_option linter.unusedVariables false
set_option linter.unusedSimpArgs false

/-- a row of bytes of the call's own -/
def OwnY (base : Nat) (w : World) (v : Value) (xs : List Int) : Prop := w.ownsRow base 5 1 v xs.length (xs.map (Value.int .u8))
theorem rd_n {k : IntKind} {w : World} {ao : Option Addr} {n cap : Nat} {xs : List Int} (h : Rd k w (.slice ao n cap) xs) : n = xs.length := by
  obtain ⟨ao', cap', e, _⟩ := rd_form h
  simp at e
  exact e.2.1
theorem up_in (c : Int) (l : List Int) : l.all (fun x => decide (¬ x = c)) = decide (¬ (upTo c l).length < l.length) := by
  have h1 := upTo_len c l
  rw [Bool.eq_iff_iff, List.all_eq_true]
  constructor
  · intro h
    have := upTo_all c l (fun x hx => by simpa using h x hx)
    rw [this]
    simp
  · intro h x hx
    have h2 : l.length ≤ (upTo c l).length := by simpa using h
    have e := upTo_take c l
    rw [List.take_of_length_le h2] at e
    rw [e] at hx
    simpa using upTo_free c l x hx
theorem ok_nm {x : Sp} (h : nmF x.1 = false) : okS x = false := by simp [okS, h]
theorem ok_un {x : Sp} (h : 4 < x.2.1.length) : okS x = false := by
  have : decide (x.2.1.length ≤ 4) = false := by simp; omega
  simp only [okS, this]
  simp
theorem ok_ar {x : Sp} (h : (upTo 47 x.2.2).length < x.2.2.length) : okS x = false := by
  have : x.2.2.all (fun c => decide (¬ c = 47)) = false := by rw [up_in]; simp [h]
  unfold okS
  rw [this]
  simp
theorem ok_all {x : Sp} (h1 : nmF x.1 = true) (h2 : x.2.1.length ≤ 4) (h3 : ¬ (upTo 47 x.2.2).length < x.2.2.length) : okS x = true := by
  have : x.2.2.all (fun c => decide (¬ c = 47)) = true := by rw [up_in]; simp [h3]
  unfold okS
  rw [h1, this]
  simp [h2]
theorem shp_bad (l : List Sp) (k : Nat) (h : k < l.length) (hb : okS l[k] = false) : shpF l = ([], 1) := by
  unfold shpF
  rw [if_pos]
  rw [Bool.eq_false_iff]
  intro hall
  rw [List.all_eq_true] at hall
  have := hall l[k] (List.getElem_mem h)
  rw [hb] at this
  cases this
theorem shp_snoc (l : List Sp) (x : Sp) : shpT (l ++ [x]) = shpT l ++ 47 :: bodT x := by
  induction l with
  | nil => simp [shpT]
  | cons y l ih => simp [shpT, ih]
theorem shp_take (l : List Sp) (k : Nat) : (shpT (l.take k)).length ≤ (shpT l).length := by
  induction l generalizing k with
  | nil => simp [shpT]
  | cons y l ih =>
    cases k with
    | zero => simp [shpT]
    | succ k =>
      have := ih k
      simp only [List.take_succ_cons, shpT, List.length_cons, List.length_append]
      omega

set_option maxHeartbeats 4000000 in
set_option maxRecDepth 100000 in
theorem w_rshow7 (v : Value) (xs : List Sp) (w : World) (h : SlR 3 stpR w v xs) (bx : ∀ x ∈ xs, bytesL x.1 ∧ bytesL x.2.2) (cx : ∀ x ∈ xs, cells x.2.1) (hz : (shpT xs).length ≤ 100000000000) (hsz : ∀ x ∈ xs, x.1.length ≤ 100000000000 ∧ x.2.1.length ≤ 100000000000 ∧ x.2.2.length ≤ 100000000000) :
    Calls Tryd.prog 13 #[v] w fun e w' => e = .returned (.tuple #[.string (strOfNums (shpF xs).1), .int .i64 (shpF xs).2]) ∧ Below w.heap.size w w' := by
  have hla := slr_len h uP (P := Tryd.prog)
  have hma := slr_max h
  unfold maxLen at hma
  obtain ⟨i0, hi0, hz0, hz1, hz2⟩ := info_parts infoU8
  obtain ⟨A, E, hAE⟩ : ∃ A E, shpF xs = (A, E) := ⟨_, _, rfl⟩
  have HAE := hid hAE
  rw [hAE]
  show Calls _ _ _ _ fun e w' => e = .returned (.tuple #[.string (strOfNums A), .int .i64 E]) ∧ _
  clear hAE
  go_enter Tryd.func13, Tryd.ntmps13
  go_wp2_with fail
  go_loopw [5] (fun I wx => ∃ (i : Nat), (i : Int) ≤ xs.length ∧ I = .int .i64 i ∧ Hid ((xs.take i).all okS = true) ∧ Below w.heap.size w wx) (fun I _ => (xs.length - intOf I).toNat)
  case atStart => exact ⟨0, by omega, rfl, hid rfl, Below.refl _ _⟩
  case round =>
    obtain ⟨i, hi, rfl, hall, hb⟩ := hrel
    by_cases hlt : (i : Int) < xs.length
    · have hil : i < xs.length := by omega
      obtain ⟨b, o, nm, ar, ao, n, cap, r, a0, a1, a2, e0, e2, hU⟩ := stp_at h i hil
      have hn := rd_n hU
      have c0 := below_cell hb a0
      have c1 := below_cell hb a1
      have c2 := below_cell hb a2
      have hNL : L nm = xs[i].1 := by rw [← e0]; exact LB_nums _ (bx _ (List.getElem_mem hil)).1
      have hAL : L ar = xs[i].2.2 := by rw [← e2]; exact LB_nums _ (bx _ (List.getElem_mem hil)).2
      have hNs : nm.size ≤ 100000000000 := by rw [← L_len, hNL]; exact (hsz _ (List.getElem_mem hil)).1
      have hAs : ar.size ≤ 100000000000 := by rw [← L_len, hAL]; exact (hsz _ (List.getElem_mem hil)).2.2
      have cn := fun w => w_rnamedQ nm w (by unfold maxLen; omega)
      have cp : ∀ w, Calls Tryd.prog 21 #[.string ar, .int .i64 0, .int .u8 47] w fun e w' => e = .returned (.int .i64 (pcF (L ar) 0 47)) ∧ w' = w := fun w => w_place ar 0 47 w (by unfold maxLen; omega) (by omega) (by decide) (by decide)
      rw [pc0] at cp
      rw [hNL] at cn
      rw [hAL] at cp
      have hpl := upTo_len 47 xs[i].2.2
      have hasz : ar.size = xs[i].2.2.length := by rw [← L_len, hAL]
      rw [← hasz] at hpl
      have hb0 := hb.alloc hb.size (.cells #[.string nm, .slice ao n cap, .string ar] 40)
      have st0 := stands_new wr #[.string nm, .slice ao n cap, .string ar] 40
      have x0 := st0.cell 0 _ rfl
      have x1 := st0.cell 1 _ rfl
      have x2 := st0.cell 2 _ rfl
      have HNn := hid hn
      clear hn
      have bad : okS xs[i] = false → Hid (shpF xs = ([], 1)) := fun g => shp_bad xs i hil g
      cases hnm : nmF xs[i].1
      · have e := bad (ok_nm hnm)
        rw [hnm] at cn
        clear e0 e2 hNL hAL hnm bad hpl hasz
        go_wp2_with fail
        go_quiet (first | (go_at_call 29; exact Calls.quiet_of (cn _)))
        go_wp2_with fail
        go_ret2
        obtain ⟨rfl, rfl⟩ := Prod.mk.inj (HAE.out.symm.trans e.out)
        exact ⟨rfl, below_drewN hb0 _⟩
      · rw [hnm] at cn
        by_cases hu4 : 4 < xs[i].2.1.length
        · have e := bad (ok_un hu4)
          have hn4 : (4 : Int) < n := by have := HNn.out; omega
          clear e0 e2 hNL hAL hnm bad hpl hasz hu4
          go_wp2_with fail
          go_quiet (first | (go_at_call 29; exact Calls.quiet_of (cn _)))
          go_wp2_with fail
          go_ret2
          obtain ⟨rfl, rfl⟩ := Prod.mk.inj (HAE.out.symm.trans e.out)
          exact ⟨rfl, below_drewN hb0 _⟩
        · have hn4 : ¬ (4 : Int) < n := by have := HNn.out; omega
          by_cases hsl : (upTo 47 xs[i].2.2).length < xs[i].2.2.length
          · have e := bad (ok_ar hsl)
            obtain ⟨q, hq⟩ : ∃ q, (upTo 47 xs[i].2.2).length = q := ⟨_, rfl⟩
            rw [hq] at cp hsl
            have hqs : (q : Int) < ar.size := by omega
            clear e0 e2 hNL hAL hnm bad hpl hasz hu4 hq
            go_wp2_with fail
            go_quiet (first | (go_at_call 29; exact Calls.quiet_of (cn _)) | (go_at_call 21; exact Calls.quiet_of_same (cp _)))
            go_wp2_with fail
            go_ret2
            obtain ⟨rfl, rfl⟩ := Prod.mk.inj (HAE.out.symm.trans e.out)
            exact ⟨rfl, below_drewN hb0 _⟩
          · have hall2 : Hid ((xs.take (i + 1)).all okS = true) := by
              show _ = _
              rw [List.take_succ_eq_append_getElem hil, List.all_append, hall.out]
              simp [ok_all hnm (by omega) hsl]
            obtain ⟨q, hq⟩ : ∃ q, (upTo 47 xs[i].2.2).length = q := ⟨_, rfl⟩
            rw [hq] at cp hsl
            have hqs : ¬ (q : Int) < ar.size := by omega
            clear e0 e2 hNL hAL hnm bad hpl hasz hu4 hq
            go_wp2_with fail
            go_quiet (first | (go_at_call 29; exact Calls.quiet_of (cn _)) | (go_at_call 21; exact Calls.quiet_of_same (cp _)))
            go_wp2_with fail
            go_roundw
            case rel => exact ⟨i + 1, by omega, by go_num, hall2, below_drewN hb0 _⟩
            case measure => simp [intOf]; omega
    · have hok : Hid (xs.all okS = true) := by
        show _ = _
        have := hall.out
        rw [List.take_of_length_le (by omega)] at this
        exact this
      have hb8 := hb
      clear hall
      go_wp2_with fail
      go_loopw [4, 7] (fun U I wx => ∃ (j : Nat) (ys : List Int), (j : Int) ≤ xs.length ∧ I = .int .i64 j ∧ Hid (ys = shpT (xs.take j)) ∧ OwnY w.heap.size wx U ys ∧ Below w.heap.size w wx) (fun _ I _ => (xs.length - intOf I).toNat)
      case atStart => exact ⟨0, [], by omega, rfl, hid rfl, World.ownsRow_nil _ _ _ _, hb8⟩
      case round =>
        obtain ⟨j, ys, hj, rfl, hys, ho, hb⟩ := hrel
        by_cases hjt : (j : Int) < xs.length
        · have hil : j < xs.length := by omega
          obtain ⟨b, o, nm, ar, ao, n, cap, r, a0, a1, a2, e0, e2, hU⟩ := stp_at h j hil
          have hn := rd_n hU
          have c0 := below_cell hb a0
          have c1 := below_cell hb a1
          have c2 := below_cell hb a2
          have hNL : LB nm = xs[j].1 := by rw [← e0]; exact LB_nums _ (bx _ (List.getElem_mem hil)).1
          have hAL : LB ar = xs[j].2.2 := by rw [← e2]; exact LB_nums _ (bx _ (List.getElem_mem hil)).2
          have hNs : nm.size ≤ 100000000000 := by rw [← LB_len, hNL]; exact (hsz _ (List.getElem_mem hil)).1
          have hAs : ar.size ≤ 100000000000 := by rw [← LB_len, hAL]; exact (hsz _ (List.getElem_mem hil)).2.2
          have hyl : (ys.length : Int) ≤ 100000000000 := by have h1 := shp_take xs j; rw [hys.out]; omega
          have hF : shpT (xs.take (j + 1)) = ys ++ 47 :: bodT xs[j] := by rw [List.take_succ_eq_append_getElem hil, shp_snoc, hys.out]
          have hol := shp_take xs (j + 1)
          rw [hF] at hol
          have cu := fun w (g : Rd .u32 w (.slice ao n cap) xs[j].2.1) => w_rsunit _ _ w g (cx _ (List.getElem_mem hil)) (by have := (hsz _ (List.getElem_mem hil)).2.1; omega)
          have st0 := stands_new wr #[.string nm, .slice ao n cap, .string ar] 40
          have ho0 := World.ownsRow.alloc ho (.cells #[.string nm, .slice ao n cap, .string ar] 40)
          have hb0 := hb.alloc hb.size (.cells #[.string nm, .slice ao n cap, .string ar] 40)
          have hao : ar.size = xs[j].2.2.length := by rw [← LB_len, hAL]
          have hnl : nm.size = xs[j].1.length := by rw [← LB_len, hNL]
          unfold bodT at hF hol
          rw [← hNL, ← hAL] at hF
          simp only [List.length_append, List.length_cons] at hol
          have hcu := cx _ (List.getElem_mem hil)
          obtain ⟨u, hu⟩ : ∃ u, xs[j].2.1 = u := ⟨_, rfl⟩
          simp only [hu] at hF cu hU hn hol hcu
          have hA0 : (LB ar = []) ↔ ar.size = 0 := by rw [← List.length_eq_zero_iff, LB_len]
          have HNn := hid hn
          clear e0 e2 hNL hAL hu hn
          rcases Nat.eq_zero_or_pos u.length with hu0 | hu0
          · have hn0 : ¬ (0 : Int) < n := by have := HNn.out; omega
            have hue : u = [] := List.eq_nil_of_length_eq_zero hu0
            rw [if_pos hue, List.nil_append] at hF
            clear hu0 cu
            rcases Nat.eq_zero_or_pos ar.size with ha0 | ha0
            · rw [if_pos (hA0.2 ha0), List.append_nil] at hF
              have q1 : (ar.toList == []) = true := by rw [beq_iff_eq, ByteArray.toList_eq]; exact List.eq_nil_of_length_eq_zero (by simpa using ha0)
              have q2 : (ar.toList != []) = false := by simp [bne, q1]
              have q3 : ar.toList.isEmpty = true := by rw [← q1]; cases ar.toList <;> rfl
              clear hA0 hue
              go_upto_region 12 with (fail)
              obtain ⟨w0, hw0⟩ : ∃ w0, wr.alloc (.cells #[.string nm, .slice ao n cap, .string ar] 40) = w0 := ⟨_, rfl⟩
              rw [hw0] at st0 ho0 hb0 ⊢
              clear hw0
              have ho0x := World.ownsRow.alloc ho0 (.cells #[.int .u8 47] 5)
              have hb0x := hb0.alloc hb0.size (.cells #[.int .u8 47] 5)
              have st0x := st0.below (box_below _ (.cells #[.int .u8 47] 5))
              go_upto_region 13 with (at_builtin; refine wpList_append_rd (k := .u8) rfl _ _ 51 rfl w.heap.size 5 i0 1 Tryd.underlying51 hi0 hz0 hz1 hz2 _ ys rfl ho0x _ [47] rfl (rd_one _ 47 5) (by unfold maxLen; simp only [List.length_cons, List.length_nil]; omega) (by simp only [List.length_cons, List.length_nil]; omega) hb0x.size ?_; intro v1 w1 ho1 hg1)
              have hb1 := below_grown hb0x hg1 (fun k hk => (World.ownsRow.lt ho0x k hk).1)
              have st1 := st0x.grown hg1 (stands_apart st0x ho0x (by decide))
              obtain ⟨Y1, hY1⟩ : ∃ Y1, ys ++ [47] = Y1 := ⟨_, rfl⟩
              have hY1l : (Y1.length : Int) = ys.length + 1 := by rw [← hY1, List.length_append]; simp [LB_len]
              rw [hY1] at ho1
              have z0 := st1.cell 0 _ rfl
              go_upto_region 14 with ((at_builtin; refine wpList_append_rds rfl _ _ 51 9 rfl w.heap.size 5 i0 Tryd.underlying51 Tryd.underlying9 hi0 hz0 hz1 hz2 _ Y1 rfl ho1 nm rfl (by unfold maxLen; omega) (by omega) hb1.size ?_; intro v2 w2 ho2 hg2))
              have hb2 := below_grown hb1 hg2 (fun k hk => (World.ownsRow.lt ho1 k hk).1)
              have st2 := st1.grown hg2 (stands_apart st1 ho1 (by decide))
              obtain ⟨Y2, hY2⟩ : ∃ Y2, Y1 ++ LB nm = Y2 := ⟨_, rfl⟩
              have hY2l : (Y2.length : Int) = Y1.length + nm.size := by rw [← hY2, List.length_append]; simp [LB_len]
              rw [hY2] at ho2
              have z1 := st2.cell 1 _ rfl
              have z2 := st2.cell 2 _ rfl
              go_wp2_with fail
              have hR : Hid (Y2 = shpT (xs.take (j + 1))) := by show _ = _; rw [hF, ← hY2, ← hY1]; simp
              go_roundw
              case rel => exact ⟨j + 1, Y2, by omega, by go_num, hR, ho2, hb2⟩
              case measure => simp [intOf]; omega
            · rw [if_neg (fun g => by have := hA0.1 g; omega)] at hF
              have q1 : (ar.toList == []) = false := by rw [Bool.eq_false_iff]; intro g; rw [beq_iff_eq, ByteArray.toList_eq] at g; have h9 := congrArg List.length g; rw [List.length_nil] at h9; have e9 : ar.data.toList.length = ar.size := (by simp); omega
              have q2 : (ar.toList != []) = true := by simp [bne, q1]
              have q3 : ar.toList.isEmpty = false := by rw [← q1]; cases ar.toList <;> rfl
              clear hA0 hue
              go_upto_region 12 with (fail)
              obtain ⟨w0, hw0⟩ : ∃ w0, wr.alloc (.cells #[.string nm, .slice ao n cap, .string ar] 40) = w0 := ⟨_, rfl⟩
              rw [hw0] at st0 ho0 hb0 ⊢
              clear hw0
              have ho0x := World.ownsRow.alloc ho0 (.cells #[.int .u8 47] 5)
              have hb0x := hb0.alloc hb0.size (.cells #[.int .u8 47] 5)
              have st0x := st0.below (box_below _ (.cells #[.int .u8 47] 5))
              go_upto_region 13 with (at_builtin; refine wpList_append_rd (k := .u8) rfl _ _ 51 rfl w.heap.size 5 i0 1 Tryd.underlying51 hi0 hz0 hz1 hz2 _ ys rfl ho0x _ [47] rfl (rd_one _ 47 5) (by unfold maxLen; simp only [List.length_cons, List.length_nil]; omega) (by simp only [List.length_cons, List.length_nil]; omega) hb0x.size ?_; intro v1 w1 ho1 hg1)
              have hb1 := below_grown hb0x hg1 (fun k hk => (World.ownsRow.lt ho0x k hk).1)
              have st1 := st0x.grown hg1 (stands_apart st0x ho0x (by decide))
              obtain ⟨Y1, hY1⟩ : ∃ Y1, ys ++ [47] = Y1 := ⟨_, rfl⟩
              have hY1l : (Y1.length : Int) = ys.length + 1 := by rw [← hY1, List.length_append]; simp [LB_len]
              rw [hY1] at ho1
              have z0 := st1.cell 0 _ rfl
              go_upto_region 14 with ((at_builtin; refine wpList_append_rds rfl _ _ 51 9 rfl w.heap.size 5 i0 Tryd.underlying51 Tryd.underlying9 hi0 hz0 hz1 hz2 _ Y1 rfl ho1 nm rfl (by unfold maxLen; omega) (by omega) hb1.size ?_; intro v2 w2 ho2 hg2))
              have hb2 := below_grown hb1 hg2 (fun k hk => (World.ownsRow.lt ho1 k hk).1)
              have st2 := st1.grown hg2 (stands_apart st1 ho1 (by decide))
              obtain ⟨Y2, hY2⟩ : ∃ Y2, Y1 ++ LB nm = Y2 := ⟨_, rfl⟩
              have hY2l : (Y2.length : Int) = Y1.length + nm.size := by rw [← hY2, List.length_append]; simp [LB_len]
              rw [hY2] at ho2
              have z1 := st2.cell 1 _ rfl
              have z2 := st2.cell 2 _ rfl
              go_upto_region 18 with (fail)
              have ho2x := World.ownsRow.alloc ho2 (.cells #[.int .u8 58] 5)
              have hb2x := hb2.alloc hb2.size (.cells #[.int .u8 58] 5)
              have st2x := st2.below (box_below _ (.cells #[.int .u8 58] 5))
              go_upto_region 19 with (at_builtin; refine wpList_append_rd (k := .u8) rfl _ _ 51 rfl w.heap.size 5 i0 1 Tryd.underlying51 hi0 hz0 hz1 hz2 _ Y2 rfl ho2x _ [58] rfl (rd_one _ 58 5) (by unfold maxLen; simp only [List.length_cons, List.length_nil]; omega) (by simp only [List.length_cons, List.length_nil]; omega) hb2x.size ?_; intro v3 w3 ho3 hg3)
              have hb3 := below_grown hb2x hg3 (fun k hk => (World.ownsRow.lt ho2x k hk).1)
              have st3 := st2x.grown hg3 (stands_apart st2x ho2x (by decide))
              obtain ⟨Y7, hY7⟩ : ∃ Y7, Y2 ++ [58] = Y7 := ⟨_, rfl⟩
              have hY7l : (Y7.length : Int) = Y2.length + 1 := by rw [← hY7, List.length_append]; simp [LB_len]
              rw [hY7] at ho3
              have z7 := st3.cell 2 _ rfl
              go_wp2_with ((at_builtin; refine wpList_append_rds rfl _ _ 51 9 rfl w.heap.size 5 i0 Tryd.underlying51 Tryd.underlying9 hi0 hz0 hz1 hz2 _ Y7 rfl ho3 ar rfl (by unfold maxLen; omega) (by omega) hb3.size ?_; intro v4 w4 ho4 hg4))
              have hb4 := below_grown hb3 hg4 (fun k hk => (World.ownsRow.lt ho3 k hk).1)
              have hR : Hid (Y7 ++ LB ar = shpT (xs.take (j + 1))) := by show _ = _; rw [hF, ← hY7, ← hY2, ← hY1]; simp
              go_roundw
              case rel => exact ⟨j + 1, Y7 ++ LB ar, by omega, by go_num, hR, ho4, hb4⟩
              case measure => simp [intOf]; omega
          · have hn0 : (0 : Int) < n := by have := HNn.out; omega
            have hue : ¬ u = [] := by intro g; rw [g] at hu0; simp at hu0
            rw [if_neg hue] at hF hol
            rw [List.length_cons] at hol
            have hsb : LB (strOfNums (shoF u)) = shoF u := LB_nums _ (shoF_bytes u hcu)
            have hss : (strOfNums (shoF u)).size = (shoF u).length := toB_size _
            obtain ⟨S, hS⟩ : ∃ S, strOfNums (shoF u) = S := ⟨_, rfl⟩
            simp only [hS] at cu hsb hss
            rw [← hsb] at hF
            clear hu0 hS hsb
            rcases Nat.eq_zero_or_pos ar.size with ha0 | ha0
            · rw [if_pos (hA0.2 ha0), List.append_nil] at hF
              have q1 : (ar.toList == []) = true := by rw [beq_iff_eq, ByteArray.toList_eq]; exact List.eq_nil_of_length_eq_zero (by simpa using ha0)
              have q2 : (ar.toList != []) = false := by simp [bne, q1]
              have q3 : ar.toList.isEmpty = true := by rw [← q1]; cases ar.toList <;> rfl
              clear hA0 hue
              go_upto_region 12 with (fail)
              obtain ⟨w0, hw0⟩ : ∃ w0, wr.alloc (.cells #[.string nm, .slice ao n cap, .string ar] 40) = w0 := ⟨_, rfl⟩
              rw [hw0] at st0 ho0 hb0 ⊢
              clear hw0
              have ho0x := World.ownsRow.alloc ho0 (.cells #[.int .u8 47] 5)
              have hb0x := hb0.alloc hb0.size (.cells #[.int .u8 47] 5)
              have st0x := st0.below (box_below _ (.cells #[.int .u8 47] 5))
              go_upto_region 13 with (at_builtin; refine wpList_append_rd (k := .u8) rfl _ _ 51 rfl w.heap.size 5 i0 1 Tryd.underlying51 hi0 hz0 hz1 hz2 _ ys rfl ho0x _ [47] rfl (rd_one _ 47 5) (by unfold maxLen; simp only [List.length_cons, List.length_nil]; omega) (by simp only [List.length_cons, List.length_nil]; omega) hb0x.size ?_; intro v1 w1 ho1 hg1)
              have hb1 := below_grown hb0x hg1 (fun k hk => (World.ownsRow.lt ho0x k hk).1)
              have st1 := st0x.grown hg1 (stands_apart st0x ho0x (by decide))
              obtain ⟨Y1, hY1⟩ : ∃ Y1, ys ++ [47] = Y1 := ⟨_, rfl⟩
              have hY1l : (Y1.length : Int) = ys.length + 1 := by rw [← hY1, List.length_append]; simp [LB_len]
              rw [hY1] at ho1
              have z0 := st1.cell 0 _ rfl
              go_upto_region 14 with ((at_builtin; refine wpList_append_rds rfl _ _ 51 9 rfl w.heap.size 5 i0 Tryd.underlying51 Tryd.underlying9 hi0 hz0 hz1 hz2 _ Y1 rfl ho1 nm rfl (by unfold maxLen; omega) (by omega) hb1.size ?_; intro v2 w2 ho2 hg2))
              have hb2 := below_grown hb1 hg2 (fun k hk => (World.ownsRow.lt ho1 k hk).1)
              have st2 := st1.grown hg2 (stands_apart st1 ho1 (by decide))
              obtain ⟨Y2, hY2⟩ : ∃ Y2, Y1 ++ LB nm = Y2 := ⟨_, rfl⟩
              have hY2l : (Y2.length : Int) = Y1.length + nm.size := by rw [← hY2, List.length_append]; simp [LB_len]
              rw [hY2] at ho2
              have z1 := st2.cell 1 _ rfl
              have z2 := st2.cell 2 _ rfl
              go_upto_region 15 with (fail)
              have ho2x := World.ownsRow.alloc ho2 (.cells #[.int .u8 64] 5)
              have hb2x := hb2.alloc hb2.size (.cells #[.int .u8 64] 5)
              have st2x := st2.below (box_below _ (.cells #[.int .u8 64] 5))
              go_upto_region 16 with (at_builtin; refine wpList_append_rd (k := .u8) rfl _ _ 51 rfl w.heap.size 5 i0 1 Tryd.underlying51 hi0 hz0 hz1 hz2 _ Y2 rfl ho2x _ [64] rfl (rd_one _ 64 5) (by unfold maxLen; simp only [List.length_cons, List.length_nil]; omega) (by simp only [List.length_cons, List.length_nil]; omega) hb2x.size ?_; intro v3 w3 ho3 hg3)
              have hb3 := below_grown hb2x hg3 (fun k hk => (World.ownsRow.lt ho2x k hk).1)
              have st3 := st2x.grown hg3 (stands_apart st2x ho2x (by decide))
              obtain ⟨Y3, hY3⟩ : ∃ Y3, Y2 ++ [64] = Y3 := ⟨_, rfl⟩
              have hY3l : (Y3.length : Int) = Y2.length + 1 := by rw [← hY3, List.length_append]; simp [LB_len]
              rw [hY3] at ho3
              have z3 := st3.cell 1 _ rfl
              go_upto_region 17 with (first | (go_at_call 30; refine (cu _ (hU.below hb3)).mono ?_; rintro e w4 ⟨rfl, b4⟩; have ho4 := own_below ho3 b4; have hb4 := below_trans hb3 b4; have st4 := st3.below b4) | (at_builtin; refine wpList_append_rds rfl _ _ 51 9 rfl w.heap.size 5 i0 Tryd.underlying51 Tryd.underlying9 hi0 hz0 hz1 hz2 _ Y3 rfl ho4 S rfl (by unfold maxLen; omega) (by omega) hb4.size ?_; intro v5 w5 ho5 hg5))
              have hb5 := below_grown hb4 hg5 (fun k hk => (World.ownsRow.lt ho4 k hk).1)
              have st5 := st4.grown hg5 (stands_apart st4 ho4 (by decide))
              obtain ⟨Y5, hY5⟩ : ∃ Y5, Y3 ++ LB S = Y5 := ⟨_, rfl⟩
              have hY5l : (Y5.length : Int) = Y3.length + S.size := by rw [← hY5, List.length_append]; simp [LB_len]
              rw [hY5] at ho5
              have z5 := st5.cell 2 _ rfl
              go_wp2_with fail
              have hR : Hid (Y5 = shpT (xs.take (j + 1))) := by show _ = _; rw [hF, ← hY5, ← hY3, ← hY2, ← hY1]; simp
              go_roundw
              case rel => exact ⟨j + 1, Y5, by omega, by go_num, hR, ho5, hb5⟩
              case measure => simp [intOf]; omega
            · rw [if_neg (fun g => by have := hA0.1 g; omega)] at hF
              have q1 : (ar.toList == []) = false := by rw [Bool.eq_false_iff]; intro g; rw [beq_iff_eq, ByteArray.toList_eq] at g; have h9 := congrArg List.length g; rw [List.length_nil] at h9; have e9 : ar.data.toList.length = ar.size := (by simp); omega
              have q2 : (ar.toList != []) = true := by simp [bne, q1]
              have q3 : ar.toList.isEmpty = false := by rw [← q1]; cases ar.toList <;> rfl
              clear hA0 hue
              go_upto_region 12 with (fail)
              obtain ⟨w0, hw0⟩ : ∃ w0, wr.alloc (.cells #[.string nm, .slice ao n cap, .string ar] 40) = w0 := ⟨_, rfl⟩
              rw [hw0] at st0 ho0 hb0 ⊢
              clear hw0
              have ho0x := World.ownsRow.alloc ho0 (.cells #[.int .u8 47] 5)
              have hb0x := hb0.alloc hb0.size (.cells #[.int .u8 47] 5)
              have st0x := st0.below (box_below _ (.cells #[.int .u8 47] 5))
              go_upto_region 13 with (at_builtin; refine wpList_append_rd (k := .u8) rfl _ _ 51 rfl w.heap.size 5 i0 1 Tryd.underlying51 hi0 hz0 hz1 hz2 _ ys rfl ho0x _ [47] rfl (rd_one _ 47 5) (by unfold maxLen; simp only [List.length_cons, List.length_nil]; omega) (by simp only [List.length_cons, List.length_nil]; omega) hb0x.size ?_; intro v1 w1 ho1 hg1)
              have hb1 := below_grown hb0x hg1 (fun k hk => (World.ownsRow.lt ho0x k hk).1)
              have st1 := st0x.grown hg1 (stands_apart st0x ho0x (by decide))
              obtain ⟨Y1, hY1⟩ : ∃ Y1, ys ++ [47] = Y1 := ⟨_, rfl⟩
              have hY1l : (Y1.length : Int) = ys.length + 1 := by rw [← hY1, List.length_append]; simp [LB_len]
              rw [hY1] at ho1
              have z0 := st1.cell 0 _ rfl
              go_upto_region 14 with ((at_builtin; refine wpList_append_rds rfl _ _ 51 9 rfl w.heap.size 5 i0 Tryd.underlying51 Tryd.underlying9 hi0 hz0 hz1 hz2 _ Y1 rfl ho1 nm rfl (by unfold maxLen; omega) (by omega) hb1.size ?_; intro v2 w2 ho2 hg2))
              have hb2 := below_grown hb1 hg2 (fun k hk => (World.ownsRow.lt ho1 k hk).1)
              have st2 := st1.grown hg2 (stands_apart st1 ho1 (by decide))
              obtain ⟨Y2, hY2⟩ : ∃ Y2, Y1 ++ LB nm = Y2 := ⟨_, rfl⟩
              have hY2l : (Y2.length : Int) = Y1.length + nm.size := by rw [← hY2, List.length_append]; simp [LB_len]
              rw [hY2] at ho2
              have z1 := st2.cell 1 _ rfl
              have z2 := st2.cell 2 _ rfl
              go_upto_region 15 with (fail)
              have ho2x := World.ownsRow.alloc ho2 (.cells #[.int .u8 64] 5)
              have hb2x := hb2.alloc hb2.size (.cells #[.int .u8 64] 5)
              have st2x := st2.below (box_below _ (.cells #[.int .u8 64] 5))
              go_upto_region 16 with (at_builtin; refine wpList_append_rd (k := .u8) rfl _ _ 51 rfl w.heap.size 5 i0 1 Tryd.underlying51 hi0 hz0 hz1 hz2 _ Y2 rfl ho2x _ [64] rfl (rd_one _ 64 5) (by unfold maxLen; simp only [List.length_cons, List.length_nil]; omega) (by simp only [List.length_cons, List.length_nil]; omega) hb2x.size ?_; intro v3 w3 ho3 hg3)
              have hb3 := below_grown hb2x hg3 (fun k hk => (World.ownsRow.lt ho2x k hk).1)
              have st3 := st2x.grown hg3 (stands_apart st2x ho2x (by decide))
              obtain ⟨Y3, hY3⟩ : ∃ Y3, Y2 ++ [64] = Y3 := ⟨_, rfl⟩
              have hY3l : (Y3.length : Int) = Y2.length + 1 := by rw [← hY3, List.length_append]; simp [LB_len]
              rw [hY3] at ho3
              have z3 := st3.cell 1 _ rfl
              go_upto_region 17 with (first | (go_at_call 30; refine (cu _ (hU.below hb3)).mono ?_; rintro e w4 ⟨rfl, b4⟩; have ho4 := own_below ho3 b4; have hb4 := below_trans hb3 b4; have st4 := st3.below b4) | (at_builtin; refine wpList_append_rds rfl _ _ 51 9 rfl w.heap.size 5 i0 Tryd.underlying51 Tryd.underlying9 hi0 hz0 hz1 hz2 _ Y3 rfl ho4 S rfl (by unfold maxLen; omega) (by omega) hb4.size ?_; intro v5 w5 ho5 hg5))
              have hb5 := below_grown hb4 hg5 (fun k hk => (World.ownsRow.lt ho4 k hk).1)
              have st5 := st4.grown hg5 (stands_apart st4 ho4 (by decide))
              obtain ⟨Y5, hY5⟩ : ∃ Y5, Y3 ++ LB S = Y5 := ⟨_, rfl⟩
              have hY5l : (Y5.length : Int) = Y3.length + S.size := by rw [← hY5, List.length_append]; simp [LB_len]
              rw [hY5] at ho5
              have z5 := st5.cell 2 _ rfl
              go_upto_region 18 with (fail)
              have ho5x := World.ownsRow.alloc ho5 (.cells #[.int .u8 58] 5)
              have hb5x := hb5.alloc hb5.size (.cells #[.int .u8 58] 5)
              have st5x := st5.below (box_below _ (.cells #[.int .u8 58] 5))
              go_upto_region 19 with (at_builtin; refine wpList_append_rd (k := .u8) rfl _ _ 51 rfl w.heap.size 5 i0 1 Tryd.underlying51 hi0 hz0 hz1 hz2 _ Y5 rfl ho5x _ [58] rfl (rd_one _ 58 5) (by unfold maxLen; simp only [List.length_cons, List.length_nil]; omega) (by simp only [List.length_cons, List.length_nil]; omega) hb5x.size ?_; intro v6 w6 ho6 hg6)
              have hb6 := below_grown hb5x hg6 (fun k hk => (World.ownsRow.lt ho5x k hk).1)
              have st6 := st5x.grown hg6 (stands_apart st5x ho5x (by decide))
              obtain ⟨Y7, hY7⟩ : ∃ Y7, Y5 ++ [58] = Y7 := ⟨_, rfl⟩
              have hY7l : (Y7.length : Int) = Y5.length + 1 := by rw [← hY7, List.length_append]; simp [LB_len]
              rw [hY7] at ho6
              have z7 := st6.cell 2 _ rfl
              go_wp2_with ((at_builtin; refine wpList_append_rds rfl _ _ 51 9 rfl w.heap.size 5 i0 Tryd.underlying51 Tryd.underlying9 hi0 hz0 hz1 hz2 _ Y7 rfl ho6 ar rfl (by unfold maxLen; omega) (by omega) hb6.size ?_; intro v7 w7 ho7 hg7))
              have hb7 := below_grown hb6 hg7 (fun k hk => (World.ownsRow.lt ho6 k hk).1)
              have hR : Hid (Y7 ++ LB ar = shpT (xs.take (j + 1))) := by show _ = _; rw [hF, ← hY7, ← hY5, ← hY3, ← hY2, ← hY1]; simp
              go_roundw
              case rel => exact ⟨j + 1, Y7 ++ LB ar, by omega, by go_num, hR, ho7, hb7⟩
              case measure => simp [intOf]; omega
        · have hfin : Hid (ys = shpT xs) := by
            show _ = _
            rw [hys.out, List.take_of_length_le (by omega)]
          have hlo := rd_len (Rd_own ho).1 uB (P := Tryd.prog)
          have cs := rd_strT (Rd_own ho).1
          rcases Nat.eq_zero_or_pos xs.length with hx0 | hx0
          · have e : Hid (shpF xs = ([47], 0)) := by
              show _ = _
              have : xs = [] := List.eq_nil_of_length_eq_zero hx0
              rw [this]
              rfl
            have hxb : ((xs.length : Int) == 0) = true := by simp; exact List.eq_nil_of_length_eq_zero hx0
            have es : strOfNums [47] = ⟨#[47]⟩ := by decide +kernel
            clear hx0
            go_wp2_with fail
            go_ret2
            obtain ⟨rfl, rfl⟩ := Prod.mk.inj (HAE.out.symm.trans e.out)
            rw [es]
            exact ⟨rfl, hb⟩
          · have hxb : ((xs.length : Int) == 0) = false := by rw [Bool.eq_false_iff]; intro g; rw [beq_iff_eq] at g; omega
            have hxe : ¬ xs = [] := by intro g; rw [g] at hx0; simp at hx0
            by_cases h256 : (256 : Int) < ys.length
            · have e : Hid (shpF xs = ([], 3)) := by
                show _ = _
                unfold shpF
                rw [if_neg (by rw [hok.out]; decide), if_neg hxe, if_pos (by rw [← hfin.out]; omega)]
              have es : strOfNums ([] : List Int) = ⟨#[]⟩ := by decide +kernel
              clear hx0 hxe
              go_wp2_with fail
              go_ret2
              obtain ⟨rfl, rfl⟩ := Prod.mk.inj (HAE.out.symm.trans e.out)
              rw [es]
              exact ⟨rfl, hb⟩
            · have e : Hid (shpF xs = (ys, 0)) := by
                show _ = _
                unfold shpF
                rw [if_neg (by rw [hok.out]; decide), if_neg hxe, if_neg (by rw [← hfin.out]; omega), hfin.out]
              clear hx0 hxe
              go_wp2_with fail
              go_ret2
              obtain ⟨rfl, rfl⟩ := Prod.mk.inj (HAE.out.symm.trans e.out)
              exact ⟨rfl, hb⟩
end Go.Proofs.YtmjgiaomijghoaaDoor
