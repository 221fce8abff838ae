/-
  Rows of numbers and of texts that are encoded are decoded as they were, and a unit address shown is parsed as itself.
-/
import Derived.Test.YtamhcpejebonmabDoorRows
import Derived.WalkKit
import Derived.ProofKit
import Derived.OpenShut
import Derived.ShutString
import Derived.ChangeOld
import Derived.Below
import Derived.Carry
import Derived.SizedLaws
import Derived.Deep.DeepHandedRow
import Derived.SevenTiedAt
import Derived.Test.YtamhcpejebonmabDoorCards
import Derived.Test.YtamhcpejebonmabDoorTie
import Derived.Test.YtamhcpejebonmabDoorSl
import Derived.Test.YtamhcpejebonmabDoorPal
import Derived.Test.YtamhcpejebonmabDoorSg
import Derived.Test.YtamhcpejebonmabDoorPtb
namespace Go.Proofs.YtamhcpejebonmabDoor.propBack
open Go.ChangeShapes Go.WideShapes Go.ChangeAt Go.RowKit
open Go.ChangeMaps (open_string shut_string)
set_option linter.unusedVariables false

theorem own : ownKnob Tryd.prog.godebug = none := by kernel_rfl
theorem laidOut : laidOutB Tryd.prog = true := by kernel_rfl
theorem bytes27 : Tryd.prog.bytesOf 27 = 4 := by kernel_rfl

set_option maxHeartbeats 4000000 in
set_option maxRecDepth 100000 in
theorem walk (v0 : Value) (x0 : List Int) (v1 : Value) (x1 : List ByteArray) (w : World) (hT : Tab w) (r0 : Rd .u32 w v0 x0) (f0 : ∀ n ∈ x0, (Lit.int .u32 n).wf = true) (z0 : x0.length * 4 ≤ 140737488351232) (r1 : SlR 1 strR w v1 x1) :
    Calls Tryd.prog 3 #[v0, v1] w fun e w' => e = .returned (.bool true) ∧ Below w.heap.size w w' := by
  have hC := wf_cells f0
  have hl0 := rd_len r0 uU (P := Tryd.prog)
  have hl1 := slr_len r1 uS (P := Tryd.prog)
  have hm1 := slr_max r1
  unfold maxLen at hm1
  obtain ⟨i0, hi, hz0, hz1, hz2⟩ := info_parts infoU8
  by_cases hbig : (10000 : Int) < x0.length
  · go_enter Tryd.func3, Tryd.ntmps3
    go_wp2_with (go_at_call 4; refine (w_alive _ hT).mono ?_; rintro e q1 ⟨rfl, b1⟩)
    go_ret
    exact ⟨rfl, b1⟩
  · go_enter Tryd.func3, Tryd.ntmps3
    go_wp2_with (go_at_call 4; refine (w_alive _ hT).mono ?_; rintro e q1 ⟨rfl, b1⟩)
    go_loopw [5, 7] (fun U I wx => ∃ (k : Nat) (ys : List Int), (k : Int) ≤ x0.length ∧ I = .int .i64 k ∧ Hid (ys = ((x0.take k).map (beB 4)).flatten) ∧ (ys.length : Int) = 4 * k ∧ Own8 w.heap.size wx U ys ∧ Below w.heap.size w wx) (fun _ I _ => (x0.length - intOf I).toNat)
    case atStart => exact ⟨0, [], by omega, rfl, hid rfl, by simp, World.ownsRow_nil _ _ _ _, b1⟩
    case round =>
      obtain ⟨k, ys, hk, rfl, hys, hyl, ho, hb⟩ := hrel
      by_cases hlt : (k : Int) < x0.length
      · have hkk : k < x0.length := by omega
        obtain ⟨ad, g1, cw⟩ := rd_idx r0 uU zU k (by omega) hlt
        have hx := hC x0[k] (List.getElem_mem hkk)
        have hgk : x0.getD (k : Int).toNat 0 = x0[k] := by rw [Int.toNat_natCast, List.getD_eq_getElem?_getD, List.getElem?_eq_getElem hkk]; rfl
        rw [hgk] at cw
        have htk : x0.take (k + 1) = x0.take k ++ [x0[k]] := List.take_succ_eq_append_getElem hkk
        obtain ⟨x, hxx⟩ : ∃ x, x0[k] = x := ⟨_, rfl⟩
        rw [hxx] at cw hx htk
        have c1 := below_cell hb cw
        have ce := w_pencint x wr hx.1 hx.2
        have hys2 : Hid (ys ++ beB 4 x = ((x0.take (k + 1)).map (beB 4)).flatten) := by
          show _ = _
          rw [htk, List.map_append, List.flatten_append, hys.out]
          simp
        have hbl := beB_len 4 x
        obtain ⟨X, hX⟩ : ∃ X, beB 4 x = X := ⟨_, rfl⟩
        rw [hX] at ce hys2 hbl
        clear hxx hgk htk hX
        go_wp2_with (first
          | (go_at_call 5; refine ce.mono ?_; rintro e q2 ⟨v2, rfl, r2, b2⟩; have ho2 := own_below ho b2; have hb2 := below_trans hb b2)
          | (at_builtin; refine wpList_append_rd (k := .u8) rfl _ _ 25 rfl w.heap.size 5 i0 1 Tryd.underlying25 hi hz0 hz1 hz2 _ ys rfl ho2 _ X rfl r2 (by unfold maxLen; omega) (by omega) hb2.size ?_; intro v4 w4 ho4 hg4))
        have hb4 := below_grown hb2 hg4 (fun k hk => (ho2.lt k hk).1)
        go_roundw
        case rel => exact ⟨k + 1, ys ++ X, by omega, by go_num, hys2, by rw [List.length_append]; omega, ho4, hb4⟩
        case measure => simp [intOf]; omega
      · obtain ⟨wa, hwa⟩ : ∃ wa, wa = wr := ⟨_, rfl⟩
        subst hwa
        have hA : Hid (ys = (x0.map (beB 4)).flatten) := by
          show _ = _
          rw [hys.out, List.take_of_length_le (by omega)]
        have hra := (Rd_own ho).1
        have hyb : Hid (bytesL ys) := by
          show bytesL ys
          rw [hA.out]
          intro z hz
          simp only [List.mem_flatten, List.mem_map] at hz
          obtain ⟨p, ⟨n, _, rfl⟩, hz⟩ := hz
          exact beB_bytes 4 n z hz
        clear hys ho
        go_wp2_with fail
        go_loopw [6, 8] (fun U I wx => ∃ (j : Nat) (bs : List Int), (j : Int) ≤ x1.length ∧ I = .int .i64 j ∧ Hid (bs = ((x1.take j).map (fun s => L s ++ [0])).flatten) ∧ (bs.length : Int) ≤ 100000 ∧ Hid (∀ s ∈ x1.take j, ∀ z ∈ L s, ¬ z = 0) ∧ Own8 wa.heap.size wx U bs ∧ Below wa.heap.size wa wx) (fun _ I _ => (x1.length - intOf I).toNat)
        case atStart => exact ⟨0, [], by omega, rfl, hid rfl, by simp, hid (fun s hs => by simp at hs), World.ownsRow_nil _ _ _ _, Below.refl _ _⟩
        case round =>
          obtain ⟨j, bs, hj, rfl, hbs, hbl, hnz, ho, hc⟩ := hrel
          have hlo := rd_len (Rd_own ho).1 uB (P := Tryd.prog)
          have hwr := below_trans hb hc
          by_cases hjt : (j : Int) < x1.length
          · have hjj : j < x1.length := by omega
            obtain ⟨ad, s, g1, cw, hsm, hse⟩ := str_at r1 j hjj
            have c1 := below_cell hwr cw
            have ce := w_penctext s wr hsm
            have htk : x1.take (j + 1) = x1.take j ++ [s] := by rw [List.take_succ_eq_append_getElem hjj, hse]
            unfold maxLen at hsm
            cases hz : (L s).all (fun c => decide (¬ c = 0))
            · have e : enTF (L s) = ([], 15) := by unfold enTF; rw [if_pos hz]
              rw [e] at ce
              clear e hz htk hse
              go_wp2_with (go_at_call 6; refine ce.mono ?_; rintro e q2 ⟨v2, rfl, r2, b2⟩)
              go_ret
              exact ⟨rfl, below_trans hwr b2⟩
            · by_cases h256 : (256 : Int) ≤ s.size
              · rw [enT_long (L s) hz (by rw [L_len]; omega)] at ce
                clear hz htk hse
                go_wp2_with (go_at_call 6; refine ce.mono ?_; rintro e q2 ⟨v2, rfl, r2, b2⟩; have c2 := below_cell b2 c1)
                go_ret
                exact ⟨rfl, below_trans hwr b2⟩
              · rw [enT_ok (L s) hz (by rw [L_len]; omega)] at ce
                have hXl : (L s ++ [0]).length = s.size + 1 := by simp [L_len]
                have hbs2 : Hid (bs ++ (L s ++ [0]) = ((x1.take (j + 1)).map (fun s => L s ++ [0])).flatten) := by
                  show _ = _
                  rw [htk, List.map_append, List.flatten_append, hbs.out]
                  simp
                have hnz2 : Hid (∀ t ∈ x1.take (j + 1), ∀ z ∈ L t, ¬ z = 0) := by
                  show ∀ t ∈ x1.take (j + 1), ∀ z ∈ L t, ¬ z = 0
                  rw [htk]
                  intro t ht
                  rw [List.mem_append] at ht
                  rcases ht with ht | ht
                  · exact hnz.out t ht
                  · simp at ht
                    subst ht
                    intro z hzz
                    rw [List.all_eq_true] at hz
                    simpa using hz z hzz
                obtain ⟨X, hX⟩ : ∃ X, L s ++ [0] = X := ⟨_, rfl⟩
                simp only [hX] at ce hXl hbs2
                clear hz htk hse hX
                by_cases hov : (100000 : Int) - bs.length < X.length
                · go_wp2_with (go_at_call 6; refine ce.mono ?_; rintro e q2 ⟨v2, rfl, r2, b2⟩; have hlx := rd_len r2 uB (P := Tryd.prog))
                  go_ret
                  exact ⟨rfl, below_trans hwr b2⟩
                · go_wp2_with (first
                    | (go_at_call 6; refine ce.mono ?_; rintro e q2 ⟨v2, rfl, r2, b2⟩; have hlx := rd_len r2 uB (P := Tryd.prog); have ho2 := own_below ho b2; have hb2 := below_trans hc b2)
                    | (at_builtin; refine wpList_append_rd (k := .u8) rfl _ _ 25 rfl wa.heap.size 5 i0 1 Tryd.underlying25 hi hz0 hz1 hz2 _ bs rfl ho2 _ X rfl r2 (by unfold maxLen; omega) (by omega) hb2.size ?_; intro v4 w4 ho4 hg4))
                  have hb4 := below_grown hb2 hg4 (fun k hk => (ho2.lt k hk).1)
                  go_roundw
                  case rel => exact ⟨j + 1, bs ++ X, by omega, by go_num, hbs2, by rw [List.length_append]; omega, hnz2, ho4, hb4⟩
                  case measure => simp [intOf]; omega
          · have hrb := (Rd_own ho).1
            have hB : bs = ((x1.map L).map (· ++ [0])).flatten := by
              rw [hbs.out, List.take_of_length_le (by omega), List.map_map]
              rfl
            have hnz3 : ∀ t ∈ x1.map L, ∀ z ∈ t, ¬ z = 0 := by
              intro t ht
              simp only [List.mem_map] at ht
              obtain ⟨s, hs, rfl⟩ := ht
              exact hnz.out s (by rw [List.take_of_length_le (by omega)]; exact hs)
            have hbb : bytesL bs := by
              rw [hB]
              intro z hz
              simp only [List.mem_flatten, List.mem_map] at hz
              obtain ⟨p, ⟨t, ⟨s, _, rfl⟩, rfl⟩, hz⟩ := hz
              rw [List.mem_append] at hz
              rcases hz with hz | hz
              · exact LB_bytes s z hz
              · simp at hz; omega
            have ci := w_pints _ ys wr (hra.below hc) hyb.out (by omega)
            have ct := fun v w h => w_ptexts v bs w h hbb (by omega)
            rw [hA.out, intF_back x0 hC] at ci
            have et : ((texsF bs).1.map strOfNums, (texsF bs).2) = (x1, (0 : Int)) := by
              rw [hB, texsF_back _ hnz3]
              simp only [List.map_map]
              have : x1.map (strOfNums ∘ L) = x1 := by
                conv => rhs; rw [← List.map_id x1]
                apply List.map_congr_left
                intro s _
                exact nums_LB s
              rw [this]
            obtain ⟨et1, et2⟩ := Prod.mk.inj et
            simp only [et1, et2] at ct
            have hzz : x0.length * 16 ≤ 140737488355328 := by omega
            have cs := fun w hT h => w_psunit v0 x0 w hT h hC hzz
            have hLS : L (strOfNums (shoF x0)) = shoF x0 := LB_nums _ (shoF_bytes x0 hC)
            have hSs : (strOfNums (shoF x0)).size ≤ 35184372088000 := by
              have h1 := shoT_len x0 hC
              have h2 : (strOfNums (shoF x0)).size = (shoF x0).length := toB_size _
              have h3 : (shoF x0).length ≤ (shoT x0).length := by unfold shoF; rw [List.length_drop]; omega
              omega
            have cp := fun w hT => w_ppunit (strOfNums (shoF x0)) w hT hSs
            rw [hLS, pun_back x0 hC] at cp
            obtain ⟨S, hS⟩ : ∃ S, strOfNums (shoF x0) = S := ⟨_, rfl⟩
            simp only [hS] at cs cp
            clear et et1 et2 hLS hSs hS hB hnz3
            by_cases hz0 : (x0.length : Int) = 0
            · have hx0 : x0 = [] := List.eq_nil_of_length_eq_zero (by omega)
              rw [if_pos hx0] at cp
              clear hx0
              go_wp2_with (first
                | (go_at_call 7; refine ci.mono ?_; rintro e q2 ⟨v2, rfl, r2, b2⟩; have g2 := hrb.below b2; have t2 := r0.below (below_trans hwr b2); have s2 := r1.below (below_trans hwr b2) strR_below)
                | (go_at_call 8; refine (ct _ _ g2).mono ?_; rintro e q3 ⟨v3, rfl, r3, b3⟩; have t3 := t2.below b3; have s3 := s2.below b3 strR_below))
              refine (w_r3same v2 v0 _ _ q3 (r2.below b3) t3).mono ?_
              rintro e q4 ⟨rfl, b4⟩
              have t4 := t3.below b4
              go_wp2_with (first
                | (go_at_call 10; refine (w_lsame v3 v1 _ _ q4 (r3.below b4 strR_below) (s3.below b4 strR_below)).mono ?_; rintro e q5 ⟨rfl, b5⟩; have t5 := t4.below b5; have T5 := hT.below (below_trans (below_trans (below_trans (below_trans hwr b2) b3) b4) b5))
                | (go_at_call 12; refine (cs _ T5 t5).mono ?_; rintro e q6 ⟨rfl, b6⟩; have t6 := t5.below b6; have T6 := T5.below b6)
                | (go_at_call 11; refine (cp _ T6).mono ?_; rintro e q7 ⟨v7, rfl, r7, b7⟩; have t7 := t6.below b7))
              go_ret
              exact ⟨rfl, below_trans (below_trans (below_trans (below_trans (below_trans (below_trans hwr b2) b3) b4) b5) b6) b7⟩
            · have hx0 : ¬ x0 = [] := by intro h; rw [h] at hz0; simp at hz0
              rw [if_neg hx0] at cp
              have hb0 : ((x0.length : Int) == 0) = false := by simpa using hz0
              clear hx0 hz0
              by_cases h4 : (4 : Int) < x0.length
              · rw [if_pos (by omega)] at cp
                go_wp2_with (first
                  | (go_at_call 7; refine ci.mono ?_; rintro e q2 ⟨v2, rfl, r2, b2⟩; have g2 := hrb.below b2; have t2 := r0.below (below_trans hwr b2); have s2 := r1.below (below_trans hwr b2) strR_below)
                  | (go_at_call 8; refine (ct _ _ g2).mono ?_; rintro e q3 ⟨v3, rfl, r3, b3⟩; have t3 := t2.below b3; have s3 := s2.below b3 strR_below))
                refine (w_r3same v2 v0 _ _ q3 (r2.below b3) t3).mono ?_
                rintro e q4 ⟨rfl, b4⟩
                have t4 := t3.below b4
                go_wp2_with (first
                  | (go_at_call 10; refine (w_lsame v3 v1 _ _ q4 (r3.below b4 strR_below) (s3.below b4 strR_below)).mono ?_; rintro e q5 ⟨rfl, b5⟩; have t5 := t4.below b5; have T5 := hT.below (below_trans (below_trans (below_trans (below_trans hwr b2) b3) b4) b5))
                  | (go_at_call 12; refine (cs _ T5 t5).mono ?_; rintro e q6 ⟨rfl, b6⟩; have t6 := t5.below b6; have T6 := T5.below b6)
                  | (go_at_call 11; refine (cp _ T6).mono ?_; rintro e q7 ⟨v7, rfl, r7, b7⟩; have t7 := t6.below b7))
                go_ret
                exact ⟨rfl, below_trans (below_trans (below_trans (below_trans (below_trans (below_trans hwr b2) b3) b4) b5) b6) b7⟩
              · rw [if_neg (by omega)] at cp
                go_wp2_with (first
                  | (go_at_call 7; refine ci.mono ?_; rintro e q2 ⟨v2, rfl, r2, b2⟩; have g2 := hrb.below b2; have t2 := r0.below (below_trans hwr b2); have s2 := r1.below (below_trans hwr b2) strR_below)
                  | (go_at_call 8; refine (ct _ _ g2).mono ?_; rintro e q3 ⟨v3, rfl, r3, b3⟩; have t3 := t2.below b3; have s3 := s2.below b3 strR_below))
                refine (w_r3same v2 v0 _ _ q3 (r2.below b3) t3).mono ?_
                rintro e q4 ⟨rfl, b4⟩
                have t4 := t3.below b4
                go_wp2_with (first
                  | (go_at_call 10; refine (w_lsame v3 v1 _ _ q4 (r3.below b4 strR_below) (s3.below b4 strR_below)).mono ?_; rintro e q5 ⟨rfl, b5⟩; have t5 := t4.below b5; have T5 := hT.below (below_trans (below_trans (below_trans (below_trans hwr b2) b3) b4) b5))
                  | (go_at_call 12; refine (cs _ T5 t5).mono ?_; rintro e q6 ⟨rfl, b6⟩; have t6 := t5.below b6; have T6 := T5.below b6)
                  | (go_at_call 11; refine (cp _ T6).mono ?_; rintro e q7 ⟨v7, rfl, r7, b7⟩; have t7 := t6.below b7))
                refine (w_r3same v7 v0 _ _ q7 r7 t7).mono ?_
                rintro e q8 ⟨rfl, b8⟩
                go_wp2_with fail
                go_ret
                exact ⟨rfl, below_trans (below_trans (below_trans (below_trans (below_trans (below_trans (below_trans hwr b2) b3) b4) b5) b6) b7) b8⟩

set_option maxRecDepth 100000 in
/-- what the walk gives, for every argument and every world that holds what is listed -/
theorem contract (H : Type) (enc : TypeId × Value → H) (W : World) (base : Nat) (args : Array Value) (ds gs : List (DataW H)) (before : List MemPlace)
    (hval0 : ∀ (j : Nat) t v, Tryd.f3.params[j]? = some t → args[j]? = some v → Value.okWide Tryd.prog W .any base t v)
    (hW : DataW.Whole enc Tryd.prog Tryd.f3.params.toList Rows.propBackSpec.vars false W args.toList ds gs before)
    (hsz0 : (DataW.weightsEach Tryd.prog (Tryd.f3.params.toList ++ Rows.propBackSpec.plain.varTypes Tryd.prog) (ds ++ gs)).all (· ≤ reachBytes) = true)
    (hL : laidMetH Tryd.prog Rows.propBackRow.laid W) :
    Calls Tryd.prog 3 args W fun e W' => ∃ v, e = .returned v ∧ Rows.propBackSpec.post enc Tryd.prog Tryd.f3 false true false false W args v W' := by
  have hval : ∀ (j : Nat) t v, Tryd.f3.params[j]? = some t → args[j]? = some v → Value.okWide Tryd.prog W .any base t v := hval0
  have hsz : (DataW.weightsEach Tryd.prog (Tryd.f3.params.toList ++ Rows.propBackSpec.plain.varTypes Tryd.prog) (ds ++ gs)).all (· ≤ reachBytes) = true := hsz0
  have hT : Tab W := tab_of_laid hL
  have hW' := hW
  obtain ⟨p, q, hA0, hV, rfl, hfz, hnd⟩ := hW
  have hA : DataW.TrodAll enc Tryd.prog W 0 (fun _ => true) true Tryd.f3.params.toList args.toList ds p := hA0
  rw [Tryd.params3] at hA hval hsz
  obtain ⟨v0, vs0, d0, ds0, p0, q0, hargs, rfl, rfl, h0, r0⟩ := trodAll_cons hA
  obtain ⟨v1, vs1, d1, ds1, p1, q1, rfl, rfl, rfl, h1, r1⟩ := trodAll_cons r0
  obtain ⟨rfl, rfl, rfl⟩ := trodAll_nil r1
  obtain rfl : args = #[v0, v1] := by cases args; simp_all
  obtain ⟨rfl, rfl⟩ := trodVars_none hV
  obtain ⟨s0, l0, c0, rfl⟩ := okWide_slice Tryd.underlying22 (hval 0 22 v0 rfl rfl)
  have k0 := h0
  have lt0 : ∀ x ∈ p0, x.block < W.heap.size := by obtain ⟨m, hm⟩ := k0; exact DataW.trod_lt m _ _ _ hm
  obtain ⟨x0, r100, f0, hd0⟩ := rd_open (k := .u32) Tryd.underlying22 Tryd.underlying27 (by kernel_rfl) h0
  have z0 : x0.length * 4 ≤ 140737488351232 := by
    rcases hd0 with rfl | ⟨ys, zs, rfl, hle⟩
    · simp
    · have := sized_slice hsz (j := 0) (t := 22) (e := 27) rfl rfl Tryd.underlying22
      rw [bytes27] at this
      unfold reachBytes at this
      omega
  obtain ⟨s1, l1, c1, rfl⟩ := okWide_slice Tryd.underlying23 (hval 1 23 v1 rfl rfl)
  have k1 := h1
  have lt1 : ∀ x ∈ p1, x.block < W.heap.size := by obtain ⟨m, hm⟩ := k1; exact DataW.trod_lt m _ _ _ hm
  obtain ⟨x1, r101⟩ := str_open Tryd.underlying23 Tryd.underlying9 (by kernel_rfl) h1
  clear hA0 hval0 hsz0
  refine (walk (.slice s0 l0 c0) x0 (.slice s1 l1 c1) x1 W hT r100 f0 z0 r101).mono fun e W' ⟨he, bel⟩ => ?_
  subst he
  exact ⟨_, rfl, _, _, _, [], _, [], hW', trodAll_mk1 (shut_bool Tryd.underlying4 _), (trodAll_cons_mk (Below.trod laidOut (by kernel_rfl) (of_decide_eq_true (by kernel_rfl)) k0 bel lt0) (trodAll_cons_mk (Below.trod laidOut (by kernel_rfl) (of_decide_eq_true (by kernel_rfl)) k1 bel lt1) trodAll_mk0)), rfl, bel.frame _, fun h => by cases h⟩

/-- a world for the witness: the settled one, the listed blocks as their initialisers lay them -/
def layBlock (b : Nat × Array Value) : Obj → Obj
  | .cells _ t frozen => .cells b.2 t frozen
  | o => o
noncomputable def laidWorld (os : Os) : World :=
  { World.holding Tryd.prog os ⟨laidObjs, #[], []⟩ with heap := laidBlocks.foldl (fun h b => h.modify b.1 (layBlock b)) (World.holding Tryd.prog os ⟨laidObjs, #[], []⟩).heap }
theorem laid_met (os : Os) : laidMet Tryd.prog Rows.propBackRow.laid ((laidWorld os).forCall (fun _ _ => 0) ⟨#[], #[.slice none 0 0, .slice none 0 0], []⟩).memory :=
  laidMet_of_run' 8 (by kernel_rfl) (by kernel_rfl)
theorem reads (os : Os) {H : Type} (enc : TypeId × Value → H) : ∃ places, DataW.whole enc Tryd.prog ((laidWorld os).forCall (fun _ _ => 0) ⟨#[], #[.slice none 0 0, .slice none 0 0], []⟩).memory Tryd.f3.params.toList Rows.propBackSpec.vars false #[.slice none 0 0, .slice none 0 0].toList 8 = some ([.nil, .nil], [], places) :=
  ⟨[], by kernel_rfl⟩

set_option maxRecDepth 100000 in
theorem lifted (os : Os) (started : os.Started) (H : Type) (enc : TypeId × Value → H) (F : Stop.Interp) :
    ReturnsInHanded {} Tryd.checked os 3 .any ((OpenSpec.ofChange Rows.propBackSpec).preRow enc Tryd.prog Tryd.f3 Rows.propBackRow.domain false Rows.propBackRow.laid) (((OpenSpec.ofChange Rows.propBackSpec).at F).post enc Tryd.prog Tryd.f3 false true false false) := by
  obtain ⟨places, hx⟩ := reads os enc
  refine returnsInHanded_of_row (C := Tryd.checked) (s := OpenSpec.ofChange Rows.propBackSpec) own started (by kernel_rfl) Tryd.func3
    (witness_row_at (enc := enc) (C := Tryd.checked) false (laidWorld os) #[.slice none 0 0, .slice none 0 0] rfl (by kernel_rfl) (by kernel_rfl) (by kernel_rfl)
      (OpenSpec.preRow_of_cond 8 hx (by kernel_rfl) (fun k hk => by cases hk) (by kernel_rfl) (laid_met os))) ?_
  intro W base args ds gs before hval hW _ hcnd hsz hL _ _
  exact contract H enc W base args ds gs before hval hW hsz hL

theorem said : Rows.PropBackSaid :=
  OpenClaim.holds_of_cond 3 Tryd.f3 rfl rfl rfl rfl rfl rfl rfl ⟨rfl, rfl, rfl, rfl, rfl⟩ rfl rfl rfl rfl rfl (by kernel_rfl) Tryd.func3 (by kernel_rfl)
    (of_decide_eq_true (by kernel_rfl)) (by unfold Func.isWrapper; first | (rw [if_pos (by decide +kernel)]; kernel_rfl) | (rw [if_neg (by decide +kernel)]; exact ⟨rfl, rfl⟩))
    (fun os started H enc _ F => by rw [OpenClaim.pre_eq_preRow]; exact lifted os started H enc F)

theorem plain (f : FuncId) (fn : Func) (hf : Tryd.pinned.checked.prog.funcNamed "tinder/tinderlaw05.PropBack" = some f) (hfn : Tryd.pinned.checked.prog.funcs[f]? = some fn) :
    true = Tryd.pinned.checked.prog.looks [] ∧ ∀ (j : Nat) t, fn.params[j]? = some t → Tryd.pinned.checked.prog.wantsStandIn t = false := by
  obtain rfl : f = 3 := Option.some.inj ((show Tryd.prog.funcNamed "tinder/tinderlaw05.PropBack" = some 3 by kernel_rfl).symm.trans hf) |>.symm
  obtain rfl : fn = Tryd.f3 := (Option.some.inj (Tryd.func3.symm.trans hfn)).symm
  refine ⟨by kernel_rfl, fun j t ht => ?_⟩
  rw [Tryd.params3] at ht
  rcases j with _ | _ | j
  · obtain rfl : t = 22 := by simpa using ht.symm
    exact (show Tryd.prog.wantsStandIn 22 = false by kernel_rfl)
  · obtain rfl : t = 23 := by simpa using ht.symm
    exact (show Tryd.prog.wantsStandIn 23 = false by kernel_rfl)
  · simp at ht

theorem card : Rows.PropBackCardSaid :=
  Claim7.holds_tied_plain_at .later [] _ _ _ _ said (fun _ h => by cases h) (by kernel_rfl) (fun _ h => by cases h) propBack_row_tie rfl ⟨rfl, rfl⟩ (by kernel_rfl) rfl plain (by kernel_rfl)
end Go.Proofs.YtamhcpejebonmabDoor.propBack
namespace Go.Proofs.YtamhcpejebonmabDoor
theorem propBack_holds : Rows.PropBackCardSaid := propBack.card
#print axioms propBack_holds
end Go.Proofs.YtamhcpejebonmabDoor
