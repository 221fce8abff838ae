/-
  A property that was set is got, all others and all other devices stay, and dropped it is gone.
-/
import Derived.Test.YtkdaimagdmbnfaaDoorRows
import Derived.WalkKit
import Derived.ProofKit
import Derived.OpenShut
import Derived.ShutString
import Derived.ChangeOld
import Derived.Below
import Derived.Carry
import Derived.SizedLaws
import Derived.Deep.DeepHandedRow
import Derived.SevenTiedAt
import Derived.Test.YtkdaimagdmbnfaaDoorCards
import Derived.Test.YtkdaimagdmbnfaaDoorTie
import Derived.Test.YtkdaimagdmbnfaaDoorB7
namespace Go.Proofs.YtkdaimagdmbnfaaDoor.treeKeeps
open Go.ChangeShapes Go.WideShapes Go.ChangeAt Go.RowKit
open Go.ChangeMaps (open_string shut_string)
set_option linter.unusedVariables false

theorem own : ownKnob Tryd.prog.godebug = none := by kernel_rfl
theorem laidOut : laidOutB Tryd.prog = true := by kernel_rfl

set_option maxHeartbeats 4000000 in
set_option maxRecDepth 100000 in
theorem walk (ct0 : Value) (cn0 : Int) (cs0 : ByteArray) (cd0 : Value) (kt0 : List Nd) (kb0 : List Int) (a1 : ByteArray) (w : World) (hT : Tab w) (r0 : RdT w ct0 kt0) (g0 : ∀ x ∈ kt0, goodN x) (z0 : kt0.length * 96 ≤ 140737488351232) (wn0 : (Lit.int .i64 cn0).wf = true) (ws0 : cs0.size ≤ maxLen) (rd0 : Rd .u8 w cd0 kb0) (bd0 : bytesL kb0) (zd0 : kb0.length ≤ 140737488351232) (w1 : a1.size ≤ maxLen) :
    Calls Tryd.prog 8 #[.agg #[ct0, .int .i64 cn0, .string cs0, cd0], .string a1] w fun e w' => e = .returned (.bool true) ∧ Below w.heap.size w w' := by
  have hg : goodT kt0 := g0
  have bb := box_below w (.cells #[ct0, .int .i64 cn0, .string cs0, cd0] 30)
  have st_0 := stands_new w #[ct0, .int .i64 cn0, .string cs0, cd0] 30
  obtain ⟨k0_0, k1_0, k2_0, k3_0⟩ := cas_cells st_0
  have t_0 := r0.below bb
  have y_0 := rd0.below bb
  have hT_0 := hT.below bb
  have ho_0 : a1.size ≤ maxLen := w1
  have c1 := fun w hT h hd => w_p8set ct0 kt0 cn0 cs0 cd0 kb0 w hT h hg z0 wn0 ws0 hd bd0
  have hga : goodT (setF kt0 cn0 (L cs0) kb0).1 := set_goodT hg (LB_bytes _) (by rw [L_size]; exact ws0) bd0
  have hgs := get_set (t := kt0) (n := cn0) (nm := L cs0) (d := kb0)
  have hot := get_other (t := kt0) (n := cn0) (nm := L cs0) (d := kb0) (o := L a1)
  have hno := set_nodes (t := kt0) (n := cn0) (nm := L cs0) (d := kb0)
  have hdr := drp_set (t := kt0) (n := cn0) (nm := L cs0) (d := kb0)
  have her := set_err (t := kt0) (n := cn0) (nm := L cs0) (d := kb0)
  obtain ⟨A, E, hA⟩ : ∃ A E, setF kt0 cn0 (L cs0) kb0 = (A, E) := ⟨_, _, rfl⟩
  simp only [hA] at c1 hga hgs hot hno hdr her
  clear hA
  by_cases hE : E = 0
  · subst hE
    have hgt := hgs rfl
    obtain ⟨hlen, hnd⟩ := hno rfl
    obtain ⟨hd1, hd2⟩ := hdr rfl
    clear hgs hno hdr
    have hzA : A.length * 96 ≤ 140737488351232 := by omega
    have c2 := fun v w hT h => w_p8get v A cn0 cs0 w hT h hga hzA wn0 ws0
    have c5 := fun v w hT h => w_p8drop v A cn0 cs0 w hT h hga hzA wn0 ws0
    have hgd : goodT (drpF A cn0 (L cs0)).1 := drp_goodT hga
    have hzd : (drpF A cn0 (L cs0)).1.length * 96 ≤ 140737488351232 := by have := drp_size A cn0 (L cs0); omega
    obtain ⟨B, F, hB⟩ : ∃ B F, drpF A cn0 (L cs0) = (B, F) := ⟨_, _, rfl⟩
    simp only [hB] at hd1 hd2 c5 hgd hzd
    subst hd1
    have c6 := fun v w hT h => w_p8get v B cn0 cs0 w hT h hgd hzd wn0 ws0
    simp only [hgt] at c2
    simp only [hd2] at c6
    clear hB hd2 hgt her
    by_cases hab : a1 = cs0
    · have qab : (a1.toList == cs0.toList) = true := by rw [str_beq]; exact decide_eq_true hab
      have qab2 : (a1.toList != cs0.toList) = false := by simp only [bne, qab, Bool.not_true]
      clear hot hab
      go_enter Tryd.func8, Tryd.ntmps8
      go_wp2_with (go_at_call 9; refine (w_alive8 _ hT_0).mono ?_; rintro e q1 ⟨rfl, b_1⟩; have hT_1 := hT_0.below b_1; have t_1 := t_0.below b_1; have y_1 := y_0.below b_1; have st_1 := st_0.below b_1; obtain ⟨k0_1, k1_1, k2_1, k3_1⟩ := cas_cells st_1)
      go_wp2_with (go_at_call 19; refine (c1 _ hT_1 t_1 y_1).mono ?_; rintro e q2 ⟨u2, rfl, p2, b_2⟩; have hT_2 := hT_1.below b_2; have t_2 := t_1.below b_2; have y_2 := y_1.below b_2; have st_2 := st_1.below b_2; obtain ⟨k0_2, k1_2, k2_2, k3_2⟩ := cas_cells st_2; have p_2 := p2)
      go_wp2_with (go_at_call 23; refine (c2 u2 _ hT_2 p_2).mono ?_; rintro e q3 ⟨u3, rfl, p3, b_3⟩; have hT_3 := hT_2.below b_3; have t_3 := t_2.below b_3; have y_3 := y_2.below b_3; have st_3 := st_2.below b_3; obtain ⟨k0_3, k1_3, k2_3, k3_3⟩ := cas_cells st_3; have p_3 := p_2.below b_3; have s_3 := p3)
      go_wp2_with (go_at_call 27; refine (w_rsame _ _ kb0 kb0 _ s_3 y_3 bd0 bd0).mono ?_; rintro e qs4 ⟨rfl, hs4⟩; subst qs4)
      go_loopw [13] (fun I wx => ∃ k : Nat, (k : Int) ≤ A.length ∧ I = .int .i64 k ∧ Below q3.heap.size q3 wx) (fun I _ => (A.length - intOf I).toNat)
      case atStart => exact ⟨0, by omega, rfl, Below.refl _ _⟩
      case round =>
        obtain ⟨k, hk, rfl, hbw⟩ := hrel
        have sr := st_3.below hbw
        obtain ⟨d0, d1, d2, d3⟩ := cas_cells sr
        have hla := slr_len (p_3.below hbw) uN (P := Tryd.prog)
        by_cases hlt : (k : Int) < A.length
        · have hka : k < A.length := by omega
          have hkb : k < kt0.length := by omega
          by_cases hn : (k : Int) = cn0
          · have qn : ((k : Int) != cn0) = false := by simp [hn]
            go_wp2_with fail
            go_quiet (fail)
            go_wp2_with fail
            go_roundw
            case rel => exact ⟨k + 1, by omega, by go_num, below_drewN hbw _⟩
            case measure => simp [intOf]; omega
          · have qn : ((k : Int) != cn0) = true := by simpa using hn
            obtain ⟨b1, o1, N1, x1, p1, c1, r1, f0, f1, f2, f3, f4, e1, hu1, hp1, hc1⟩ := nod_at (p_3.below hbw) k hka
            obtain ⟨b2, o2, N2, x2, p2, c2, r2, g0, g1, g2, g3, g4, e2, hu2, hp2, hc2⟩ := nod_at (t_3.below hbw) k hkb
            have hxy : A[k] = kt0[k] := by
              have := hnd k hn
              rw [List.getElem?_eq_getElem hka, List.getElem?_eq_getElem hkb] at this
              exact Option.some.inj this
            have cs := fun W (g : Below wr.heap.size wr W) => w_r8node A[k] kt0[k] N1 N2 x1 p1 c1 x2 p2 c2 W e1 e2 (hu1.below g) (hu2.below g) (hp1.below g (propR_below g)) (hp2.below g (propR_below g)) (hc1.below g) (hc2.below g) (hga.byt _ (List.getElem_mem hka)) (hg.byt _ (List.getElem_mem hkb))
            simp only [eqN_of hxy] at cs
            obtain ⟨X, hX⟩ : ∃ X, A[k].2.2.1 = X := ⟨_, rfl⟩
            obtain ⟨Y, hY⟩ : ∃ Y, kt0[k].2.2.1 = Y := ⟨_, rfl⟩
            rw [hX] at f2
            rw [hY] at g2
            simp only [hX, hY] at cs
            clear hX hY hxy e1 e2 hu1 hu2 hp1 hp2 hc1 hc2
            go_wp2_with fail
            go_region_with (go_at_call 35; refine (cs _ (below_drewN (Below.refl _ _) 1)).mono ?_; rintro e qc ⟨rfl, bc⟩; have bt := below_trans (show Below q3.heap.size q3 wr.drew from below_drewN hbw 1) bc)
            all_goals (
              go_wp2_with fail
              go_roundw
              case rel => exact ⟨k + 1, by omega, by go_num, by first | exact bt | exact below_drewN bt _⟩
              case measure => simp [intOf]; omega)
        · have hTz := hT_3.below hbw
          have pz := p_3.below hbw
          go_wp2_with (first
            | (go_at_call 21; refine (c5 u2 _ hTz pz).mono ?_; rintro e qy ⟨uy, rfl, py, by1⟩; have hTy := hTz.below by1; have sy := sr.below by1; obtain ⟨m0, m1, m2, m3⟩ := cas_cells sy)
            | (go_at_call 23; refine (c6 uy _ hTy py).mono ?_; rintro e qx ⟨ux, rfl, px, bx1⟩))
          go_ret
          exact ⟨by simp, below_trans (below_trans (below_trans (below_trans (below_trans (below_trans (bb) b_1) b_2) b_3) hbw) by1) bx1⟩
    · have qab : (a1.toList == cs0.toList) = false := by rw [str_beq]; exact decide_eq_false hab
      have qab2 : (a1.toList != cs0.toList) = true := by simp only [bne, qab, Bool.not_false]
      have hot := hot rfl (fun g => hab (L_inj g))
      have c3 := fun w hT h => w_p8get ct0 kt0 cn0 a1 w hT h hg z0 wn0 ho_0
      have c4 := fun v w hT h => w_p8get v A cn0 a1 w hT h hga hzA wn0 ho_0
      simp only [hot] at c4
      have hC := get_bytes (n := cn0) (nm := L a1) hg
      obtain ⟨C, G, hCG⟩ : ∃ C G, getF kt0 cn0 (L a1) = (C, G) := ⟨_, _, rfl⟩
      simp only [hCG] at c3 c4 hC
      clear hCG hot
      go_enter Tryd.func8, Tryd.ntmps8
      go_wp2_with (go_at_call 9; refine (w_alive8 _ hT_0).mono ?_; rintro e q1 ⟨rfl, b_1⟩; have hT_1 := hT_0.below b_1; have t_1 := t_0.below b_1; have y_1 := y_0.below b_1; have st_1 := st_0.below b_1; obtain ⟨k0_1, k1_1, k2_1, k3_1⟩ := cas_cells st_1)
      go_wp2_with (go_at_call 19; refine (c1 _ hT_1 t_1 y_1).mono ?_; rintro e q2 ⟨u2, rfl, p2, b_2⟩; have hT_2 := hT_1.below b_2; have t_2 := t_1.below b_2; have y_2 := y_1.below b_2; have st_2 := st_1.below b_2; obtain ⟨k0_2, k1_2, k2_2, k3_2⟩ := cas_cells st_2; have p_2 := p2)
      go_wp2_with (go_at_call 23; refine (c2 u2 _ hT_2 p_2).mono ?_; rintro e q3 ⟨u3, rfl, p3, b_3⟩; have hT_3 := hT_2.below b_3; have t_3 := t_2.below b_3; have y_3 := y_2.below b_3; have st_3 := st_2.below b_3; obtain ⟨k0_3, k1_3, k2_3, k3_3⟩ := cas_cells st_3; have p_3 := p_2.below b_3; have s_3 := p3)
      go_wp2_with (go_at_call 27; refine (w_rsame _ _ kb0 kb0 _ s_3 y_3 bd0 bd0).mono ?_; rintro e qs4 ⟨rfl, hs4⟩; subst qs4)
      go_wp2_with (go_at_call_of 23 ct0; refine (c3 _ hT_3 t_3).mono ?_; rintro e q4 ⟨u4, rfl, p4, b_4⟩; have hT_4 := hT_3.below b_4; have t_4 := t_3.below b_4; have y_4 := y_3.below b_4; have st_4 := st_3.below b_4; obtain ⟨k0_4, k1_4, k2_4, k3_4⟩ := cas_cells st_4; have p_4 := p_3.below b_4; have s_4 := s_3.below b_4; have x_4 := p4)
      go_wp2_with (go_at_call_of 23 u2; refine (c4 u2 _ hT_4 p_4).mono ?_; rintro e q5 ⟨u5, rfl, p5, b_5⟩; have hT_5 := hT_4.below b_5; have t_5 := t_4.below b_5; have y_5 := y_4.below b_5; have st_5 := st_4.below b_5; obtain ⟨k0_5, k1_5, k2_5, k3_5⟩ := cas_cells st_5; have p_5 := p_4.below b_5; have s_5 := s_4.below b_5; have x_5 := x_4.below b_5; have v_5 := p5)
      go_wp2_with (go_at_call 27; refine (w_rsame _ _ C C _ x_5 v_5 hC hC).mono ?_; rintro e qs6 ⟨rfl, hs6⟩; subst qs6)
      go_loopw [13] (fun I wx => ∃ k : Nat, (k : Int) ≤ A.length ∧ I = .int .i64 k ∧ Below q5.heap.size q5 wx) (fun I _ => (A.length - intOf I).toNat)
      case atStart => exact ⟨0, by omega, rfl, Below.refl _ _⟩
      case round =>
        obtain ⟨k, hk, rfl, hbw⟩ := hrel
        have sr := st_5.below hbw
        obtain ⟨d0, d1, d2, d3⟩ := cas_cells sr
        have hla := slr_len (p_5.below hbw) uN (P := Tryd.prog)
        by_cases hlt : (k : Int) < A.length
        · have hka : k < A.length := by omega
          have hkb : k < kt0.length := by omega
          by_cases hn : (k : Int) = cn0
          · have qn : ((k : Int) != cn0) = false := by simp [hn]
            go_wp2_with fail
            go_quiet (fail)
            go_wp2_with fail
            go_roundw
            case rel => exact ⟨k + 1, by omega, by go_num, below_drewN hbw _⟩
            case measure => simp [intOf]; omega
          · have qn : ((k : Int) != cn0) = true := by simpa using hn
            obtain ⟨b1, o1, N1, x1, p1, c1, r1, f0, f1, f2, f3, f4, e1, hu1, hp1, hc1⟩ := nod_at (p_5.below hbw) k hka
            obtain ⟨b2, o2, N2, x2, p2, c2, r2, g0, g1, g2, g3, g4, e2, hu2, hp2, hc2⟩ := nod_at (t_5.below hbw) k hkb
            have hxy : A[k] = kt0[k] := by
              have := hnd k hn
              rw [List.getElem?_eq_getElem hka, List.getElem?_eq_getElem hkb] at this
              exact Option.some.inj this
            have cs := fun W (g : Below wr.heap.size wr W) => w_r8node A[k] kt0[k] N1 N2 x1 p1 c1 x2 p2 c2 W e1 e2 (hu1.below g) (hu2.below g) (hp1.below g (propR_below g)) (hp2.below g (propR_below g)) (hc1.below g) (hc2.below g) (hga.byt _ (List.getElem_mem hka)) (hg.byt _ (List.getElem_mem hkb))
            simp only [eqN_of hxy] at cs
            obtain ⟨X, hX⟩ : ∃ X, A[k].2.2.1 = X := ⟨_, rfl⟩
            obtain ⟨Y, hY⟩ : ∃ Y, kt0[k].2.2.1 = Y := ⟨_, rfl⟩
            rw [hX] at f2
            rw [hY] at g2
            simp only [hX, hY] at cs
            clear hX hY hxy e1 e2 hu1 hu2 hp1 hp2 hc1 hc2
            go_wp2_with fail
            go_region_with (go_at_call 35; refine (cs _ (below_drewN (Below.refl _ _) 1)).mono ?_; rintro e qc ⟨rfl, bc⟩; have bt := below_trans (show Below q5.heap.size q5 wr.drew from below_drewN hbw 1) bc)
            all_goals (
              go_wp2_with fail
              go_roundw
              case rel => exact ⟨k + 1, by omega, by go_num, by first | exact bt | exact below_drewN bt _⟩
              case measure => simp [intOf]; omega)
        · have hTz := hT_5.below hbw
          have pz := p_5.below hbw
          go_wp2_with (first
            | (go_at_call 21; refine (c5 u2 _ hTz pz).mono ?_; rintro e qy ⟨uy, rfl, py, by1⟩; have hTy := hTz.below by1; have sy := sr.below by1; obtain ⟨m0, m1, m2, m3⟩ := cas_cells sy)
            | (go_at_call 23; refine (c6 uy _ hTy py).mono ?_; rintro e qx ⟨ux, rfl, px, bx1⟩))
          go_ret
          exact ⟨by simp, below_trans (below_trans (below_trans (below_trans (below_trans (below_trans (below_trans (below_trans (bb) b_1) b_2) b_3) b_4) b_5) hbw) by1) bx1⟩
  · have hA := her hE
    subst hA
    have qE : (E == 0) = false := by simpa using hE
    have qN : (E != 0) = true := by simpa using hE
    clear her hdr hno hot hgs
    go_enter Tryd.func8, Tryd.ntmps8
    go_wp2_with (go_at_call 9; refine (w_alive8 _ hT_0).mono ?_; rintro e q1 ⟨rfl, b_1⟩; have hT_1 := hT_0.below b_1; have t_1 := t_0.below b_1; have y_1 := y_0.below b_1; have st_1 := st_0.below b_1; obtain ⟨k0_1, k1_1, k2_1, k3_1⟩ := cas_cells st_1)
    go_wp2_with (go_at_call 19; refine (c1 _ hT_1 t_1 y_1).mono ?_; rintro e q2 ⟨u2, rfl, p2, b_2⟩; have hT_2 := hT_1.below b_2; have t_2 := t_1.below b_2; have y_2 := y_1.below b_2; have st_2 := st_1.below b_2; obtain ⟨k0_2, k1_2, k2_2, k3_2⟩ := cas_cells st_2; have p_2 := p2; have hla := slr_len p2 uN (P := Tryd.prog))
    go_ret
    exact ⟨by simp, below_trans (below_trans (bb) b_1) b_2⟩

set_option maxRecDepth 100000 in
/-- what the walk gives, for every argument and every world that holds what is listed -/
theorem contract (H : Type) (enc : TypeId × Value → H) (W : World) (base : Nat) (args : Array Value) (ds gs : List (DataW H)) (before : List MemPlace)
    (hval0 : ∀ (j : Nat) t v, Tryd.f8.params[j]? = some t → args[j]? = some v → Value.okWide Tryd.prog W .any base t v)
    (hW : DataW.Whole enc Tryd.prog Tryd.f8.params.toList Rows.treeKeepsSpec.vars false W args.toList ds gs before)
    (hsz0 : (DataW.weightsEach Tryd.prog (Tryd.f8.params.toList ++ Rows.treeKeepsSpec.plain.varTypes Tryd.prog) (ds ++ gs)).all (· ≤ reachBytes) = true)
    (hL : laidMetH Tryd.prog Rows.treeKeepsRow.laid W) :
    Calls Tryd.prog 8 args W fun e W' => ∃ v, e = .returned v ∧ Rows.treeKeepsSpec.post enc Tryd.prog Tryd.f8 false true false false W args v W' := by
  have hval : ∀ (j : Nat) t v, Tryd.f8.params[j]? = some t → args[j]? = some v → Value.okWide Tryd.prog W .any base t v := hval0
  have hsz : (DataW.weightsEach Tryd.prog (Tryd.f8.params.toList ++ Rows.treeKeepsSpec.plain.varTypes Tryd.prog) (ds ++ gs)).all (· ≤ reachBytes) = true := hsz0
  have hT : Tab W := tab_of_laid hL
  have hW' := hW
  obtain ⟨p, q, hA0, hV, rfl, hfz, hnd⟩ := hW
  have hA : DataW.TrodAll enc Tryd.prog W 0 (fun _ => true) true Tryd.f8.params.toList args.toList ds p := hA0
  rw [Tryd.params8] at hA hval hsz
  obtain ⟨v0, vs0, d0, ds0, p0, q0, hargs, rfl, rfl, h0, r0⟩ := trodAll_cons hA
  obtain ⟨v1, vs1, d1, ds1, p1, q1, rfl, rfl, rfl, h1, r1⟩ := trodAll_cons r0
  obtain ⟨rfl, rfl, rfl⟩ := trodAll_nil r1
  obtain rfl : args = #[v0, v1] := by cases args; simp_all
  obtain ⟨rfl, rfl⟩ := trodVars_none hV
  have k0 := h0
  have lt0 : ∀ x ∈ p0, x.block < W.heap.size := by obtain ⟨m, hm⟩ := k0; exact DataW.trod_lt m _ _ _ hm
  obtain ⟨ct0, cn0, cs0, cd0, kt0, kb0, rfl, r100, g0, z0, wn0, ws0, rd0, bd0, zd0⟩ := cas_open (hval 0 30 v0 rfl rfl) h0 (fun n hn => by simpa using List.all_eq_true.1 hsz n (DataW.weights_mem_each (j := 0) (t := 30) (d := d0) rfl rfl n hn))
  obtain ⟨a1, rfl, rfl, rfl, w1⟩ := open_string Tryd.underlying9 (hval 1 9 v1 rfl rfl) h1
  clear hA0 hval0 hsz0
  refine (walk ct0 cn0 cs0 cd0 kt0 kb0 a1 W hT r100 g0 z0 wn0 ws0 rd0 bd0 zd0 w1).mono fun e W' ⟨he, bel⟩ => ?_
  subst he
  exact ⟨_, rfl, _, _, _, [], _, [], hW', trodAll_mk1 (shut_bool Tryd.underlying4 _), (trodAll_cons_mk (Below.trod laidOut (by kernel_rfl) (of_decide_eq_true (by kernel_rfl)) k0 bel lt0) (trodAll_cons_mk (shut_string Tryd.underlying9 w1) trodAll_mk0)), rfl, bel.frame _, fun h => by cases h⟩

/-- a world for the witness: the settled one, the listed blocks as their initialisers lay them -/
def layBlock (b : Nat × Array Value) : Obj → Obj
  | .cells _ t frozen => .cells b.2 t frozen
  | o => o
noncomputable def laidWorld (os : Os) : World :=
  { World.holding Tryd.prog os ⟨#[], #[], []⟩ with heap := laidBlocks.foldl (fun h b => h.modify b.1 (layBlock b)) (World.holding Tryd.prog os ⟨#[], #[], []⟩).heap }
theorem laid_met (os : Os) : laidMet Tryd.prog Rows.treeKeepsRow.laid ((laidWorld os).forCall (fun _ _ => 0) ⟨#[], #[.agg #[.slice none 0 0, .int .i64 0, .string ⟨#[]⟩, .slice none 0 0], .string ⟨#[]⟩], []⟩).memory :=
  laidMet_of_run' 8 (by kernel_rfl) (by kernel_rfl)
theorem reads (os : Os) {H : Type} (enc : TypeId × Value → H) : ∃ places, DataW.whole enc Tryd.prog ((laidWorld os).forCall (fun _ _ => 0) ⟨#[], #[.agg #[.slice none 0 0, .int .i64 0, .string ⟨#[]⟩, .slice none 0 0], .string ⟨#[]⟩], []⟩).memory Tryd.f8.params.toList Rows.treeKeepsSpec.vars false #[.agg #[.slice none 0 0, .int .i64 0, .string ⟨#[]⟩, .slice none 0 0], .string ⟨#[]⟩].toList 8 = some ([.agg [.nil, .lit (.int .i64 0), .lit (.string []), .nil], .lit (.string [])], [], places) :=
  ⟨[], by kernel_rfl⟩

set_option maxRecDepth 100000 in
theorem lifted (os : Os) (started : os.Started) (H : Type) (enc : TypeId × Value → H) (F : Stop.Interp) :
    ReturnsInHanded {} Tryd.checked os 8 .any ((OpenSpec.ofChange Rows.treeKeepsSpec).preRow enc Tryd.prog Tryd.f8 Rows.treeKeepsRow.domain false Rows.treeKeepsRow.laid) (((OpenSpec.ofChange Rows.treeKeepsSpec).at F).post enc Tryd.prog Tryd.f8 false true false false) := by
  obtain ⟨places, hx⟩ := reads os enc
  refine returnsInHanded_of_row (C := Tryd.checked) (s := OpenSpec.ofChange Rows.treeKeepsSpec) own started (by kernel_rfl) Tryd.func8
    (witness_row_at (enc := enc) (C := Tryd.checked) false (laidWorld os) #[.agg #[.slice none 0 0, .int .i64 0, .string ⟨#[]⟩, .slice none 0 0], .string ⟨#[]⟩] rfl (by kernel_rfl) (by kernel_rfl) (by kernel_rfl)
      (OpenSpec.preRow_of_cond 8 hx (by kernel_rfl) (fun k hk => by cases hk) (by kernel_rfl) (laid_met os))) ?_
  intro W base args ds gs before hval hW _ hcnd hsz hL _ _
  exact contract H enc W base args ds gs before hval hW hsz hL

theorem said : Rows.TreeKeepsSaid :=
  OpenClaim.holds_of_cond 8 Tryd.f8 rfl rfl rfl rfl rfl rfl rfl ⟨rfl, rfl, rfl, rfl, rfl⟩ rfl rfl rfl rfl rfl (by kernel_rfl) Tryd.func8 (by kernel_rfl)
    (of_decide_eq_true (by kernel_rfl)) (by unfold Func.isWrapper; first | (rw [if_pos (by decide +kernel)]; kernel_rfl) | (rw [if_neg (by decide +kernel)]; exact ⟨rfl, rfl⟩))
    (fun os started H enc _ F => by rw [OpenClaim.pre_eq_preRow]; exact lifted os started H enc F)

theorem plain (f : FuncId) (fn : Func) (hf : Tryd.pinned.checked.prog.funcNamed "tinder/tinderlaw08.TreeKeeps" = some f) (hfn : Tryd.pinned.checked.prog.funcs[f]? = some fn) :
    false = Tryd.pinned.checked.prog.looks [] ∧ ∀ (j : Nat) t, fn.params[j]? = some t → Tryd.pinned.checked.prog.wantsStandIn t = false := by
  obtain rfl : f = 8 := Option.some.inj ((show Tryd.prog.funcNamed "tinder/tinderlaw08.TreeKeeps" = some 8 by kernel_rfl).symm.trans hf) |>.symm
  obtain rfl : fn = Tryd.f8 := (Option.some.inj (Tryd.func8.symm.trans hfn)).symm
  refine ⟨by kernel_rfl, fun j t ht => ?_⟩
  rw [Tryd.params8] at ht
  rcases j with _ | _ | j
  · obtain rfl : t = 30 := by simpa using ht.symm
    exact (show Tryd.prog.wantsStandIn 30 = false by kernel_rfl)
  · obtain rfl : t = 9 := by simpa using ht.symm
    exact (show Tryd.prog.wantsStandIn 9 = false by kernel_rfl)
  · simp at ht

theorem card : Rows.TreeKeepsCardSaid :=
  Claim7.holds_tied_plain_at .later [] _ _ _ _ said (fun _ h => by cases h) (by kernel_rfl) (fun _ h => by cases h) treeKeeps_row_tie rfl ⟨rfl, rfl⟩ (by kernel_rfl) rfl plain (by kernel_rfl)
end Go.Proofs.YtkdaimagdmbnfaaDoor.treeKeeps
namespace Go.Proofs.YtkdaimagdmbnfaaDoor
theorem treeKeeps_holds : Rows.TreeKeepsCardSaid := treeKeeps.card
#print axioms treeKeeps_holds
end Go.Proofs.YtkdaimagdmbnfaaDoor
