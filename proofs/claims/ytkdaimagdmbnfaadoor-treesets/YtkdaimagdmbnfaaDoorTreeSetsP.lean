/-
  Properties are set and dropped as the document's answer says, and the tree stays formed; what was handed in stays.
-/
import Derived.Test.YtkdaimagdmbnfaaDoorRows
import Derived.WalkKit
import Derived.ProofKit
import Derived.OpenShut
import Derived.ShutString
import Derived.ChangeOld
import Derived.Below
import Derived.Carry
import Derived.SizedLaws
import Derived.Deep.DeepHandedRow
import Derived.SevenTiedAt
import Derived.Test.YtkdaimagdmbnfaaDoorCards
import Derived.Test.YtkdaimagdmbnfaaDoorTie
import Derived.Test.YtkdaimagdmbnfaaDoorB7
namespace Go.Proofs.YtkdaimagdmbnfaaDoor.treeSets
open Go.ChangeShapes Go.WideShapes Go.ChangeAt Go.RowKit
open Go.ChangeMaps (open_string shut_string)
set_option linter.unusedVariables false

theorem own : ownKnob Tryd.prog.godebug = none := by kernel_rfl
theorem laidOut : laidOutB Tryd.prog = true := by kernel_rfl

set_option maxHeartbeats 4000000 in
set_option maxRecDepth 100000 in
theorem walk (ct0 : Value) (cn0 : Int) (cs0 : ByteArray) (cd0 : Value) (kt0 : List Nd) (kb0 : List Int) (w : World) (hT : Tab w) (r0 : RdT w ct0 kt0) (g0 : ∀ x ∈ kt0, goodN x) (z0 : kt0.length * 96 ≤ 140737488351232) (wn0 : (Lit.int .i64 cn0).wf = true) (ws0 : cs0.size ≤ maxLen) (rd0 : Rd .u8 w cd0 kb0) (bd0 : bytesL kb0) (zd0 : kb0.length ≤ 140737488351232) :
    Calls Tryd.prog 5 #[.agg #[ct0, .int .i64 cn0, .string cs0, cd0]] w fun e w' => e = .returned (.bool true) ∧ Below w.heap.size w w' := by
  have hg : goodT kt0 := g0
  have bb := box_below w (.cells #[ct0, .int .i64 cn0, .string cs0, cd0] 30)
  have st_0 := stands_new w #[ct0, .int .i64 cn0, .string cs0, cd0] 30
  obtain ⟨k0_0, k1_0, k2_0, k3_0⟩ := cas_cells st_0
  have t_0 := r0.below bb
  have y_0 := rd0.below bb
  have hT_0 := hT.below bb
  have c1 := fun w h => w_r8copy ct0 kt0 w h (by omega) hg.siz
  have c2 := fun v w hT h hd => w_p8set v kt0 cn0 cs0 cd0 kb0 w hT h hg z0 wn0 ws0 hd bd0
  have c3 := fun w h hd => w_r8set ct0 kt0 cn0 cs0 cd0 kb0 w h hd hg.byt hg.len ws0
  have c4 := fun v w hT h => w_p8drop v kt0 cn0 cs0 w hT h hg z0 wn0 ws0
  have c5 := fun w h => w_r8drop ct0 kt0 cn0 cs0 w h hg.byt hg.len
  have hfo := set_formed (t := kt0) (n := cn0) (nm := L cs0) (d := kb0)
  have hfd := drp_formed (t := kt0) (n := cn0) (nm := L cs0)
  have hga : goodT (setF kt0 cn0 (L cs0) kb0).1 := set_goodT hg (LB_bytes _) (by rw [L_size]; exact ws0) bd0
  have hgd : goodT (drpF kt0 cn0 (L cs0)).1 := drp_goodT hg
  obtain ⟨A, E, hA⟩ : ∃ A E, setF kt0 cn0 (L cs0) kb0 = (A, E) := ⟨_, _, rfl⟩
  simp only [hA] at c2 c3 hfo hga
  clear hA
  obtain ⟨B, F, hB⟩ : ∃ A E, drpF kt0 cn0 (L cs0) = (A, E) := ⟨_, _, rfl⟩
  simp only [hB] at c4 c5 hfd hgd
  clear hB
  have c6 := fun v w hT h => w_p8formed v A w hT h hga
  have c7 := fun v w hT h => w_p8formed v B w hT h hgd
  by_cases hE : E = 0
  · subst hE
    by_cases hF : F = 0
    · subst hF
      have h6 := (hfo rfl).1
      simp only [h6] at c6
      have h7 := (hfd rfl).1
      simp only [h7] at c7
      clear hfo hfd
      go_enter Tryd.func5, Tryd.ntmps5
      go_wp2_with (go_at_call 9; refine (w_alive8 _ hT_0).mono ?_; rintro e q1 ⟨rfl, b_1⟩; have hT_1 := hT_0.below b_1; have t_1 := t_0.below b_1; have y_1 := y_0.below b_1; have st_1 := st_0.below b_1; obtain ⟨k0_1, k1_1, k2_1, k3_1⟩ := cas_cells st_1)
      go_wp2_with (go_at_call 16; refine (c1 _ t_1).mono ?_; rintro e q2 ⟨u2, rfl, o2, b_2⟩; have hT_2 := hT_1.below b_2; have t_2 := t_1.below b_2; have y_2 := y_1.below b_2; have st_2 := st_1.below b_2; obtain ⟨k0_2, k1_2, k2_2, k3_2⟩ := cas_cells st_2; have own_2 := ownT8_read o2.own)
      go_wp2_with (go_at_call 19; refine (c2 u2 _ hT_2 own_2 y_2).mono ?_; rintro e q3 ⟨u3, rfl, p3, b_3⟩; have hT_3 := hT_2.below b_3; have t_3 := t_2.below b_3; have y_3 := y_2.below b_3; have st_3 := st_2.below b_3; obtain ⟨k0_3, k1_3, k2_3, k3_3⟩ := cas_cells st_3; have own_3 := own_2.below b_3; have p_3 := p3)
      go_wp2_with (go_at_call 20; refine (c3 _ t_3 y_3).mono ?_; rintro e q4 ⟨u4, rfl, o4, b_4⟩; have hT_4 := hT_3.below b_4; have t_4 := t_3.below b_4; have y_4 := y_3.below b_4; have st_4 := st_3.below b_4; obtain ⟨k0_4, k1_4, k2_4, k3_4⟩ := cas_cells st_4; have own_4 := own_3.below b_4; have p_4 := p_3.below b_4; have x_4 := ownT8_read o4)
      go_wp2_with (go_at_call 21; refine (c4 u2 _ hT_4 own_4).mono ?_; rintro e q5 ⟨u5, rfl, p5, b_5⟩; have hT_5 := hT_4.below b_5; have t_5 := t_4.below b_5; have st_5 := st_4.below b_5; obtain ⟨k0_5, k1_5, k2_5, k3_5⟩ := cas_cells st_5; have own_5 := own_4.below b_5; have p_5 := p_4.below b_5; have x_5 := x_4.below b_5; have d_5 := p5)
      go_wp2_with (go_at_call 22; refine (c5 _ t_5).mono ?_; rintro e q6 ⟨u6, rfl, o6, b_6⟩; have hT_6 := hT_5.below b_6; have t_6 := t_5.below b_6; have st_6 := st_5.below b_6; obtain ⟨k0_6, k1_6, k2_6, k3_6⟩ := cas_cells st_6; have own_6 := own_5.below b_6; have p_6 := p_5.below b_6; have x_6 := x_5.below b_6; have d_6 := d_5.below b_6; have z_6 := ownT8_read o6)
      go_wp2_with (go_at_call_of 12 u3; refine (w_r8eq u3 u4 A _ p_6 x_6 hga).mono ?_; rintro e q7 ⟨rfl, b_7⟩; have hT_7 := hT_6.below b_7; have t_7 := t_6.below b_7; have own_7 := own_6.below b_7; have p_7 := p_6.below b_7; have x_7 := x_6.below b_7; have d_7 := d_6.below b_7; have z_7 := z_6.below b_7; have st_7 := st_6.below b_7; obtain ⟨k0_7, k1_7, k2_7, k3_7⟩ := cas_cells st_7)
      go_wp2_with (go_at_call_of 12 u5; refine (w_r8eq u5 u6 B _ d_7 z_7 hgd).mono ?_; rintro e q8 ⟨rfl, b_8⟩; have hT_8 := hT_7.below b_8; have t_8 := t_7.below b_8; have own_8 := own_7.below b_8; have p_8 := p_7.below b_8; have x_8 := x_7.below b_8; have d_8 := d_7.below b_8; have z_8 := z_7.below b_8; have st_8 := st_7.below b_8; obtain ⟨k0_8, k1_8, k2_8, k3_8⟩ := cas_cells st_8)
      go_wp2_with (go_at_call_of 12 u2; refine (w_r8eq u2 ct0 kt0 _ own_8 t_8 hg).mono ?_; rintro e q9 ⟨rfl, b_9⟩; have hT_9 := hT_8.below b_9; have t_9 := t_8.below b_9; have own_9 := own_8.below b_9; have p_9 := p_8.below b_9; have x_9 := x_8.below b_9; have d_9 := d_8.below b_9; have z_9 := z_8.below b_9; have st_9 := st_8.below b_9; obtain ⟨k0_9, k1_9, k2_9, k3_9⟩ := cas_cells st_9)
      go_wp2_with (go_at_call_of 10 u3; refine (c6 u3 _ hT_9 p_9).mono ?_; rintro e q10 ⟨rfl, b_10⟩; have hT_10 := hT_9.below b_10; have t_10 := t_9.below b_10; have own_10 := own_9.below b_10; have p_10 := p_9.below b_10; have x_10 := x_9.below b_10; have d_10 := d_9.below b_10; have z_10 := z_9.below b_10; have st_10 := st_9.below b_10; obtain ⟨k0_10, k1_10, k2_10, k3_10⟩ := cas_cells st_10)
      go_wp2_with (go_at_call_of 10 u5; refine (c7 u5 _ hT_10 d_10).mono ?_; rintro e q11 ⟨rfl, b_11⟩; have hT_11 := hT_10.below b_11; have t_11 := t_10.below b_11; have own_11 := own_10.below b_11; have p_11 := p_10.below b_11; have x_11 := x_10.below b_11; have d_11 := d_10.below b_11; have z_11 := z_10.below b_11; have st_11 := st_10.below b_11; obtain ⟨k0_11, k1_11, k2_11, k3_11⟩ := cas_cells st_11)
      go_ret
      exact ⟨by simp, below_trans (below_trans (below_trans (below_trans (below_trans (below_trans (below_trans (below_trans (below_trans (below_trans (below_trans (bb) b_1) b_2) b_3) b_4) b_5) b_6) b_7) b_8) b_9) b_10) b_11⟩
    · have h6 := (hfo rfl).1
      simp only [h6] at c6
      have qF : (F == 0) = false := by simpa using hF
      have qM : (F != 0) = true := by simpa using hF
      clear hfo hfd
      go_enter Tryd.func5, Tryd.ntmps5
      go_wp2_with (go_at_call 9; refine (w_alive8 _ hT_0).mono ?_; rintro e q1 ⟨rfl, b_1⟩; have hT_1 := hT_0.below b_1; have t_1 := t_0.below b_1; have y_1 := y_0.below b_1; have st_1 := st_0.below b_1; obtain ⟨k0_1, k1_1, k2_1, k3_1⟩ := cas_cells st_1)
      go_wp2_with (go_at_call 16; refine (c1 _ t_1).mono ?_; rintro e q2 ⟨u2, rfl, o2, b_2⟩; have hT_2 := hT_1.below b_2; have t_2 := t_1.below b_2; have y_2 := y_1.below b_2; have st_2 := st_1.below b_2; obtain ⟨k0_2, k1_2, k2_2, k3_2⟩ := cas_cells st_2; have own_2 := ownT8_read o2.own)
      go_wp2_with (go_at_call 19; refine (c2 u2 _ hT_2 own_2 y_2).mono ?_; rintro e q3 ⟨u3, rfl, p3, b_3⟩; have hT_3 := hT_2.below b_3; have t_3 := t_2.below b_3; have y_3 := y_2.below b_3; have st_3 := st_2.below b_3; obtain ⟨k0_3, k1_3, k2_3, k3_3⟩ := cas_cells st_3; have own_3 := own_2.below b_3; have p_3 := p3)
      go_wp2_with (go_at_call 20; refine (c3 _ t_3 y_3).mono ?_; rintro e q4 ⟨u4, rfl, o4, b_4⟩; have hT_4 := hT_3.below b_4; have t_4 := t_3.below b_4; have y_4 := y_3.below b_4; have st_4 := st_3.below b_4; obtain ⟨k0_4, k1_4, k2_4, k3_4⟩ := cas_cells st_4; have own_4 := own_3.below b_4; have p_4 := p_3.below b_4; have x_4 := ownT8_read o4)
      go_wp2_with (go_at_call 21; refine (c4 u2 _ hT_4 own_4).mono ?_; rintro e q5 ⟨u5, rfl, p5, b_5⟩; have hT_5 := hT_4.below b_5; have t_5 := t_4.below b_5; have st_5 := st_4.below b_5; obtain ⟨k0_5, k1_5, k2_5, k3_5⟩ := cas_cells st_5; have own_5 := own_4.below b_5; have p_5 := p_4.below b_5; have x_5 := x_4.below b_5; have d_5 := p5)
      go_wp2_with (go_at_call 22; refine (c5 _ t_5).mono ?_; rintro e q6 ⟨u6, rfl, o6, b_6⟩; have hT_6 := hT_5.below b_6; have t_6 := t_5.below b_6; have st_6 := st_5.below b_6; obtain ⟨k0_6, k1_6, k2_6, k3_6⟩ := cas_cells st_6; have own_6 := own_5.below b_6; have p_6 := p_5.below b_6; have x_6 := x_5.below b_6; have d_6 := d_5.below b_6; have z_6 := ownT8_read o6)
      go_wp2_with (go_at_call_of 12 u3; refine (w_r8eq u3 u4 A _ p_6 x_6 hga).mono ?_; rintro e q7 ⟨rfl, b_7⟩; have hT_7 := hT_6.below b_7; have t_7 := t_6.below b_7; have own_7 := own_6.below b_7; have p_7 := p_6.below b_7; have x_7 := x_6.below b_7; have d_7 := d_6.below b_7; have z_7 := z_6.below b_7; have st_7 := st_6.below b_7; obtain ⟨k0_7, k1_7, k2_7, k3_7⟩ := cas_cells st_7)
      go_wp2_with (go_at_call_of 12 u5; refine (w_r8eq u5 u6 B _ d_7 z_7 hgd).mono ?_; rintro e q8 ⟨rfl, b_8⟩; have hT_8 := hT_7.below b_8; have t_8 := t_7.below b_8; have own_8 := own_7.below b_8; have p_8 := p_7.below b_8; have x_8 := x_7.below b_8; have d_8 := d_7.below b_8; have z_8 := z_7.below b_8; have st_8 := st_7.below b_8; obtain ⟨k0_8, k1_8, k2_8, k3_8⟩ := cas_cells st_8)
      go_wp2_with (go_at_call_of 12 u2; refine (w_r8eq u2 ct0 kt0 _ own_8 t_8 hg).mono ?_; rintro e q9 ⟨rfl, b_9⟩; have hT_9 := hT_8.below b_9; have t_9 := t_8.below b_9; have own_9 := own_8.below b_9; have p_9 := p_8.below b_9; have x_9 := x_8.below b_9; have d_9 := d_8.below b_9; have z_9 := z_8.below b_9; have st_9 := st_8.below b_9; obtain ⟨k0_9, k1_9, k2_9, k3_9⟩ := cas_cells st_9)
      go_wp2_with (go_at_call_of 10 u3; refine (c6 u3 _ hT_9 p_9).mono ?_; rintro e q10 ⟨rfl, b_10⟩; have hT_10 := hT_9.below b_10; have t_10 := t_9.below b_10; have own_10 := own_9.below b_10; have p_10 := p_9.below b_10; have x_10 := x_9.below b_10; have d_10 := d_9.below b_10; have z_10 := z_9.below b_10; have st_10 := st_9.below b_10; obtain ⟨k0_10, k1_10, k2_10, k3_10⟩ := cas_cells st_10)
      go_ret
      exact ⟨by simp, below_trans (below_trans (below_trans (below_trans (below_trans (below_trans (below_trans (below_trans (below_trans (below_trans (bb) b_1) b_2) b_3) b_4) b_5) b_6) b_7) b_8) b_9) b_10⟩
  · by_cases hF : F = 0
    · subst hF
      have qE : (E == 0) = false := by simpa using hE
      have qN : (E != 0) = true := by simpa using hE
      have h7 := (hfd rfl).1
      simp only [h7] at c7
      clear hfo hfd
      go_enter Tryd.func5, Tryd.ntmps5
      go_wp2_with (go_at_call 9; refine (w_alive8 _ hT_0).mono ?_; rintro e q1 ⟨rfl, b_1⟩; have hT_1 := hT_0.below b_1; have t_1 := t_0.below b_1; have y_1 := y_0.below b_1; have st_1 := st_0.below b_1; obtain ⟨k0_1, k1_1, k2_1, k3_1⟩ := cas_cells st_1)
      go_wp2_with (go_at_call 16; refine (c1 _ t_1).mono ?_; rintro e q2 ⟨u2, rfl, o2, b_2⟩; have hT_2 := hT_1.below b_2; have t_2 := t_1.below b_2; have y_2 := y_1.below b_2; have st_2 := st_1.below b_2; obtain ⟨k0_2, k1_2, k2_2, k3_2⟩ := cas_cells st_2; have own_2 := ownT8_read o2.own)
      go_wp2_with (go_at_call 19; refine (c2 u2 _ hT_2 own_2 y_2).mono ?_; rintro e q3 ⟨u3, rfl, p3, b_3⟩; have hT_3 := hT_2.below b_3; have t_3 := t_2.below b_3; have y_3 := y_2.below b_3; have st_3 := st_2.below b_3; obtain ⟨k0_3, k1_3, k2_3, k3_3⟩ := cas_cells st_3; have own_3 := own_2.below b_3; have p_3 := p3)
      go_wp2_with (go_at_call 20; refine (c3 _ t_3 y_3).mono ?_; rintro e q4 ⟨u4, rfl, o4, b_4⟩; have hT_4 := hT_3.below b_4; have t_4 := t_3.below b_4; have y_4 := y_3.below b_4; have st_4 := st_3.below b_4; obtain ⟨k0_4, k1_4, k2_4, k3_4⟩ := cas_cells st_4; have own_4 := own_3.below b_4; have p_4 := p_3.below b_4; have x_4 := ownT8_read o4)
      go_wp2_with (go_at_call 21; refine (c4 u2 _ hT_4 own_4).mono ?_; rintro e q5 ⟨u5, rfl, p5, b_5⟩; have hT_5 := hT_4.below b_5; have t_5 := t_4.below b_5; have st_5 := st_4.below b_5; obtain ⟨k0_5, k1_5, k2_5, k3_5⟩ := cas_cells st_5; have own_5 := own_4.below b_5; have p_5 := p_4.below b_5; have x_5 := x_4.below b_5; have d_5 := p5)
      go_wp2_with (go_at_call 22; refine (c5 _ t_5).mono ?_; rintro e q6 ⟨u6, rfl, o6, b_6⟩; have hT_6 := hT_5.below b_6; have t_6 := t_5.below b_6; have st_6 := st_5.below b_6; obtain ⟨k0_6, k1_6, k2_6, k3_6⟩ := cas_cells st_6; have own_6 := own_5.below b_6; have p_6 := p_5.below b_6; have x_6 := x_5.below b_6; have d_6 := d_5.below b_6; have z_6 := ownT8_read o6)
      go_wp2_with (go_at_call_of 12 u3; refine (w_r8eq u3 u4 A _ p_6 x_6 hga).mono ?_; rintro e q7 ⟨rfl, b_7⟩; have hT_7 := hT_6.below b_7; have t_7 := t_6.below b_7; have own_7 := own_6.below b_7; have p_7 := p_6.below b_7; have x_7 := x_6.below b_7; have d_7 := d_6.below b_7; have z_7 := z_6.below b_7; have st_7 := st_6.below b_7; obtain ⟨k0_7, k1_7, k2_7, k3_7⟩ := cas_cells st_7)
      go_wp2_with (go_at_call_of 12 u5; refine (w_r8eq u5 u6 B _ d_7 z_7 hgd).mono ?_; rintro e q8 ⟨rfl, b_8⟩; have hT_8 := hT_7.below b_8; have t_8 := t_7.below b_8; have own_8 := own_7.below b_8; have p_8 := p_7.below b_8; have x_8 := x_7.below b_8; have d_8 := d_7.below b_8; have z_8 := z_7.below b_8; have st_8 := st_7.below b_8; obtain ⟨k0_8, k1_8, k2_8, k3_8⟩ := cas_cells st_8)
      go_wp2_with (go_at_call_of 12 u2; refine (w_r8eq u2 ct0 kt0 _ own_8 t_8 hg).mono ?_; rintro e q9 ⟨rfl, b_9⟩; have hT_9 := hT_8.below b_9; have t_9 := t_8.below b_9; have own_9 := own_8.below b_9; have p_9 := p_8.below b_9; have x_9 := x_8.below b_9; have d_9 := d_8.below b_9; have z_9 := z_8.below b_9; have st_9 := st_8.below b_9; obtain ⟨k0_9, k1_9, k2_9, k3_9⟩ := cas_cells st_9)
      go_wp2_with (go_at_call_of 10 u5; refine (c7 u5 _ hT_9 d_9).mono ?_; rintro e q10 ⟨rfl, b_10⟩; have hT_10 := hT_9.below b_10; have t_10 := t_9.below b_10; have own_10 := own_9.below b_10; have p_10 := p_9.below b_10; have x_10 := x_9.below b_10; have d_10 := d_9.below b_10; have z_10 := z_9.below b_10; have st_10 := st_9.below b_10; obtain ⟨k0_10, k1_10, k2_10, k3_10⟩ := cas_cells st_10)
      go_ret
      exact ⟨by simp, below_trans (below_trans (below_trans (below_trans (below_trans (below_trans (below_trans (below_trans (below_trans (below_trans (bb) b_1) b_2) b_3) b_4) b_5) b_6) b_7) b_8) b_9) b_10⟩
    · have qE : (E == 0) = false := by simpa using hE
      have qN : (E != 0) = true := by simpa using hE
      have qF : (F == 0) = false := by simpa using hF
      have qM : (F != 0) = true := by simpa using hF
      clear hfo hfd
      go_enter Tryd.func5, Tryd.ntmps5
      go_wp2_with (go_at_call 9; refine (w_alive8 _ hT_0).mono ?_; rintro e q1 ⟨rfl, b_1⟩; have hT_1 := hT_0.below b_1; have t_1 := t_0.below b_1; have y_1 := y_0.below b_1; have st_1 := st_0.below b_1; obtain ⟨k0_1, k1_1, k2_1, k3_1⟩ := cas_cells st_1)
      go_wp2_with (go_at_call 16; refine (c1 _ t_1).mono ?_; rintro e q2 ⟨u2, rfl, o2, b_2⟩; have hT_2 := hT_1.below b_2; have t_2 := t_1.below b_2; have y_2 := y_1.below b_2; have st_2 := st_1.below b_2; obtain ⟨k0_2, k1_2, k2_2, k3_2⟩ := cas_cells st_2; have own_2 := ownT8_read o2.own)
      go_wp2_with (go_at_call 19; refine (c2 u2 _ hT_2 own_2 y_2).mono ?_; rintro e q3 ⟨u3, rfl, p3, b_3⟩; have hT_3 := hT_2.below b_3; have t_3 := t_2.below b_3; have y_3 := y_2.below b_3; have st_3 := st_2.below b_3; obtain ⟨k0_3, k1_3, k2_3, k3_3⟩ := cas_cells st_3; have own_3 := own_2.below b_3; have p_3 := p3)
      go_wp2_with (go_at_call 20; refine (c3 _ t_3 y_3).mono ?_; rintro e q4 ⟨u4, rfl, o4, b_4⟩; have hT_4 := hT_3.below b_4; have t_4 := t_3.below b_4; have y_4 := y_3.below b_4; have st_4 := st_3.below b_4; obtain ⟨k0_4, k1_4, k2_4, k3_4⟩ := cas_cells st_4; have own_4 := own_3.below b_4; have p_4 := p_3.below b_4; have x_4 := ownT8_read o4)
      go_wp2_with (go_at_call 21; refine (c4 u2 _ hT_4 own_4).mono ?_; rintro e q5 ⟨u5, rfl, p5, b_5⟩; have hT_5 := hT_4.below b_5; have t_5 := t_4.below b_5; have st_5 := st_4.below b_5; obtain ⟨k0_5, k1_5, k2_5, k3_5⟩ := cas_cells st_5; have own_5 := own_4.below b_5; have p_5 := p_4.below b_5; have x_5 := x_4.below b_5; have d_5 := p5)
      go_wp2_with (go_at_call 22; refine (c5 _ t_5).mono ?_; rintro e q6 ⟨u6, rfl, o6, b_6⟩; have hT_6 := hT_5.below b_6; have t_6 := t_5.below b_6; have st_6 := st_5.below b_6; obtain ⟨k0_6, k1_6, k2_6, k3_6⟩ := cas_cells st_6; have own_6 := own_5.below b_6; have p_6 := p_5.below b_6; have x_6 := x_5.below b_6; have d_6 := d_5.below b_6; have z_6 := ownT8_read o6)
      go_wp2_with (go_at_call_of 12 u3; refine (w_r8eq u3 u4 A _ p_6 x_6 hga).mono ?_; rintro e q7 ⟨rfl, b_7⟩; have hT_7 := hT_6.below b_7; have t_7 := t_6.below b_7; have own_7 := own_6.below b_7; have p_7 := p_6.below b_7; have x_7 := x_6.below b_7; have d_7 := d_6.below b_7; have z_7 := z_6.below b_7; have st_7 := st_6.below b_7; obtain ⟨k0_7, k1_7, k2_7, k3_7⟩ := cas_cells st_7)
      go_wp2_with (go_at_call_of 12 u5; refine (w_r8eq u5 u6 B _ d_7 z_7 hgd).mono ?_; rintro e q8 ⟨rfl, b_8⟩; have hT_8 := hT_7.below b_8; have t_8 := t_7.below b_8; have own_8 := own_7.below b_8; have p_8 := p_7.below b_8; have x_8 := x_7.below b_8; have d_8 := d_7.below b_8; have z_8 := z_7.below b_8; have st_8 := st_7.below b_8; obtain ⟨k0_8, k1_8, k2_8, k3_8⟩ := cas_cells st_8)
      go_wp2_with (go_at_call_of 12 u2; refine (w_r8eq u2 ct0 kt0 _ own_8 t_8 hg).mono ?_; rintro e q9 ⟨rfl, b_9⟩; have hT_9 := hT_8.below b_9; have t_9 := t_8.below b_9; have own_9 := own_8.below b_9; have p_9 := p_8.below b_9; have x_9 := x_8.below b_9; have d_9 := d_8.below b_9; have z_9 := z_8.below b_9; have st_9 := st_8.below b_9; obtain ⟨k0_9, k1_9, k2_9, k3_9⟩ := cas_cells st_9)
      go_ret
      exact ⟨by simp, below_trans (below_trans (below_trans (below_trans (below_trans (below_trans (below_trans (below_trans (below_trans (bb) b_1) b_2) b_3) b_4) b_5) b_6) b_7) b_8) b_9⟩

set_option maxRecDepth 100000 in
/-- what the walk gives, for every argument and every world that holds what is listed -/
theorem contract (H : Type) (enc : TypeId × Value → H) (W : World) (base : Nat) (args : Array Value) (ds gs : List (DataW H)) (before : List MemPlace)
    (hval0 : ∀ (j : Nat) t v, Tryd.f5.params[j]? = some t → args[j]? = some v → Value.okWide Tryd.prog W .any base t v)
    (hW : DataW.Whole enc Tryd.prog Tryd.f5.params.toList Rows.treeSetsSpec.vars false W args.toList ds gs before)
    (hsz0 : (DataW.weightsEach Tryd.prog (Tryd.f5.params.toList ++ Rows.treeSetsSpec.plain.varTypes Tryd.prog) (ds ++ gs)).all (· ≤ reachBytes) = true)
    (hL : laidMetH Tryd.prog Rows.treeSetsRow.laid W) :
    Calls Tryd.prog 5 args W fun e W' => ∃ v, e = .returned v ∧ Rows.treeSetsSpec.post enc Tryd.prog Tryd.f5 false true false false W args v W' := by
  have hval : ∀ (j : Nat) t v, Tryd.f5.params[j]? = some t → args[j]? = some v → Value.okWide Tryd.prog W .any base t v := hval0
  have hsz : (DataW.weightsEach Tryd.prog (Tryd.f5.params.toList ++ Rows.treeSetsSpec.plain.varTypes Tryd.prog) (ds ++ gs)).all (· ≤ reachBytes) = true := hsz0
  have hT : Tab W := tab_of_laid hL
  have hW' := hW
  obtain ⟨p, q, hA0, hV, rfl, hfz, hnd⟩ := hW
  have hA : DataW.TrodAll enc Tryd.prog W 0 (fun _ => true) true Tryd.f5.params.toList args.toList ds p := hA0
  rw [Tryd.params5] at hA hval hsz
  obtain ⟨v0, vs0, d0, ds0, p0, q0, hargs, rfl, rfl, h0, r0⟩ := trodAll_cons hA
  obtain ⟨rfl, rfl, rfl⟩ := trodAll_nil r0
  obtain rfl : args = #[v0] := by cases args; simp_all
  obtain ⟨rfl, rfl⟩ := trodVars_none hV
  have k0 := h0
  have lt0 : ∀ x ∈ p0, x.block < W.heap.size := by obtain ⟨m, hm⟩ := k0; exact DataW.trod_lt m _ _ _ hm
  obtain ⟨ct0, cn0, cs0, cd0, kt0, kb0, rfl, r100, g0, z0, wn0, ws0, rd0, bd0, zd0⟩ := cas_open (hval 0 30 v0 rfl rfl) h0 (fun n hn => by simpa using List.all_eq_true.1 hsz n (DataW.weights_mem_each (j := 0) (t := 30) (d := d0) rfl rfl n hn))
  clear hA0 hval0 hsz0
  refine (walk ct0 cn0 cs0 cd0 kt0 kb0 W hT r100 g0 z0 wn0 ws0 rd0 bd0 zd0).mono fun e W' ⟨he, bel⟩ => ?_
  subst he
  exact ⟨_, rfl, _, _, _, [], _, [], hW', trodAll_mk1 (shut_bool Tryd.underlying4 _), (trodAll_cons_mk (Below.trod laidOut (by kernel_rfl) (of_decide_eq_true (by kernel_rfl)) k0 bel lt0) trodAll_mk0), rfl, bel.frame _, fun h => by cases h⟩

/-- a world for the witness: the settled one, the listed blocks as their initialisers lay them -/
def layBlock (b : Nat × Array Value) : Obj → Obj
  | .cells _ t frozen => .cells b.2 t frozen
  | o => o
noncomputable def laidWorld (os : Os) : World :=
  { World.holding Tryd.prog os ⟨#[], #[], []⟩ with heap := laidBlocks.foldl (fun h b => h.modify b.1 (layBlock b)) (World.holding Tryd.prog os ⟨#[], #[], []⟩).heap }
theorem laid_met (os : Os) : laidMet Tryd.prog Rows.treeSetsRow.laid ((laidWorld os).forCall (fun _ _ => 0) ⟨#[], #[.agg #[.slice none 0 0, .int .i64 0, .string ⟨#[]⟩, .slice none 0 0]], []⟩).memory :=
  laidMet_of_run' 8 (by kernel_rfl) (by kernel_rfl)
theorem reads (os : Os) {H : Type} (enc : TypeId × Value → H) : ∃ places, DataW.whole enc Tryd.prog ((laidWorld os).forCall (fun _ _ => 0) ⟨#[], #[.agg #[.slice none 0 0, .int .i64 0, .string ⟨#[]⟩, .slice none 0 0]], []⟩).memory Tryd.f5.params.toList Rows.treeSetsSpec.vars false #[.agg #[.slice none 0 0, .int .i64 0, .string ⟨#[]⟩, .slice none 0 0]].toList 8 = some ([.agg [.nil, .lit (.int .i64 0), .lit (.string []), .nil]], [], places) :=
  ⟨[], by kernel_rfl⟩

set_option maxRecDepth 100000 in
theorem lifted (os : Os) (started : os.Started) (H : Type) (enc : TypeId × Value → H) (F : Stop.Interp) :
    ReturnsInHanded {} Tryd.checked os 5 .any ((OpenSpec.ofChange Rows.treeSetsSpec).preRow enc Tryd.prog Tryd.f5 Rows.treeSetsRow.domain false Rows.treeSetsRow.laid) (((OpenSpec.ofChange Rows.treeSetsSpec).at F).post enc Tryd.prog Tryd.f5 false true false false) := by
  obtain ⟨places, hx⟩ := reads os enc
  refine returnsInHanded_of_row (C := Tryd.checked) (s := OpenSpec.ofChange Rows.treeSetsSpec) own started (by kernel_rfl) Tryd.func5
    (witness_row_at (enc := enc) (C := Tryd.checked) false (laidWorld os) #[.agg #[.slice none 0 0, .int .i64 0, .string ⟨#[]⟩, .slice none 0 0]] rfl (by kernel_rfl) (by kernel_rfl) (by kernel_rfl)
      (OpenSpec.preRow_of_cond 8 hx (by kernel_rfl) (fun k hk => by cases hk) (by kernel_rfl) (laid_met os))) ?_
  intro W base args ds gs before hval hW _ hcnd hsz hL _ _
  exact contract H enc W base args ds gs before hval hW hsz hL

theorem said : Rows.TreeSetsSaid :=
  OpenClaim.holds_of_cond 5 Tryd.f5 rfl rfl rfl rfl rfl rfl rfl ⟨rfl, rfl, rfl, rfl, rfl⟩ rfl rfl rfl rfl rfl (by kernel_rfl) Tryd.func5 (by kernel_rfl)
    (of_decide_eq_true (by kernel_rfl)) (by unfold Func.isWrapper; first | (rw [if_pos (by decide +kernel)]; kernel_rfl) | (rw [if_neg (by decide +kernel)]; exact ⟨rfl, rfl⟩))
    (fun os started H enc _ F => by rw [OpenClaim.pre_eq_preRow]; exact lifted os started H enc F)

theorem plain (f : FuncId) (fn : Func) (hf : Tryd.pinned.checked.prog.funcNamed "tinder/tinderlaw08.TreeSets" = some f) (hfn : Tryd.pinned.checked.prog.funcs[f]? = some fn) :
    false = Tryd.pinned.checked.prog.looks [] ∧ ∀ (j : Nat) t, fn.params[j]? = some t → Tryd.pinned.checked.prog.wantsStandIn t = false := by
  obtain rfl : f = 5 := Option.some.inj ((show Tryd.prog.funcNamed "tinder/tinderlaw08.TreeSets" = some 5 by kernel_rfl).symm.trans hf) |>.symm
  obtain rfl : fn = Tryd.f5 := (Option.some.inj (Tryd.func5.symm.trans hfn)).symm
  refine ⟨by kernel_rfl, fun j t ht => ?_⟩
  rw [Tryd.params5] at ht
  rcases j with _ | j
  · obtain rfl : t = 30 := by simpa using ht.symm
    exact (show Tryd.prog.wantsStandIn 30 = false by kernel_rfl)
  · simp at ht

theorem card : Rows.TreeSetsCardSaid :=
  Claim7.holds_tied_plain_at .later [] _ _ _ _ said (fun _ h => by cases h) (by kernel_rfl) (fun _ h => by cases h) treeSets_row_tie rfl ⟨rfl, rfl⟩ (by kernel_rfl) rfl plain (by kernel_rfl)
end Go.Proofs.YtkdaimagdmbnfaaDoor.treeSets
namespace Go.Proofs.YtkdaimagdmbnfaaDoor
theorem treeSets_holds : Rows.TreeSetsCardSaid := treeSets.card
#print axioms treeSets_holds
end Go.Proofs.YtkdaimagdmbnfaaDoor
