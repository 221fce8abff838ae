/-
  A byte that is turned in a bank makes it wrong, unless it lies behind the data, or the sums meet.
-/
import Derived.Test.YtlnlifijnijgmabRows
import Derived.WalkKit
import Derived.ProofKit
import Derived.OpenShut
import Derived.ShutString
import Derived.ChangeOld
import Derived.Below
import Derived.Carry
import Derived.SizedLaws
import Derived.Test.YtlnlifijnijgmabSl
import Derived.Test.YtlnlifijnijgmabNlk
import Derived.Test.YtlnlifijnijgmabNtl
import Derived.Test.YtlnlifijnijgmabNr1
namespace Go.Proofs.Ytlnlifijnijgmab.nvramTells
open Go.ChangeShapes Go.WideShapes Go.ChangeAt Go.RowKit
open Go.ChangeMaps (open_string shut_string)
set_option linter.unusedVariables false
set_option linter.unusedSimpArgs false

theorem own : ownKnob Try.prog.godebug = none := by kernel_rfl
theorem laidOut : laidOutB Try.prog = true := by kernel_rfl
theorem bytes5 : Try.prog.bytesOf 5 = 1 := by kernel_rfl

set_option maxHeartbeats 4000000 in
set_option maxRecDepth 100000 in
theorem walk (v0 : Value) (x0 : List Int) (a1 : Int) (a2 : Int) (w : World) (r0 : Rd .u8 w v0 x0) (f0 : ∀ n ∈ x0, (Lit.int .u8 n).wf = true) (z0 : x0.length * 1 ≤ 140737488351232) (w1 : (Lit.int .u16 a1).wf = true) (w2 : (Lit.int .u8 a2).wf = true) :
    Calls Try.prog 3 #[v0, .int .u16 a1, .int .u8 a2] w fun e w' => e = .returned (.bool true) ∧ Below w.heap.size w w' := by
  have hb0 : bytesL x0 := fun n hn => by have := f0 n hn; simp [Lit.wf, IntKind.min, IntKind.max, IntKind.bits, IntKind.signed] at this; omega
  have t0 : 0 ≤ a2 ∧ a2 < 256 := by have := w2; simp [Lit.wf, IntKind.min, IntKind.max, IntKind.bits, IntKind.signed] at this; omega
  have s0 : 0 ≤ a1 ∧ a1 < 65536 := by have := w1; simp [Lit.wf, IntKind.min, IntKind.max, IntKind.bits, IntKind.signed] at this; omega
  obtain ⟨t0, t1⟩ := t0
  obtain ⟨s0, s1⟩ := s0
  have hl0 := rd_len r0 uB (P := Try.prog)
  have hmk := mk_nv0
  have c1 := fun v w h rd => w_pplan18 v v0 nv0 x0 w h rd nv0_bytes hb0
  have own0 := own_nv0
  have bx0 := fun w : World => box_below w (.cells (madeCells #[.int .u8 0] 512) 5)
  clear w1 w2
  by_cases hbig : (248 : Int) < x0.length
  · rw [pln_long nv0 x0 nv0_len hbig] at c1
    simp only at c1
    go_enter Try.func3, Try.ntmps3
    go_upto_region 4 with (go_at_call 4; refine (w_alive18 _).mono ?_; rintro e q1 ⟨rfl, b1⟩)
    have o0 := own0 q1
    have bb := bx0 q1
    generalize (q1.alloc (.cells (madeCells #[.int .u8 0] 512) 5)) = W0 at o0 bb ⊢
    have b10 := below_trans b1 bb
    go_wp2_with (go_at_call 5; refine (c1 _ _ (Rd_own o0).1 (r0.below b10)).mono ?_; rintro e q2 ⟨v2, rfl, r2, b2⟩)
    go_ret
    exact ⟨rfl, below_trans b10 b2⟩
  rw [nv0_pln x0 (by omega)] at c1
  simp only at c1
  have hWl : ((wrtF 0 1 x0).length : Int) = 9 + x0.length := by rw [wrt_len]; omega
  have c2 := fun v vl w h rl => w_papply18 v vl nv0 (wrtF 0 1 x0) (wrtF 0 1 x0).length w h rl (by rw [nv0_len]; decide) (by omega) (by omega)
  rw [nv0_apl x0 _ rfl] at c2
  have hMl := nv1_len x0
  have hMb := nv1_bytes hb0 (by omega)
  have hri := fun K hk y h => tell_right (d := x0) (by omega) K hk y h
  have hwr := fun K hk y y0 y1 hy h => tell_wrong (d := x0) (by omega) hb0 K hk y y0 y1 hy h
  have hhd := fun K hk hk2 y T hT n hn0 hn => tell_head (d := x0) (by omega) K hk hk2 y T hT n hn0 hn
  obtain ⟨R, hR⟩ : ∃ R, wrtF 0 1 x0 = R := ⟨_, rfl⟩
  obtain ⟨M, hM⟩ : ∃ M, nv1 x0 = M := ⟨_, rfl⟩
  rw [hR] at c1 hWl
  simp only [hR, hM] at c2
  rw [hM] at hMl hMb
  simp only [hM] at hri hwr hhd
  clear hR hM
  have hRm : (R.length : Int) ≤ 257 := by omega
  have HWl := hid hWl
  clear hWl
  by_cases htz : a2 = 0
  · have hq : (a2 == 0) = true := by simpa using htz
    clear htz
    go_enter Try.func3, Try.ntmps3
    go_upto_region 4 with (go_at_call 4; refine (w_alive18 _).mono ?_; rintro e q1 ⟨rfl, b1⟩)
    have o0 := own0 q1
    have bb := bx0 q1
    generalize (q1.alloc (.cells (madeCells #[.int .u8 0] 512) 5)) = W0 at o0 bb ⊢
    have b10 := below_trans b1 bb
    go_wp2_with (go_at_call 5; refine (c1 _ _ (Rd_own o0).1 (r0.below b10)).mono ?_; rintro e q2 ⟨v2, rfl, r2, b2⟩)
    go_ret
    exact ⟨rfl, below_trans b10 b2⟩
  have hq : (a2 == 0) = false := by simpa using htz
  have hrem : a1.tmod 256 = a1 % 256 := Int.tmod_eq_emod_of_nonneg s0
  obtain ⟨K, hK⟩ : ∃ K, a1 % 256 = K := ⟨_, rfl⟩
  have hK0 : 0 ≤ K := by omega
  have hK1 : K < 256 := by omega
  rw [hK] at hrem
  obtain ⟨Y, hY⟩ : ∃ Y, M.getD K.toNat 0 = Y := ⟨_, rfl⟩
  have hYb : 0 ≤ Y ∧ Y < 256 := by rw [← hY]; exact getD_byte hMb _
  obtain ⟨X, hX⟩ : ∃ X, bits .xor .u8 Y a2 = X := ⟨_, rfl⟩
  have hXs : (0 ≤ X ∧ X < 256) ∧ ¬ X = Y := by
    have e := u8_xor Y a2 hYb.1 hYb.2 t0 t1
    have hlt : Y.toNat ^^^ a2.toNat < 2 ^ 8 := Nat.xor_lt_two_pow (by omega) (by omega)
    have hne : ¬ (Y.toNat ^^^ a2.toNat = Y.toNat) := by
      intro h
      have : a2.toNat = 0 := by
        have h2 := congrArg (fun z => Y.toNat ^^^ z) h
        simpa [← Nat.xor_assoc] using h2
      omega
    rw [← hX, e]
    omega
  obtain ⟨⟨X0, X1⟩, hXY⟩ := hXs
  have hTb : bytesL (M.set K.toNat X) := fun x hx => by
    rcases List.mem_or_eq_of_mem_set hx with hx | rfl
    · exact hMb x hx
    · exact ⟨X0, X1⟩
  have hTl : (M.set K.toNat X).length = 512 := by rw [List.length_set]; exact hMl
  have cR := fun v w h => w_precover18 v (M.set K.toNat X) w h hTb (by omega)
  clear hK htz
  by_cases h8 : 8 + (x0.length : Int) ≤ K
  · rw [hri K.toNat (by omega) X (by omega)] at cR
    simp only at cR
    obtain ⟨T, hT⟩ : ∃ T, M.set K.toNat X = T := ⟨_, rfl⟩
    clear hri hwr hhd hXY
    go_enter Try.func3, Try.ntmps3
    go_upto_region 4 with (go_at_call 4; refine (w_alive18 _).mono ?_; rintro e q1 ⟨rfl, b1⟩)
    have o0 := own0 q1
    have bb := bx0 q1
    generalize (q1.alloc (.cells (madeCells #[.int .u8 0] 512) 5)) = W0 at o0 bb ⊢
    have b10 := below_trans b1 bb
    go_upto_region 9 with (first
      | (go_at_call 5; refine (c1 _ _ (Rd_own o0).1 (r0.below b10)).mono ?_; rintro e q2 ⟨v2, rfl, r2, b2⟩; have hl2 := slr_len r2 uPb (P := Try.prog))
      | (go_at_call 6; refine (c2 _ _ _ ((Rd_own o0).1.below b2) r2).mono ?_; rintro e q3 ⟨v3, rfl, o3, b3⟩)
      | fail)
    obtain ⟨ad, i1, i2, i3, i4, i5⟩ := own_set o3 uB zB K hK0 (by omega)
    rw [hY] at i2
    have i6 := i5 X
    have bs := (below_trans (below_trans b10 b2) b3).setCell (Nat.le_trans (below_trans b10 b2).size i4) (.int .u8 X)
    go_upto_region 10 with fail
    generalize (q3.setCell ad (.int .u8 X)) = W4 at i6 bs ⊢
    have r4 := (Rd_own i6).1
    clear i1 i2 i3 i4 i5 i6 o0 bb b10 o3 b3 b2 r2 hmk own0 bx0
    rw [hT] at r4 cR
    go_wp2_with (first
      | (go_at_call 7; refine (cR _ _ r4).mono ?_; rintro e q5 ⟨v5, rfl, r5, b5⟩; have b6 := below_trans bs b5)
      | (go_at_call 8; refine (w_rsame v5 v0 x0 x0 _ r5 (r0.below b6) hb0 hb0).mono ?_; rintro e q6 ⟨rfl, hw⟩; obtain rfl := hw.symm))
    go_ret
    exact ⟨ret_b (by simp), b6⟩
  by_cases hz : K = 0 ∨ 4 ≤ K
  · rw [hwr K.toNat (by omega) X X0 X1 (by rw [hY]; exact hXY) (by omega)] at cR
    simp only at cR
    clear hri hwr hhd hXY
    go_enter Try.func3, Try.ntmps3
    go_upto_region 4 with (go_at_call 4; refine (w_alive18 _).mono ?_; rintro e q1 ⟨rfl, b1⟩)
    have o0 := own0 q1
    have bb := bx0 q1
    generalize (q1.alloc (.cells (madeCells #[.int .u8 0] 512) 5)) = W0 at o0 bb ⊢
    have b10 := below_trans b1 bb
    go_upto_region 9 with (first
      | (go_at_call 5; refine (c1 _ _ (Rd_own o0).1 (r0.below b10)).mono ?_; rintro e q2 ⟨v2, rfl, r2, b2⟩; have hl2 := slr_len r2 uPb (P := Try.prog))
      | (go_at_call 6; refine (c2 _ _ _ ((Rd_own o0).1.below b2) r2).mono ?_; rintro e q3 ⟨v3, rfl, o3, b3⟩)
      | fail)
    obtain ⟨ad, i1, i2, i3, i4, i5⟩ := own_set o3 uB zB K hK0 (by omega)
    rw [hY] at i2
    have i6 := i5 X
    have bs := (below_trans (below_trans b10 b2) b3).setCell (Nat.le_trans (below_trans b10 b2).size i4) (.int .u8 X)
    go_upto_region 10 with fail
    generalize (q3.setCell ad (.int .u8 X)) = W4 at i6 bs ⊢
    have r4 := (Rd_own i6).1
    clear i1 i2 i3 i4 i5 i6 o0 bb b10 o3 b3 b2 r2 hmk own0 bx0
    obtain ⟨a2', y2, p21, p22, p23, p24, p25⟩ := mem_at r4 hTb 2 (by omega) (by omega)
    obtain ⟨a3', y3, p31, p32, p33, p34, p35⟩ := mem_at r4 hTb 3 (by omega) (by omega)
    rw [show (2 : Int).toNat = 2 from rfl] at p25
    rw [show (3 : Int).toNat = 3 from rfl] at p35
    have hz2 : (decide (K < 4) && decide (0 < K)) = false := by rw [Bool.and_eq_false_iff, decide_eq_false_iff_not, decide_eq_false_iff_not]; omega
    clear p25 p35
    obtain ⟨T, hT⟩ : ∃ T, M.set K.toNat X = T := ⟨_, rfl⟩
    rw [hT] at r4 cR
    rcases hz with rfl | hz
    · go_wp2_with (go_at_call 7; refine (cR _ _ r4).mono ?_; rintro e q5 ⟨v5, rfl, r5, b5⟩; have hl5 : ∀ ty w', (Builtin.len_ #[22] ty #[v5]).run Try.prog w' = .ok (.int .i64 0) w' := rd_len r5 uB (P := Try.prog); have b6 := below_trans bs b5; have f2 := below_cell b5 p22; have f3 := below_cell b5 p32)
      go_quiet (fail)
      go_wp2_with fail
      go_ret
      exact ⟨rfl, below_drewN b6 _⟩
    · go_wp2_with (go_at_call 7; refine (cR _ _ r4).mono ?_; rintro e q5 ⟨v5, rfl, r5, b5⟩; have hl5 : ∀ ty w', (Builtin.len_ #[22] ty #[v5]).run Try.prog w' = .ok (.int .i64 0) w' := rd_len r5 uB (P := Try.prog); have b6 := below_trans bs b5; have f2 := below_cell b5 p22; have f3 := below_cell b5 p32)
      go_quiet (fail)
      go_wp2_with fail
      go_ret
      exact ⟨rfl, below_drewN b6 _⟩
  have hz1 : 0 < K := by omega
  have hz4 : K < 4 := by omega
  clear hz hri hwr hXY h8
  obtain ⟨T, hT⟩ : ∃ T, M.set K.toNat X = T := ⟨_, rfl⟩
  have hh := hhd K.toNat (by omega) (by omega) X T hT
  rw [hT] at hTb hTl
  simp only [hT] at cR
  clear hhd
  go_enter Try.func3, Try.ntmps3
  go_upto_region 4 with (go_at_call 4; refine (w_alive18 _).mono ?_; rintro e q1 ⟨rfl, b1⟩)
  have o0 := own0 q1
  have bb := bx0 q1
  generalize (q1.alloc (.cells (madeCells #[.int .u8 0] 512) 5)) = W0 at o0 bb ⊢
  have b10 := below_trans b1 bb
  go_upto_region 9 with (first
    | (go_at_call 5; refine (c1 _ _ (Rd_own o0).1 (r0.below b10)).mono ?_; rintro e q2 ⟨v2, rfl, r2, b2⟩; have hl2 := slr_len r2 uPb (P := Try.prog))
    | (go_at_call 6; refine (c2 _ _ _ ((Rd_own o0).1.below b2) r2).mono ?_; rintro e q3 ⟨v3, rfl, o3, b3⟩)
    | fail)
  obtain ⟨ad, i1, i2, i3, i4, i5⟩ := own_set o3 uB zB K hK0 (by omega)
  rw [hY] at i2
  have i6 := i5 X
  have bs := (below_trans (below_trans b10 b2) b3).setCell (Nat.le_trans (below_trans b10 b2).size i4) (.int .u8 X)
  go_upto_region 10 with fail
  generalize (q3.setCell ad (.int .u8 X)) = W4 at i6 bs ⊢
  have r4 := (Rd_own i6).1
  clear i1 i2 i3 i4 i5 i6 o0 bb b10 o3 b3 b2 r2 hmk own0 bx0
  rw [hT] at r4
  obtain ⟨a2', y2, p21, p22, p23, p24, p25⟩ := mem_at r4 hTb 2 (by omega) (by omega)
  obtain ⟨a3', y3, p31, p32, p33, p34, p35⟩ := mem_at r4 hTb 3 (by omega) (by omega)
  rw [show (2 : Int).toNat = 2 from rfl] at p25
  rw [show (3 : Int).toNat = 3 from rfl] at p35
  rw [p25, p35] at hh
  have hh2 := hh (256 * y2 + y3) (by omega) rfl
  clear hh
  by_cases hn : 248 < 256 * y2 + y3
  · rw [hh2.1 hn] at cR
    simp only at cR
    clear hh2 p25 p35
    go_wp2_with (go_at_call 7; refine (cR _ _ r4).mono ?_; rintro e q5 ⟨v5, rfl, r5, b5⟩; have hl5 : ∀ ty w', (Builtin.len_ #[22] ty #[v5]).run Try.prog w' = .ok (.int .i64 0) w' := rd_len r5 uB (P := Try.prog); have b6 := below_trans bs b5; have f2 := below_cell b5 p22; have f3 := below_cell b5 p32)
    go_quiet (fail)
    go_wp2_with fail
    go_ret
    exact ⟨rfl, below_drewN b6 _⟩
  have hO := hh2.2 (by omega)
  have hn0 : 0 ≤ 256 * y2 + y3 := by omega
  obtain ⟨e1, y1, p11, p12, p13, p14, p15⟩ := mem_at r4 hTb 1 (by omega) (by omega)
  obtain ⟨e4, y4, p41, p42, p43, p44, p45⟩ := mem_at r4 hTb 4 (by omega) (by omega)
  obtain ⟨e5, y5, p51, p52, p53, p54, p55⟩ := mem_at r4 hTb 5 (by omega) (by omega)
  obtain ⟨e6, y6, p61, p62, p63, p64, p65⟩ := mem_at r4 hTb 6 (by omega) (by omega)
  obtain ⟨e7, y7, p71, p72, p73, p74, p75⟩ := mem_at r4 hTb 7 (by omega) (by omega)
  rw [show (1 : Int).toNat = 1 from rfl] at p15
  rw [show (4 : Int).toNat = 4 from rfl] at p45
  rw [show (5 : Int).toNat = 5 from rfl] at p55
  rw [show (6 : Int).toNat = 6 from rfl] at p65
  rw [show (7 : Int).toNat = 7 from rfl] at p75
  rw [p15, p45, p55, p65, p75] at hO
  obtain ⟨vd, rd, sd, -, -⟩ := rd_cutI r4 uB zB 8 (8 + (256 * y2 + y3)) (by omega) (by omega) (by omega)
  rw [show (8 : Int).toNat = 8 from rfl, show (8 + (256 * y2 + y3) - 8).toNat = (256 * y2 + y3).toNat by omega] at rd
  have hDb : bytesL ((T.drop 8).take (256 * y2 + y3).toNat) := bytes_take (bytes_drop hTb _) _
  have hDl : ((T.drop 8).take (256 * y2 + y3).toNat).length ≤ 512 := by simp only [List.length_take, List.length_drop]; omega
  obtain ⟨D, hD⟩ : ∃ D, (T.drop 8).take (256 * y2 + y3).toNat = D := ⟨_, rfl⟩
  rw [hD] at hO rd hDb hDl
  have cS := fun w h => w_rsum18 y1 vd D w p13 p14 h hDb (by omega)
  have hsb := ns_bd y1 D
  obtain ⟨S, hS⟩ : ∃ S, nsF y1 D = S := ⟨_, rfl⟩
  rw [hS] at hO hsb
  simp only [hS] at cS
  obtain ⟨⟨B, KK, O⟩, hB⟩ : ∃ x, rcvF T = x := ⟨_, rfl⟩
  simp only [hB] at cR
  rw [hB] at hO
  simp only at hO
  have HO := hid hO
  clear hO hB hS hD hh2 p15 p25 p35 p45 p55 p65 p75
  go_wp2_with (go_at_call 7; refine (cR _ _ r4).mono ?_; rintro e q5 ⟨v5, rfl, r5, b5⟩; have b6 := below_trans bs b5; have f2 := below_cell b5 p22; have f3 := below_cell b5 p32)
  go_quiet (fail)
  generalize 256 * y2 + y3 = N at sd hn hn0 ⊢
  have hw8 : IntKind.i64.wrap (8 + N) = 8 + N := by rw [IntKind.wrap_i64]; omega
  go_wp2_with fail
  have b7 : Below W4.heap.size W4 (q5.drewN nq) := below_drewN b5 nq
  have b8 := below_trans bs b7
  generalize (q5.drewN nq) = W5 at b7 b8 ⊢
  have bd1 : Below W4.heap.size W4 W5.drew := below_drewN b7 1
  have Z : Hid (∀ W, Below W4.heap.size W4 W → W.cell? e1 = some (.int .u8 y1) ∧ W.cell? e4 = some (.int .u8 y4) ∧ W.cell? e5 = some (.int .u8 y5) ∧ W.cell? e6 = some (.int .u8 y6) ∧ W.cell? e7 = some (.int .u8 y7)) := fun W g => ⟨below_cell g p12, below_cell g p42, below_cell g p52, below_cell g p62, below_cell g p72⟩
  have hbd := hid bd1
  have CS := hid cS
  have RD := hid rd
  clear p12 p42 p52 p62 p72 p22 p32 f2 f3 cS bd1 rd
  refine wp_region_held_drew (S := fun W => W.cell? e1 = some (.int .u8 y1) ∧ W.cell? e4 = some (.int .u8 y4) ∧ W.cell? e5 = some (.int .u8 y5) ∧ W.cell? e6 = some (.int .u8 y6) ∧ W.cell? e7 = some (.int .u8 y7)) (by kernel_rfl) (Z.out _ hbd.out) (fun hHeld => ?_)
  refine wpAnyH_take (i := 0) (v := ?v1) rfl (by kernel_rfl) (by kernel_rfl) (by kernel_rfl) (fun _ _ _ h => h) (Or.inl ⟨by kernel_rfl, ?h1⟩) hHeld ?r1
  case h1 => intro W hSw; (try dsimp only at hSw); obtain ⟨z1, z4, z5, z6, z7⟩ := hSw; go_simp; try with_reducible rfl
  simp only [Act.put, List.setIfInBounds_toArray, List.set_cons_zero, List.set_cons_succ]
  refine wpAnyH_take (i := 1) (v := ?v2) rfl (by kernel_rfl) (by kernel_rfl) (by kernel_rfl) (fun _ _ _ h => h) (Or.inl ⟨by kernel_rfl, ?h2⟩) hHeld ?r2
  case h2 => intro W hSw; (try dsimp only at hSw); obtain ⟨z1, z4, z5, z6, z7⟩ := hSw; go_simp; try with_reducible rfl
  simp only [Act.put, List.setIfInBounds_toArray, List.set_cons_zero, List.set_cons_succ]
  refine wpAnyH_take (i := 2) (v := ?v3) rfl (by kernel_rfl) (by kernel_rfl) (by kernel_rfl) (fun _ _ _ h => h) (Or.inl ⟨by kernel_rfl, ?h3⟩) hHeld ?r3
  case h3 => intro W hSw; (try dsimp only at hSw); obtain ⟨z1, z4, z5, z6, z7⟩ := hSw; go_simp; try with_reducible rfl
  simp only [Act.put, List.setIfInBounds_toArray, List.set_cons_zero, List.set_cons_succ]
  refine wpAnyH_take (i := 3) (v := ?v4) rfl (by kernel_rfl) (by kernel_rfl) (by kernel_rfl) (fun _ _ _ h => h) (Or.inl ⟨by kernel_rfl, ?h4⟩) hHeld ?r4
  case h4 => intro W hSw; (try dsimp only at hSw); obtain ⟨z1, z4, z5, z6, z7⟩ := hSw; go_simp; try with_reducible rfl
  simp only [Act.put, List.setIfInBounds_toArray, List.set_cons_zero, List.set_cons_succ]
  refine wpAnyH_take (i := 4) (v := ?v5) rfl (by kernel_rfl) (by kernel_rfl) (by kernel_rfl) (fun _ _ _ h => h) (Or.inl ⟨by kernel_rfl, ?h5⟩) hHeld ?r5
  case h5 => intro W hSw; (try dsimp only at hSw); obtain ⟨z1, z4, z5, z6, z7⟩ := hSw; go_simp; try with_reducible rfl
  simp only [Act.put, List.setIfInBounds_toArray, List.set_cons_zero, List.set_cons_succ]
  refine wpAnyH_take (i := 5) (v := ?v6) rfl (by kernel_rfl) (by kernel_rfl) (by kernel_rfl) (fun _ _ _ h => h) (Or.inl ⟨by kernel_rfl, ?h6⟩) hHeld ?r6
  case h6 => intro W hSw; (try dsimp only at hSw); obtain ⟨z1, z4, z5, z6, z7⟩ := hSw; go_simp; try with_reducible rfl
  simp only [Act.put, List.setIfInBounds_toArray, List.set_cons_zero, List.set_cons_succ]
  refine wpAnyH_take (i := 6) (v := ?v7) rfl (by kernel_rfl) (by kernel_rfl) (by kernel_rfl) (fun _ _ _ h => h) (Or.inl ⟨by kernel_rfl, ?h7⟩) hHeld ?r7
  case h7 => intro W hSw; (try dsimp only at hSw); obtain ⟨z1, z4, z5, z6, z7⟩ := hSw; go_simp; try with_reducible rfl
  simp only [Act.put, List.setIfInBounds_toArray, List.set_cons_zero, List.set_cons_succ]
  refine wpAnyH_take (i := 7) (v := ?v8) rfl (by kernel_rfl) (by kernel_rfl) (by kernel_rfl) (fun _ _ _ h => h) (Or.inl ⟨by kernel_rfl, ?h8⟩) hHeld ?r8
  case h8 => intro W hSw; (try dsimp only at hSw); obtain ⟨z1, z4, z5, z6, z7⟩ := hSw; go_simp; try with_reducible rfl
  simp only [Act.put, List.setIfInBounds_toArray, List.set_cons_zero, List.set_cons_succ]
  refine wpAnyH_take (i := 9) (v := ?v9) rfl (by kernel_rfl) (by kernel_rfl) (by kernel_rfl) (fun _ _ _ h => h) (Or.inl ⟨by kernel_rfl, ?h9⟩) hHeld ?r9
  case h9 => intro W hSw; (try dsimp only at hSw); obtain ⟨z1, z4, z5, z6, z7⟩ := hSw; go_simp; try with_reducible rfl
  simp only [Act.put, List.setIfInBounds_toArray, List.set_cons_zero, List.set_cons_succ]
  refine wpAnyH_take (i := 10) (v := ?v10) rfl (by kernel_rfl) (by kernel_rfl) (by kernel_rfl) (fun _ _ _ h => h) (Or.inl ⟨by kernel_rfl, ?h10⟩) hHeld ?r10
  case h10 => intro W hSw; (try dsimp only at hSw); obtain ⟨z1, z4, z5, z6, z7⟩ := hSw; go_simp; try with_reducible rfl
  simp only [Act.put, List.setIfInBounds_toArray, List.set_cons_zero, List.set_cons_succ]
  refine wpAnyH_take (i := 11) (v := ?v11) rfl (by kernel_rfl) (by kernel_rfl) (by kernel_rfl) (fun _ _ _ h => h) (Or.inl ⟨by kernel_rfl, ?h11⟩) hHeld ?r11
  case h11 => intro W hSw; (try dsimp only at hSw); obtain ⟨z1, z4, z5, z6, z7⟩ := hSw; go_simp; try with_reducible rfl
  simp only [Act.put, List.setIfInBounds_toArray, List.set_cons_zero, List.set_cons_succ]
  refine wpAnyH_take (i := 12) (v := ?v12) rfl (by kernel_rfl) (by kernel_rfl) (by kernel_rfl) (fun _ _ _ h => h) (Or.inl ⟨by kernel_rfl, ?h12⟩) hHeld ?r12
  case h12 => intro W hSw; (try dsimp only at hSw); obtain ⟨z1, z4, z5, z6, z7⟩ := hSw; go_simp; try with_reducible rfl
  simp only [Act.put, List.setIfInBounds_toArray, List.set_cons_zero, List.set_cons_succ]
  refine wpAnyH_take (i := 13) (v := ?v13) rfl (by kernel_rfl) (by kernel_rfl) (by kernel_rfl) (fun _ _ _ h => h) (Or.inl ⟨by kernel_rfl, ?h13⟩) hHeld ?r13
  case h13 => intro W hSw; (try dsimp only at hSw); obtain ⟨z1, z4, z5, z6, z7⟩ := hSw; go_simp; try with_reducible rfl
  simp only [Act.put, List.setIfInBounds_toArray, List.set_cons_zero, List.set_cons_succ]
  refine wpAnyH_take (i := 14) (v := ?v14) rfl (by kernel_rfl) (by kernel_rfl) (by kernel_rfl) (fun _ _ _ h => h) (Or.inl ⟨by kernel_rfl, ?h14⟩) hHeld ?r14
  case h14 => intro W hSw; (try dsimp only at hSw); obtain ⟨z1, z4, z5, z6, z7⟩ := hSw; go_simp; try with_reducible rfl
  simp only [Act.put, List.setIfInBounds_toArray, List.set_cons_zero, List.set_cons_succ]
  refine wpAnyH_take (i := 15) (v := ?v15) rfl (by kernel_rfl) (by kernel_rfl) (by kernel_rfl) (fun _ _ _ h => h) (Or.inl ⟨by kernel_rfl, ?h15⟩) hHeld ?r15
  case h15 => intro W hSw; (try dsimp only at hSw); obtain ⟨z1, z4, z5, z6, z7⟩ := hSw; go_simp; try with_reducible rfl
  simp only [Act.put, List.setIfInBounds_toArray, List.set_cons_zero, List.set_cons_succ]
  refine wpAnyH_take (i := 16) (v := ?v16) rfl (by kernel_rfl) (by kernel_rfl) (by kernel_rfl) (fun _ _ _ h => h) (Or.inl ⟨by kernel_rfl, ?h16⟩) hHeld ?r16
  case h16 => intro W hSw; (try dsimp only at hSw); obtain ⟨z1, z4, z5, z6, z7⟩ := hSw; go_simp; try with_reducible rfl
  simp only [Act.put, List.setIfInBounds_toArray, List.set_cons_zero, List.set_cons_succ]
  refine wpAnyH_take (i := 17) (v := ?v17) rfl (by kernel_rfl) (by kernel_rfl) (by kernel_rfl) (fun _ _ _ h => h) (Or.inl ⟨by kernel_rfl, ?h17⟩) hHeld ?r17
  case h17 => intro W hSw; (try dsimp only at hSw); obtain ⟨z1, z4, z5, z6, z7⟩ := hSw; go_simp; try with_reducible rfl
  simp only [Act.put, List.setIfInBounds_toArray, List.set_cons_zero, List.set_cons_succ]
  refine wpAnyH_take (i := 18) (v := ?v18) rfl (by kernel_rfl) (by kernel_rfl) (by kernel_rfl) (fun _ _ _ h => h) (Or.inl ⟨by kernel_rfl, ?h18⟩) hHeld ?r18
  case h18 => intro W hSw; (try dsimp only at hSw); obtain ⟨z1, z4, z5, z6, z7⟩ := hSw; go_simp; try with_reducible rfl
  simp only [Act.put, List.setIfInBounds_toArray, List.set_cons_zero, List.set_cons_succ]
  refine wpAnyH_take (i := 19) (v := ?v19) rfl (by kernel_rfl) (by kernel_rfl) (by kernel_rfl) (fun _ _ _ h => h) (Or.inl ⟨by kernel_rfl, ?h19⟩) hHeld ?r19
  case h19 => intro W hSw; (try dsimp only at hSw); obtain ⟨z1, z4, z5, z6, z7⟩ := hSw; go_simp; try with_reducible rfl
  simp only [Act.put, List.setIfInBounds_toArray, List.set_cons_zero, List.set_cons_succ]
  refine wpAnyH_take (i := 20) (v := ?v20) rfl (by kernel_rfl) (by kernel_rfl) (by kernel_rfl) (fun _ _ _ h => h) (Or.inl ⟨by kernel_rfl, ?h20⟩) hHeld ?r20
  case h20 => intro W hSw; (try dsimp only at hSw); obtain ⟨z1, z4, z5, z6, z7⟩ := hSw; go_simp; try with_reducible rfl
  simp only [Act.put, List.setIfInBounds_toArray, List.set_cons_zero, List.set_cons_succ]
  refine wpAnyH_take (i := 21) (v := ?v21) rfl (by kernel_rfl) (by kernel_rfl) (by kernel_rfl) (fun _ _ _ h => h) (Or.inl ⟨by kernel_rfl, ?h21⟩) hHeld ?r21
  case h21 => intro W hSw; (try dsimp only at hSw); obtain ⟨z1, z4, z5, z6, z7⟩ := hSw; go_simp; try with_reducible rfl
  simp only [Act.put, List.setIfInBounds_toArray, List.set_cons_zero, List.set_cons_succ]
  refine wpAnyH_take (i := 22) (v := ?v22) rfl (by kernel_rfl) (by kernel_rfl) (by kernel_rfl) (fun _ _ _ h => h) (Or.inl ⟨by kernel_rfl, ?h22⟩) hHeld ?r22
  case h22 => intro W hSw; (try dsimp only at hSw); obtain ⟨z1, z4, z5, z6, z7⟩ := hSw; go_simp; try with_reducible rfl
  simp only [Act.put, List.setIfInBounds_toArray, List.set_cons_zero, List.set_cons_succ]
  refine wpAnyH_take (i := 23) (v := ?v23) rfl (by kernel_rfl) (by kernel_rfl) (by kernel_rfl) (fun _ _ _ h => h) (Or.inl ⟨by kernel_rfl, ?h23⟩) hHeld ?r23
  case h23 => intro W hSw; (try dsimp only at hSw); obtain ⟨z1, z4, z5, z6, z7⟩ := hSw; go_simp; try with_reducible rfl
  simp only [Act.put, List.setIfInBounds_toArray, List.set_cons_zero, List.set_cons_succ]
  refine wpAnyH_take (i := 24) (v := ?v24) rfl (by kernel_rfl) (by kernel_rfl) (by kernel_rfl) (fun _ _ _ h => h) (Or.inl ⟨by kernel_rfl, ?h24⟩) hHeld ?r24
  case h24 => intro W hSw; (try dsimp only at hSw); obtain ⟨z1, z4, z5, z6, z7⟩ := hSw; go_simp; try with_reducible rfl
  simp only [Act.put, List.setIfInBounds_toArray, List.set_cons_zero, List.set_cons_succ]
  refine wpAnyH_take (i := 25) (v := ?v25) rfl (by kernel_rfl) (by kernel_rfl) (by kernel_rfl) (fun _ _ _ h => h) (Or.inl ⟨by kernel_rfl, ?h25⟩) hHeld ?r25
  case h25 => intro W hSw; (try dsimp only at hSw); obtain ⟨z1, z4, z5, z6, z7⟩ := hSw; go_simp; try with_reducible rfl
  simp only [Act.put, List.setIfInBounds_toArray, List.set_cons_zero, List.set_cons_succ]
  refine wpAnyH_take (i := 26) (v := ?v26) rfl (by kernel_rfl) (by kernel_rfl) (by kernel_rfl) (fun _ _ _ h => h) (Or.inl ⟨by kernel_rfl, ?h26⟩) hHeld ?r26
  case h26 => intro W hSw; (try dsimp only at hSw); obtain ⟨z1, z4, z5, z6, z7⟩ := hSw; go_simp; try with_reducible rfl
  simp only [Act.put, List.setIfInBounds_toArray, List.set_cons_zero, List.set_cons_succ]
  refine wpAnyH_take (i := 27) (v := ?v27) rfl (by kernel_rfl) (by kernel_rfl) (by kernel_rfl) (fun _ _ _ h => h) (Or.inl ⟨by kernel_rfl, ?h27⟩) hHeld ?r27
  case h27 => intro W hSw; (try dsimp only at hSw); obtain ⟨z1, z4, z5, z6, z7⟩ := hSw; go_simp; try with_reducible rfl
  simp only [Act.put, List.setIfInBounds_toArray, List.set_cons_zero, List.set_cons_succ]
  refine wpAnyH_take (i := 28) (v := ?v28) rfl (by kernel_rfl) (by kernel_rfl) (by kernel_rfl) (fun _ _ _ h => h) (Or.inl ⟨by kernel_rfl, ?h28⟩) hHeld ?r28
  case h28 => intro W hSw; (try dsimp only at hSw); obtain ⟨z1, z4, z5, z6, z7⟩ := hSw; go_simp; try with_reducible rfl
  simp only [Act.put, List.setIfInBounds_toArray, List.set_cons_zero, List.set_cons_succ]
  refine wpAnyH_take (i := 29) (v := ?v29) rfl (by kernel_rfl) (by kernel_rfl) (by kernel_rfl) (fun _ _ _ h => h) (Or.inl ⟨by kernel_rfl, ?h29⟩) hHeld ?r29
  case h29 => intro W hSw; (try dsimp only at hSw); obtain ⟨z1, z4, z5, z6, z7⟩ := hSw; go_simp; try with_reducible rfl
  simp only [Act.put, List.setIfInBounds_toArray, List.set_cons_zero, List.set_cons_succ]
  refine wpAnyH_take (i := 30) (v := ?v30) rfl (by kernel_rfl) (by kernel_rfl) (by kernel_rfl) (fun _ _ _ h => h) (Or.inl ⟨by kernel_rfl, ?h30⟩) hHeld ?r30
  case h30 => intro W hSw; (try dsimp only at hSw); obtain ⟨z1, z4, z5, z6, z7⟩ := hSw; go_simp; try with_reducible rfl
  simp only [Act.put, List.setIfInBounds_toArray, List.set_cons_zero, List.set_cons_succ]
  refine wpAnyH_ready (rs := [8]) (by kernel_rfl) (by simp) ?_
  refine AllReadyH.cons rfl (fun K hK => ?_) AllReadyH.nil
  go_simp
  go_wp2_with (first | (go_at_call 9; refine (CS.out _ (RD.out.below hbd.out)).mono ?_; rintro e w9 ⟨rfl, b9⟩; have R9 : Hid (Below W4.heap.size W4 w9) := below_trans hbd.out b9))
  refine hK.out _ _ (Z.out _ R9.out) (fun hHeld => ?_)
  clear hK K
  (try simp only [Act.put, List.setIfInBounds_toArray, List.set_cons_zero, List.set_cons_succ])
  refine wpAnyH_take (i := 31) (v := ?v31) rfl (by kernel_rfl) (by kernel_rfl) (by kernel_rfl) (fun _ _ _ h => h) (Or.inl ⟨by kernel_rfl, ?h31⟩) hHeld ?r31
  case h31 => intro W hSw; (try dsimp only at hSw); obtain ⟨z1, z4, z5, z6, z7⟩ := hSw; go_simp; try with_reducible rfl
  simp only [Act.put, List.setIfInBounds_toArray, List.set_cons_zero, List.set_cons_succ]
  refine wpAnyH_take (i := 32) (v := ?v32) rfl (by kernel_rfl) (by kernel_rfl) (by kernel_rfl) (fun _ _ _ h => h) (Or.inl ⟨by kernel_rfl, ?h32⟩) hHeld ?r32
  case h32 => intro W hSw; (try dsimp only at hSw); obtain ⟨z1, z4, z5, z6, z7⟩ := hSw; go_simp; try with_reducible rfl
  simp only [Act.put, List.setIfInBounds_toArray, List.set_cons_zero, List.set_cons_succ]
  refine wpAnyH_ready (rs := [33]) (by kernel_rfl) (by simp) ?_
  refine AllReadyH.cons rfl (fun K hK => ?_) AllReadyH.nil
  go_simp
  refine hK.out _ _ (Z.out _ R9.out) (fun hHeld => ?_)
  clear hK K
  (try simp only [Act.put, List.setIfInBounds_toArray, List.set_cons_zero, List.set_cons_succ])
  refine wpAnyH_done (by kernel_rfl) ?_ _
  go_wp2_with fail
  go_ret
  refine ⟨ret_b ?_, below_trans bs R9.out⟩
  have eV : IntKind.u32.wrap (IntKind.u32.wrap (IntKind.u32.wrap (IntKind.u32.wrap (IntKind.u32.wrap y4 * 16777216) + IntKind.u32.wrap (IntKind.u32.wrap y5 * 65536)) + IntKind.u32.wrap (IntKind.u32.wrap y6 * 256)) + IntKind.u32.wrap y7) = ((y4 * 256 + y5) * 256 + y6) * 256 + y7 := by
    simp only [IntKind.wrap_u32]
    omega
  rw [eV, HO.out]
  generalize ((y4 * 256 + y5) * 256 + y6) * 256 + y7 = V
  rw [show (S == V) = (V == S) from beq_swap S V]
  exact beq_self_eq_true _

set_option maxRecDepth 100000 in
theorem lifted (os : Os) (started : os.Started) (H : Type) (enc : TypeId × Value → H) :
    ReturnsInHanded {} Try.checked os 3 .any (Rows.nvramTellsSpec.pre6 enc Try.prog Try.f3 Rows.nvramTellsRow.domain false) (Rows.nvramTellsSpec.post enc Try.prog Try.f3 false true false false) := by
  refine returnsInHanded_of_change_sized (C := Try.checked) own started (by kernel_rfl) Try.func3
    (ChangeSpec.witness6 (enc := enc) (C := Try.checked) false ⟨#[], #[.slice none 0 0, .int .u16 0, .int .u8 0], []⟩ 8 (by kernel_rfl) (by kernel_rfl) (by kernel_rfl) (by kernel_rfl)) ?_
  intro W base args ds gs before hval0 hW hcnd hsz0 _
  have hval : ∀ (j : Nat) t v, Try.f3.params[j]? = some t → args[j]? = some v → Value.okWide Try.prog W .any base t v := hval0
  have hsz : (DataW.weightsEach Try.prog (Try.f3.params.toList ++ Rows.nvramTellsSpec.plain.varTypes Try.prog) (ds ++ gs)).all (· ≤ reachBytes) = true := hsz0
  have hW' := hW
  obtain ⟨p, q, hA0, hV, rfl, hfz, hnd⟩ := hW
  have hA : DataW.TrodAll enc Try.prog W 0 (fun _ => true) true Try.f3.params.toList args.toList ds p := hA0
  rw [Try.params3] at hA hval hsz
  obtain ⟨v0, vs0, d0, ds0, p0, q0, hargs, rfl, rfl, h0, r0⟩ := trodAll_cons hA
  obtain ⟨v1, vs1, d1, ds1, p1, q1, rfl, rfl, rfl, h1, r1⟩ := trodAll_cons r0
  obtain ⟨v2, vs2, d2, ds2, p2, q2, rfl, rfl, rfl, h2, r2⟩ := trodAll_cons r1
  obtain ⟨rfl, rfl, rfl⟩ := trodAll_nil r2
  obtain rfl : args = #[v0, v1, v2] := by cases args; simp_all
  obtain ⟨rfl, rfl⟩ := trodVars_none hV
  obtain ⟨s0, l0, c0, rfl⟩ := okWide_slice Try.underlying22 (hval 0 22 v0 rfl rfl)
  have k0 := h0
  have lt0 : ∀ x ∈ p0, x.block < W.heap.size := by obtain ⟨m, hm⟩ := k0; exact DataW.trod_lt m _ _ _ hm
  obtain ⟨x0, r100, f0, hd0⟩ := rd_open (k := .u8) Try.underlying22 Try.underlying5 (by kernel_rfl) h0
  have z0 : x0.length * 1 ≤ 140737488351232 := by
    rcases hd0 with rfl | ⟨ys, zs, rfl, hle⟩
    · simp
    · have := sized_slice hsz (j := 0) (t := 22) (e := 5) rfl rfl Try.underlying22
      rw [bytes5] at this
      unfold reachBytes at this
      omega
  obtain ⟨a1, rfl, rfl, rfl, w1⟩ := open_int Try.underlying23 (hval 1 23 v1 rfl rfl) h1
  obtain ⟨a2, rfl, rfl, rfl, w2⟩ := open_int Try.underlying5 (hval 2 5 v2 rfl rfl) h2
  clear hA0 hval0 hsz0
  refine (walk (.slice s0 l0 c0) x0 a1 a2 W r100 f0 z0 w1 w2).mono fun e W' ⟨he, bel⟩ => ?_
  subst he
  exact ⟨_, rfl, _, _, _, [], _, [], hW', trodAll_mk1 (shut_bool Try.underlying4 _), (trodAll_cons_mk (Below.trod laidOut (by kernel_rfl) (of_decide_eq_true (by kernel_rfl)) k0 bel lt0) (trodAll_cons_mk (shut_int Try.underlying23 w1) (trodAll_cons_mk (shut_int Try.underlying5 w2) trodAll_mk0))), rfl, bel.frame _, fun h => by cases h⟩

theorem over : Rows.nvramTellsRow.holds Try.pinned (OpenSpec.ofChange Rows.nvramTellsSpec) :=
  OpenClaim.holds_of_wide 3 Try.f3 rfl rfl rfl rfl rfl rfl rfl ⟨rfl, rfl, rfl, rfl, rfl⟩ rfl rfl rfl rfl rfl (by kernel_rfl) Try.func3 (by kernel_rfl)
    (of_decide_eq_true (by kernel_rfl)) (by unfold Func.isWrapper; first | (rw [if_pos (by decide +kernel)]; kernel_rfl) | (rw [if_neg (by decide +kernel)]; exact ⟨rfl, rfl⟩))
    (fun os started H enc _ => lifted os started H enc)
end Go.Proofs.Ytlnlifijnijgmab.nvramTells
namespace Go.Proofs.Ytlnlifijnijgmab
theorem nvramTells_holds : Rows.NvramTellsSaid := nvramTells.over
#print axioms nvramTells_holds
end Go.Proofs.Ytlnlifijnijgmab
