/-
  Texts of one proof, laid one behind the other: Sr6 Sr7.
-/
import Derived.Test.YthihkfimledccaaB3
namespace Go.Proofs.Ythihkfimledccaa
open Go.ChangeShapes Go.WideShapes Go.ChangeAt Go.RowKit
set_option linter.unusedVariables false
set_option linter.unusedSimpArgs false

/-
  Mirror of the document's answer for layer 22.
-/
set_option maxHeartbeats 4000000 in
set_option maxRecDepth 10000 in
theorem w_rmirror22 (p : PicI) (v : Value) (w : World) (h : RdPc w v p) (hz : p.2.2.length ≤ 140737488351232) :
    Calls Try.prog 19 #[v] w fun e w' => ∃ v', e = .returned (.tuple #[v', .int .i64 (miI p 1).2]) ∧ OwPc w.heap.size w' v' (miI p 1).1 ∧ Below w.heap.size w w' := by
  obtain ⟨vP, rfl, r⟩ := h
  obtain ⟨W, H, P⟩ := p
  simp only at r hz ⊢
  obtain ⟨i0, hi, hz0, hz1, hz2⟩ := info_parts infoU8
  have bw := below_trans (box_below w (.cells #[.int .i64 W, .int .i64 H, vP] 28)) (box_below _ (.cells #[.int .i64 0, .int .i64 0, .slice none 0 0] 28))
  have s1 := (stands_new w #[.int .i64 W, .int .i64 H, vP] 28).below (box_below _ (.cells #[.int .i64 0, .int .i64 0, .slice none 0 0] 28))
  have s2 := stands_new (w.alloc (.cells #[.int .i64 W, .int .i64 H, vP] 28)) #[.int .i64 0, .int .i64 0, .slice none 0 0] 28
  rw [size_al] at s2
  have r1 := r.below bw
  have cF := fun W9 (g : Below w.heap.size w W9) => w_rformed22 W H vP P W9 (r.below g) hz
  cases hf : fmI (W, H, P)
  · simp only [hf] at cF
    have hT : miI (W, H, P) 1 = (noP, 1) := by unfold miI; rw [hf]; rfl
    rw [hT]
    obtain ⟨pa, pq, rfl⟩ := rd_slice r
    clear r hT hf
    go_enter Try.func19, Try.ntmps19
    go_upto_region 1 with fail
    generalize (w.alloc (.cells #[.int .i64 W, .int .i64 H, .slice pa P.length pq] 28)).alloc (.cells #[.int .i64 0, .int .i64 0, .slice none 0 0] 28) = W0 at bw s1 s2 r1 ⊢
    have cf := cF W0 bw
    have z0 := s1.cell 0 _ rfl
    have z1 := s1.cell 1 _ rfl
    have z2 := s1.cell 2 _ rfl
    clear cF
    go_upto_region 2 with (first | (go_at_call 21; refine cf.mono ?_; rintro e w1 ⟨rfl, b1⟩) | fail)
    have SR := s2.below b1
    have y0 := SR.cell 0 _ rfl
    have y1 := SR.cell 1 _ rfl
    have y2 := SR.cell 2 _ rfl
    have yf := SR.free
    go_wp2_with fail
    obtain ⟨k1, k2⟩ := set3q SR (.int .i64 0) (.int .i64 0) (.slice none 0 0)
    have J7 := below_set3 (below_trans bw b1) (w.heap.size + 1) (.int .i64 0) (.int .i64 0) (.slice none 0 0) (by omega)
    (try simp only [Exit.inBlock, Exit.then])
    refine bodyPost_ret (res_row2 rfl _ _ (w.heap.size + 1) 28 _ (0, 0) _ rfl k1 Try.underlying28 rfl infoPc) rfl ?_
    exact ⟨_, rfl, ⟨_, rfl, own8_nil _ _⟩, J7⟩
  · simp only [hf] at cF
    obtain ⟨f1, f2, f3⟩ := fm_toP hf
    have hT : miI (W, H, P) 1 = (ofP (pcM (toP (W, H, P))), 0) := by unfold miI; rw [hf]; rfl
    rw [hT]
    obtain ⟨p, hp⟩ : ∃ p, toP (W, H, P) = p := ⟨_, rfl⟩
    rw [hp] at f1 f2 f3 ⊢
    obtain ⟨m, n, P'⟩ := p
    obtain ⟨rfl, rfl, rfl⟩ : (m : Int) = W ∧ (n : Int) = H ∧ P' = P := by
      simp only [ofP] at f3
      injection f3 with a b
      injection b with b c
      exact ⟨a, b, c⟩
    obtain ⟨pa, pq, rfl⟩ := rd_slice r
    obtain ⟨hW, hH⟩ := f2
    simp only at hW hH
    have hWH : m * n ≤ 4096 := Nat.le_trans (Nat.mul_le_mul hW hH) (by omega)
    have HP := hid (show P'.length = m * n from f1)
    clear r hT hf f3 hp f1
    go_enter Try.func19, Try.ntmps19
    go_upto_region 1 with fail
    generalize (w.alloc (.cells #[.int .i64 (m : Int), .int .i64 (n : Int), .slice pa P'.length pq] 28)).alloc (.cells #[.int .i64 0, .int .i64 0, .slice none 0 0] 28) = W0 at bw s1 s2 r1 ⊢
    have cf := cF W0 bw
    have y0 := s1.cell 0 _ rfl
    have y1 := s1.cell 1 _ rfl
    have y2 := s1.cell 2 _ rfl
    clear cF
    go_upto_region 3 with (first | (go_at_call 21; refine cf.mono ?_; rintro e W1 ⟨rfl, b1⟩) | fail)
    have SR := hid (s2.below b1)
    have r2 := r1.below b1
    have z0 := below_cell b1 y0
    have z1 := below_cell b1 y1
    have z2 := below_cell b1 y2
    have bw1 := below_trans bw b1
    have HB : Hid (W1.heap.size ≤ W1.heap.size) := Nat.le_refl _
    clear y0 y1 y2 s1 s2 cf b1 bw r1
    have st := stands_new W1 #[.int .i64 (m : Int), .int .i64 (n : Int), .slice none 0 0] 28
    have bc := box_below W1 (.cells #[.int .i64 (m : Int), .int .i64 (n : Int), .slice none 0 0] 28)
    go_upto_region 5 with fail
    generalize W1.alloc (.cells #[.int .i64 (m : Int), .int .i64 (n : Int), .slice none 0 0] 28) = W2 at st bc ⊢
    have Z0 := hid (fun W9 (g : Below W1.heap.size W1 W9) => below_cell g z0)
    have Z1 := hid (fun W9 (g : Below W1.heap.size W1 W9) => below_cell g z1)
    have Z2 := hid (fun W9 (g : Below W1.heap.size W1 W9) => below_cell g z2)
    clear z0 z1 z2
    go_loopw [5] (fun Y wx => ∃ (y : Nat) (vY : Value), y ≤ n ∧ Y = .int .i64 y ∧ Stands wx W1.heap.size #[.int .i64 (m : Int), .int .i64 (n : Int), vY] 28 ∧ Own8 W1.heap.size wx vY ((pcM (m, n, P')).2.2.take (y * m)) ∧ Below W1.heap.size W1 wx) (fun Y _ => (n - intOf Y).toNat)
    case atStart => exact ⟨0, _, by omega, rfl, st, by rw [Nat.zero_mul]; exact own8_nil _ _, bc⟩
    case round =>
      clear st bc
      obtain ⟨y, vY, hy, rfl, st, oy, bc⟩ := hrel
      have z1 := Z1.out wr bc
      by_cases hlt : (y : Int) < n
      · have hyn : y < n := by omega
        have z0 := Z0.out wr bc
        go_upto_region 8 with fail
        go_loopw [6] (fun X wx => ∃ (c : Nat) (vY : Value), c ≤ m ∧ X = .int .i64 ((m : Int) - 1 - (c : Int)) ∧ Stands wx W1.heap.size #[.int .i64 (m : Int), .int .i64 (n : Int), vY] 28 ∧ Own8 W1.heap.size wx vY ((pcM (m, n, P')).2.2.take (y * m + c)) ∧ Below W1.heap.size W1 wx) (fun X _ => (intOf X + 1).toNat)
        case atStart => exact ⟨0, vY, by omega, by go_num, st, oy, bc⟩
        case round =>
          clear st oy bc z0 z1
          obtain ⟨c, vY, hc, rfl, st, oy, bc⟩ := hrel
          by_cases hlx : (c : Int) < m
          · have hcm : c < m := by omega
            obtain ⟨x, hx⟩ : ∃ x : Nat, m - 1 - c = x := ⟨_, rfl⟩
            have ex : (m : Int) - 1 - (c : Int) = (x : Int) := by omega
            rw [ex]
            have hI1 : y * m + x < m * n := px_lt (by omega) hyn
            have hqs := mir_snoc (m, n, P') (x := c) (y := y) hcm hyn
            simp only [hx] at hqs
            obtain ⟨A1, hA1⟩ : ∃ A, y * m = A := ⟨_, rfl⟩
            have e2 : IntKind.i64.wrap ((y : Int) * (m : Int)) = (A1 : Int) := by rw [← hA1]; exact wr_mul y m (by omega)
            have hpx : pxA m P' x y = P'.getD (A1 + x) 0 := by unfold pxA; rw [hA1]
            rw [hA1] at hI1 hqs oy
            obtain ⟨I1, hi1⟩ : ∃ k, A1 + x = k := ⟨_, rfl⟩
            have e6 : IntKind.i64.wrap ((A1 : Int) + (x : Int)) = (I1 : Int) := by rw [IntKind.wrap_i64]; omega
            rw [hi1] at hI1 hpx
            have hP1 : I1 < P'.length := by rw [HP.out]; exact hI1
            obtain ⟨ad, j1, j2⟩ := rd_idx r2 uB zB (I1 : Int) (by omega) (by omega)
            obtain ⟨C, hC⟩ : ∃ C, P'.getD I1 0 = C := ⟨_, rfl⟩
            rw [Int.toNat_natCast, hC] at j2
            rw [hpx, hC] at hqs
            have hRl : ((pcM (m, n, P')).2.2.take (A1 + c)).length ≤ 4096 := by
              have := List.length_take_le' (A1 + c) (pcM (m, n, P')).2.2
              have h2 : (pcM (m, n, P')).2.2.length = m * n := pcM_f (m, n, P')
              omega
            obtain ⟨R, hR⟩ : ∃ R, (pcM (m, n, P')).2.2.take (A1 + c) = R := ⟨_, rfl⟩
            rw [hR] at hqs oy hRl
            obtain ⟨D, hD⟩ : ∃ D, R ++ [C] = D := ⟨_, rfl⟩
            have HD := hid hD
            have hDl : D.length ≤ 4097 := by rw [← hD]; simp; omega
            rw [hD] at hqs
            have hxb : x ≤ 64 := by omega
            have hin : Hid ((pcM (m, n, P')).2.2.take (y * m + (c + 1)) = D) := by show _ = _; rw [hA1, ← Nat.add_assoc]; exact hqs.symm
            have hx2 := hid (show (x : Int) = (m : Int) - 1 - (c : Int) by omega)
            have ZA := hid (fun W9 (g : Below W1.heap.size W1 W9) => below_cell g j2)
            have HS : Hid (∀ W, Below wr.heap.size wr W → (W.cell? ⟨w.heap.size, 0, none⟩ = some (.int .i64 m) ∧ W.cell? ⟨w.heap.size, 2, none⟩ = some (.slice pa P'.length pq) ∧ W.cell? ad = some (.int .u8 C))) := fun W g => ⟨Z0.out W (below_trans bc g), Z2.out W (below_trans bc g), ZA.out W (below_trans bc g)⟩
            have bA : Below W1.heap.size W1 (wr.drew.alloc (.cells #[.int .u8 C] 5)) := below_trans (below_drewN bc 1) (box_below wr.drew _)
            have KA : Hid ((wr.drew.alloc (.cells #[.int .u8 C] 5)).cell? ⟨w.heap.size, 0, none⟩ = some (.int .i64 m) ∧ (wr.drew.alloc (.cells #[.int .u8 C] 5)).cell? ⟨w.heap.size, 2, none⟩ = some (.slice pa P'.length pq) ∧ (wr.drew.alloc (.cells #[.int .u8 C] 5)).cell? ad = some (.int .u8 C)) := ⟨Z0.out _ bA, Z2.out _ bA, ZA.out _ bA⟩
            have BA := hid bA
            have SA := hid ((st.below (bd0 wr)).below (box_below wr.drew (.cells #[.int .u8 C] 5)))
            have OA := hid (own8_below (own8_below oy (bd0 wr)) (box_below wr.drew (.cells #[.int .u8 C] 5)))
            obtain ⟨ya, yq, hy0⟩ := own_form oy
            subst hy0
            have tA := (st.below (bd0 wr)).cell 2 _ rfl
            have tB := SA.out.cell 2 _ rfl
            have tC : (wr.alloc (.cells #[.int .u8 C] 5)).drew.cell? ⟨W1.heap.size, 2, none⟩ = some (.slice ya R.length yq) := tB
            have tD : (wr.alloc (.cells #[.int .u8 C] 5)).cell? ⟨W1.heap.size, 2, none⟩ = some (.slice ya R.length yq) := tB
            clear hx ex hD hA1 hpx hi1 hC hqs hR st oy bc bA j2 hI1 hP1
            go_upto_region 10 with fail
            refine wp_region_held_drew (S := fun W => W.cell? ⟨w.heap.size, 0, none⟩ = some (.int .i64 m) ∧ W.cell? ⟨w.heap.size, 2, none⟩ = some (.slice pa P'.length pq) ∧ W.cell? ad = some (.int .u8 C)) (by kernel_rfl) (HS.out _ (bd0 _)) (fun hHeld => ?_)
            refine wpAnyH_take (i := 0) (v := ?v1) rfl (by kernel_rfl) (by kernel_rfl) (by kernel_rfl) (fun _ _ _ h => h) (Or.inl ⟨by kernel_rfl, ?h1⟩) hHeld ?r1
            case h1 => intro W hSw; (try dsimp only at hSw); obtain ⟨t0, t1, t2⟩ := hSw; go_simp; try with_reducible rfl
            simp only [Act.put, List.setIfInBounds_toArray, List.set_cons_zero, List.set_cons_succ]
            refine wpAnyH_take (i := 2) (v := ?v2) rfl (by kernel_rfl) (by kernel_rfl) (by kernel_rfl) (fun _ _ _ h => h) (Or.inl ⟨by kernel_rfl, ?h2⟩) hHeld ?r2
            case h2 => intro W hSw; (try dsimp only at hSw); obtain ⟨t0, t1, t2⟩ := hSw; go_simp; try with_reducible rfl
            simp only [Act.put, List.setIfInBounds_toArray, List.set_cons_zero, List.set_cons_succ]
            refine wpAnyH_take (i := 3) (v := ?v3) rfl (by kernel_rfl) (by kernel_rfl) (by kernel_rfl) (fun _ _ _ h => h) (Or.inl ⟨by kernel_rfl, ?h3⟩) hHeld ?r3
            case h3 => intro W hSw; (try dsimp only at hSw); obtain ⟨t0, t1, t2⟩ := hSw; go_simp; try with_reducible rfl
            simp only [Act.put, List.setIfInBounds_toArray, List.set_cons_zero, List.set_cons_succ]
            refine wpAnyH_take (i := 4) (v := ?v4) rfl (by kernel_rfl) (by kernel_rfl) (by kernel_rfl) (fun _ _ _ h => h) (Or.inl ⟨by kernel_rfl, ?h4⟩) hHeld ?r4
            case h4 => intro W hSw; (try dsimp only at hSw); obtain ⟨t0, t1, t2⟩ := hSw; go_simp; try with_reducible rfl
            simp only [Act.put, List.setIfInBounds_toArray, List.set_cons_zero, List.set_cons_succ]
            refine wpAnyH_take (i := 5) (v := ?v5) rfl (by kernel_rfl) (by kernel_rfl) (by kernel_rfl) (fun _ _ _ h => h) (Or.inl ⟨by kernel_rfl, ?h5⟩) hHeld ?r5
            case h5 => intro W hSw; (try dsimp only at hSw); obtain ⟨t0, t1, t2⟩ := hSw; go_simp; try with_reducible rfl
            simp only [Act.put, List.setIfInBounds_toArray, List.set_cons_zero, List.set_cons_succ]
            refine wpAnyH_take (i := 6) (v := ?v6) rfl (by kernel_rfl) (by kernel_rfl) (by kernel_rfl) (fun _ _ _ h => h) (Or.inl ⟨by kernel_rfl, ?h6⟩) hHeld ?r6
            case h6 => intro W hSw; (try dsimp only at hSw); obtain ⟨t0, t1, t2⟩ := hSw; go_simp; try with_reducible rfl
            simp only [Act.put, List.setIfInBounds_toArray, List.set_cons_zero, List.set_cons_succ]
            refine wpAnyH_take (i := 7) (v := ?v7) rfl (by kernel_rfl) (by kernel_rfl) (by kernel_rfl) (fun _ _ _ h => h) (Or.inl ⟨by kernel_rfl, ?h7⟩) hHeld ?r7
            case h7 => intro W hSw; (try dsimp only at hSw); obtain ⟨t0, t1, t2⟩ := hSw; go_simp; try with_reducible rfl
            simp only [Act.put, List.setIfInBounds_toArray, List.set_cons_zero, List.set_cons_succ]
            refine wpAnyH_take (i := 8) (v := ?v8) rfl (by kernel_rfl) (by kernel_rfl) (by kernel_rfl) (fun _ _ _ h => h) (Or.inl ⟨by kernel_rfl, ?h8⟩) hHeld ?r8
            case h8 => intro W hSw; (try dsimp only at hSw); obtain ⟨t0, t1, t2⟩ := hSw; go_simp; try with_reducible rfl
            simp only [Act.put, List.setIfInBounds_toArray, List.set_cons_zero, List.set_cons_succ]
            refine wpAnyH_take (i := 9) (v := ?v9) rfl (by kernel_rfl) (by kernel_rfl) (by kernel_rfl) (fun _ _ _ h => h) (Or.inl ⟨by kernel_rfl, ?h9⟩) hHeld ?r9
            case h9 => intro W hSw; (try dsimp only at hSw); obtain ⟨t0, t1, t2⟩ := hSw; go_simp; try with_reducible rfl
            simp only [Act.put, List.setIfInBounds_toArray, List.set_cons_zero, List.set_cons_succ]
            refine wpAnyH_take (i := 10) (v := ?v10) rfl (by kernel_rfl) (by kernel_rfl) (by kernel_rfl) (fun _ _ _ h => h) (Or.inl ⟨by kernel_rfl, ?h10⟩) hHeld ?r10
            case h10 => intro W hSw; (try dsimp only at hSw); obtain ⟨t0, t1, t2⟩ := hSw; go_simp; try with_reducible rfl
            simp only [Act.put, List.setIfInBounds_toArray, List.set_cons_zero, List.set_cons_succ]
            refine wpAnyH_take (i := 11) (v := ?v11) rfl (by kernel_rfl) (by kernel_rfl) (by kernel_rfl) (fun _ _ _ h => h) (Or.inl ⟨by kernel_rfl, ?h11⟩) hHeld ?r11
            case h11 => intro W hSw; (try dsimp only at hSw); obtain ⟨t0, t1, t2⟩ := hSw; go_simp; try with_reducible rfl
            simp only [Act.put, List.setIfInBounds_toArray, List.set_cons_zero, List.set_cons_succ]
            refine wpAnyH_ready (rs := [1, 12]) (by kernel_rfl) (by simp) ?_
            refine AllReadyH.cons rfl (fun K hK => ?_) (AllReadyH.cons rfl (fun K hK => ?_) AllReadyH.nil)
            · go_simp
              refine hK.out _ _ (HS.out _ (bd0 _)) (fun hHeld => ?_)
              clear hK K
              (try simp only [Act.put, List.setIfInBounds_toArray, List.set_cons_zero, List.set_cons_succ])
              refine wpAnyH_ready (rs := [12]) (by kernel_rfl) (by simp) ?_
              refine AllReadyH.cons rfl (fun K hK => ?_) AllReadyH.nil
              go_simp
              refine hK.out _ _ (KA.out) (fun hHeld => ?_)
              clear hK K
              (try simp only [Act.put, List.setIfInBounds_toArray, List.set_cons_zero, List.set_cons_succ])
              refine wpAnyH_ready (rs := [13]) (by kernel_rfl) (by simp) ?_
              refine AllReadyH.cons rfl (fun K hK => ?_) AllReadyH.nil
              refine step_append_rd (k := .u8) rfl _ _ 26 rfl W1.heap.size 5 i0 1 Try.underlying26 hi hz0 hz1 hz2 _ R rfl OA.out _ [C] rfl (rd_one wr.drew C 5) (by unfold maxLen; simp only [List.length_cons, List.length_nil]; omega) (by simp only [List.length_cons, List.length_nil]; omega) BA.out.size ?_; intro v7 w7 o7 g7; rw [HD.out] at o7; obtain ⟨xa, xq, rfl⟩ := own_form o7; have B7 : Below W1.heap.size W1 w7 := below_grown BA.out g7 (fun k hk => (OA.out.lt k hk).1); have st7 := SA.out.grown g7 (stands_apart SA.out OA.out (by decide)); have u0 := st7.cell 0 _ rfl; have u1 := st7.cell 1 _ rfl; have u2 := st7.cell 2 _ rfl; have uf := st7.free; have B8 := below_set B7 W1.heap.size 2 (.slice xa D.length xq) HB.out
              refine hK.out _ _ (⟨Z0.out _ B7, Z2.out _ B7, ZA.out _ B7⟩) (fun hHeld => ?_)
              clear hK K
              (try simp only [Act.put, List.setIfInBounds_toArray, List.set_cons_zero, List.set_cons_succ])
              refine wpAnyH_take (i := 14) (v := ?v12) rfl (by kernel_rfl) (by kernel_rfl) (by kernel_rfl) (fun _ _ _ h => h) (Or.inl ⟨by kernel_rfl, ?h12⟩) hHeld ?r12
              case h12 => intro W hSw; (try dsimp only at hSw); obtain ⟨t0, t1, t2⟩ := hSw; go_simp; try with_reducible rfl
              simp only [Act.put, List.setIfInBounds_toArray, List.set_cons_zero, List.set_cons_succ]
              refine wpAnyH_ready (rs := [15]) (by kernel_rfl) (by simp) ?_
              refine AllReadyH.cons rfl (fun K hK => ?_) AllReadyH.nil
              go_simp
              refine hK.out _ _ (⟨Z0.out _ B8, Z2.out _ B8, ZA.out _ B8⟩) (fun hHeld => ?_)
              clear hK K
              (try simp only [Act.put, List.setIfInBounds_toArray, List.set_cons_zero, List.set_cons_succ])
              refine wpAnyH_done (by kernel_rfl) ?_ _
              have st8 := st7.set 2 (.slice xa D.length xq)
              have ST8 := hid st8
              have O8 := hid (own_kept (set_kept st7 2 (.slice xa D.length xq)) (show ¬ 5 = 28 by decide) o7)
              clear st8
              go_wp2_with fail
              go_roundw
              case rel => exact ⟨c + 1, _, by omega, (by have := hx2.out; go_num), by simpa using ST8.out, by rw [hin.out]; simpa [Own8] using O8.out, B8⟩
              case measure => simp [intOf] <;> omega
            · go_simp
              refine hK.out _ _ (KA.out) (fun hHeld => ?_)
              clear hK K
              (try simp only [Act.put, List.setIfInBounds_toArray, List.set_cons_zero, List.set_cons_succ])
              refine wpAnyH_ready (rs := [1]) (by kernel_rfl) (by simp) ?_
              refine AllReadyH.cons rfl (fun K hK => ?_) AllReadyH.nil
              go_simp
              refine hK.out _ _ (KA.out) (fun hHeld => ?_)
              clear hK K
              (try simp only [Act.put, List.setIfInBounds_toArray, List.set_cons_zero, List.set_cons_succ])
              refine wpAnyH_ready (rs := [13]) (by kernel_rfl) (by simp) ?_
              refine AllReadyH.cons rfl (fun K hK => ?_) AllReadyH.nil
              refine step_append_rd (k := .u8) rfl _ _ 26 rfl W1.heap.size 5 i0 1 Try.underlying26 hi hz0 hz1 hz2 _ R rfl OA.out _ [C] rfl (rd_one wr.drew C 5) (by unfold maxLen; simp only [List.length_cons, List.length_nil]; omega) (by simp only [List.length_cons, List.length_nil]; omega) BA.out.size ?_; intro v7 w7 o7 g7; rw [HD.out] at o7; obtain ⟨xa, xq, rfl⟩ := own_form o7; have B7 : Below W1.heap.size W1 w7 := below_grown BA.out g7 (fun k hk => (OA.out.lt k hk).1); have st7 := SA.out.grown g7 (stands_apart SA.out OA.out (by decide)); have u0 := st7.cell 0 _ rfl; have u1 := st7.cell 1 _ rfl; have u2 := st7.cell 2 _ rfl; have uf := st7.free; have B8 := below_set B7 W1.heap.size 2 (.slice xa D.length xq) HB.out
              refine hK.out _ _ (⟨Z0.out _ B7, Z2.out _ B7, ZA.out _ B7⟩) (fun hHeld => ?_)
              clear hK K
              (try simp only [Act.put, List.setIfInBounds_toArray, List.set_cons_zero, List.set_cons_succ])
              refine wpAnyH_take (i := 14) (v := ?v13) rfl (by kernel_rfl) (by kernel_rfl) (by kernel_rfl) (fun _ _ _ h => h) (Or.inl ⟨by kernel_rfl, ?h13⟩) hHeld ?r13
              case h13 => intro W hSw; (try dsimp only at hSw); obtain ⟨t0, t1, t2⟩ := hSw; go_simp; try with_reducible rfl
              simp only [Act.put, List.setIfInBounds_toArray, List.set_cons_zero, List.set_cons_succ]
              refine wpAnyH_ready (rs := [15]) (by kernel_rfl) (by simp) ?_
              refine AllReadyH.cons rfl (fun K hK => ?_) AllReadyH.nil
              go_simp
              refine hK.out _ _ (⟨Z0.out _ B8, Z2.out _ B8, ZA.out _ B8⟩) (fun hHeld => ?_)
              clear hK K
              (try simp only [Act.put, List.setIfInBounds_toArray, List.set_cons_zero, List.set_cons_succ])
              refine wpAnyH_done (by kernel_rfl) ?_ _
              have st8 := st7.set 2 (.slice xa D.length xq)
              have ST8 := hid st8
              have O8 := hid (own_kept (set_kept st7 2 (.slice xa D.length xq)) (show ¬ 5 = 28 by decide) o7)
              clear st8
              go_wp2_with fail
              go_roundw
              case rel => exact ⟨c + 1, _, by omega, (by have := hx2.out; go_num), by simpa using ST8.out, by rw [hin.out]; simpa [Own8] using O8.out, B8⟩
              case measure => simp [intOf] <;> omega
          · obtain rfl : c = m := by omega
            go_wp2_with fail
            go_roundw
            case rel => exact ⟨y + 1, vY, by omega, by go_num, st, by rw [Nat.succ_mul]; exact oy, bc⟩
            case measure => simp [intOf]; omega
      · obtain rfl : y = n := by omega
        have qa := mir_all (m, y, P')
        simp only at qa
        rw [Nat.mul_comm y m, qa] at oy
        have t0 := st.cell 0 _ rfl
        have t1 := st.cell 1 _ rfl
        have t2 := st.cell 2 _ rfl
        have SQ := SR.out.below bc
        have u0 := SQ.cell 0 _ rfl
        have u1 := SQ.cell 1 _ rfl
        have u2 := SQ.cell 2 _ rfl
        have uf := SQ.free
        have hR : Hid (ofP (pcM (m, y, P')) = ((m : Int), (y : Int), (pcM (m, y, P')).2.2)) := rfl
        obtain ⟨Q, hQ⟩ : ∃ Q, (pcM (m, y, P')).2.2 = Q := ⟨_, rfl⟩
        rw [hQ] at oy hR
        obtain ⟨ya, yq, rfl⟩ := own_form oy
        clear qa hQ
        go_wp2_with fail
        obtain ⟨k1, k2⟩ := set3q SQ (.int .i64 (m : Int)) (.int .i64 (y : Int)) (.slice ya Q.length yq)
        have J7 := below_set3 (below_trans bw1 bc) (w.heap.size + 1) (.int .i64 (m : Int)) (.int .i64 (y : Int)) (.slice ya Q.length yq) (by omega)
        (try simp only [Exit.inBlock, Exit.then])
        refine bodyPost_ret (res_row2 rfl _ _ (w.heap.size + 1) 28 _ (0, 0) _ rfl k1 Try.underlying28 rfl infoPc) rfl ?_
        rw [hR.out]
        exact ⟨_, rfl, ⟨_, rfl, own8_base (k2 _ (own8_kept (by decide)) (show Own8 _ wr (.slice ya Q.length yq) Q from oy)) bw1.size⟩, J7⟩

/-
  Draw of the document's answer for layer 22.
-/
theorem drI_bad {p t : PicI} {x y q : Int} (h : (fmI p && fmI t && decide (-64 ≤ x) && decide (x ≤ 64) && decide (-64 ≤ y) && decide (y ≤ 64)) = false) : drI p t x y q 1 = (noP, 1) := by
  unfold drI
  rw [if_neg (by rw [h]; decide)]

set_option maxHeartbeats 4000000 in
set_option maxRecDepth 10000 in
theorem w_rdraw22_no (va vb : Value) (p t : PicI) (x y q : Int) (w : World) (ha : RdPc w va p) (hb : RdPc w vb t) (hz : p.2.2.length ≤ 140737488351232) (hz2 : t.2.2.length ≤ 140737488351232)
    (hn : (fmI p && fmI t && decide (-64 ≤ x) && decide (x ≤ 64) && decide (-64 ≤ y) && decide (y ≤ 64)) = false) :
    Calls Try.prog 25 #[va, vb, .int .i64 x, .int .i64 y, .int .i64 q] w fun e w' => ∃ v', e = .returned (.tuple #[v', .int .i64 1]) ∧ OwPc w.heap.size w' v' noP ∧ Below w.heap.size w w' := by
  obtain ⟨v1, rfl, r1⟩ := ha
  obtain ⟨v2, rfl, r2⟩ := hb
  obtain ⟨W, H, P⟩ := p
  obtain ⟨X, Y, Q⟩ := t
  simp only at r1 r2 hz hz2 hn ⊢
  obtain ⟨pa, pq, rfl⟩ := rd_slice r1
  obtain ⟨qa, qq, rfl⟩ := rd_slice r2
  have bw : Below w.heap.size w (((w.alloc (.cells #[.int .i64 W, .int .i64 H, .slice pa P.length pq] 28)).alloc (.cells #[.int .i64 X, .int .i64 Y, .slice qa Q.length qq] 28)).alloc (.cells #[.int .i64 0, .int .i64 0, .slice none 0 0] 28)) := below_trans (box_below w _) (below_trans (box_below _ _) (box_below _ _))
  have s1 := ((stands_new w #[.int .i64 W, .int .i64 H, .slice pa P.length pq] 28).below (box_below _ (.cells #[.int .i64 X, .int .i64 Y, .slice qa Q.length qq] 28))).below (box_below _ (.cells #[.int .i64 0, .int .i64 0, .slice none 0 0] 28))
  have s2 := (stands_new (w.alloc (.cells #[.int .i64 W, .int .i64 H, .slice pa P.length pq] 28)) #[.int .i64 X, .int .i64 Y, .slice qa Q.length qq] 28).below (box_below _ (.cells #[.int .i64 0, .int .i64 0, .slice none 0 0] 28))
  have s3 := stands_new ((w.alloc (.cells #[.int .i64 W, .int .i64 H, .slice pa P.length pq] 28)).alloc (.cells #[.int .i64 X, .int .i64 Y, .slice qa Q.length qq] 28)) #[.int .i64 0, .int .i64 0, .slice none 0 0] 28
  rw [size_al] at s2
  rw [size_al, size_al] at s3
  have cF := fun W9 (g : Below w.heap.size w W9) => w_rformed22 W H _ P W9 (r1.below g) hz
  have cG := fun W9 (g : Below w.heap.size w W9) => w_rformed22 X Y _ Q W9 (r2.below g) hz2
  cases hp : fmI (W, H, P)
  · simp only [hp] at cF
    clear hn hp cG
    go_enter Try.func25, Try.ntmps25
    go_upto_region 1 with fail
    generalize ((w.alloc (.cells #[.int .i64 W, .int .i64 H, .slice pa P.length pq] 28)).alloc (.cells #[.int .i64 X, .int .i64 Y, .slice qa Q.length qq] 28)).alloc (.cells #[.int .i64 0, .int .i64 0, .slice none 0 0] 28) = W0 at bw s1 s2 s3 ⊢
    have z0 := s1.cell 0 _ rfl
    have z1 := s1.cell 1 _ rfl
    have z2 := s1.cell 2 _ rfl
    have y0 := s2.cell 0 _ rfl
    have y1 := s2.cell 1 _ rfl
    have y2 := s2.cell 2 _ rfl
    have cf := cF W0 bw
    go_upto_region 2 with (first
      | (go_at_call 21; refine cf.mono ?_; rintro e w1 ⟨rfl, b2⟩)
      | fail)
    have SR := s3.below b2
    have u0 := SR.cell 0 _ rfl
    have u1 := SR.cell 1 _ rfl
    have u2 := SR.cell 2 _ rfl
    have uf := SR.free
    go_wp2_with fail
    obtain ⟨k1, k2⟩ := set3q SR (.int .i64 0) (.int .i64 0) (.slice none 0 0)
    have J7 := below_set3 (below_trans bw b2) (w.heap.size + 2) (.int .i64 0) (.int .i64 0) (.slice none 0 0) (by omega)
    (try simp only [Exit.inBlock, Exit.then])
    refine bodyPost_ret (res_row2 rfl _ _ (w.heap.size + 2) 28 _ (0, 0) _ rfl k1 Try.underlying28 rfl infoPc) rfl ?_
    exact ⟨_, rfl, ⟨_, rfl, own8_nil _ _⟩, J7⟩
  · simp only [hp] at cF
    cases hq : fmI (X, Y, Q)
    · simp only [hq] at cG
      clear hn hp hq
      go_enter Try.func25, Try.ntmps25
      go_upto_region 1 with fail
      generalize ((w.alloc (.cells #[.int .i64 W, .int .i64 H, .slice pa P.length pq] 28)).alloc (.cells #[.int .i64 X, .int .i64 Y, .slice qa Q.length qq] 28)).alloc (.cells #[.int .i64 0, .int .i64 0, .slice none 0 0] 28) = W0 at bw s1 s2 s3 ⊢
      have z0 := s1.cell 0 _ rfl
      have z1 := s1.cell 1 _ rfl
      have z2 := s1.cell 2 _ rfl
      have y0 := s2.cell 0 _ rfl
      have y1 := s2.cell 1 _ rfl
      have y2 := s2.cell 2 _ rfl
      have cf := cF W0 bw
      go_upto_region 2 with (first
        | (go_at_call_of 21 W; refine cf.mono ?_; rintro e w1 ⟨rfl, b1⟩; have y0 := below_cell b1 y0; have y1 := below_cell b1 y1; have y2 := below_cell b1 y2)
        | (go_at_call_of 21 X; refine (cG _ (below_trans bw b1)).mono ?_; rintro e w2 ⟨rfl, b2q⟩; have b2 := below_trans b1 b2q)
        | fail)
      have SR := s3.below b2
      have u0 := SR.cell 0 _ rfl
      have u1 := SR.cell 1 _ rfl
      have u2 := SR.cell 2 _ rfl
      have uf := SR.free
      go_wp2_with fail
      obtain ⟨k1, k2⟩ := set3q SR (.int .i64 0) (.int .i64 0) (.slice none 0 0)
      have J7 := below_set3 (below_trans bw b2) (w.heap.size + 2) (.int .i64 0) (.int .i64 0) (.slice none 0 0) (by omega)
      (try simp only [Exit.inBlock, Exit.then])
      refine bodyPost_ret (res_row2 rfl _ _ (w.heap.size + 2) 28 _ (0, 0) _ rfl k1 Try.underlying28 rfl infoPc) rfl ?_
      exact ⟨_, rfl, ⟨_, rfl, own8_nil _ _⟩, J7⟩
    · simp only [hq] at cG
      rw [hp, hq] at hn
      clear hp hq
      by_cases h1 : x < -64
      · clear hn
        go_enter Try.func25, Try.ntmps25
        go_upto_region 1 with fail
        generalize ((w.alloc (.cells #[.int .i64 W, .int .i64 H, .slice pa P.length pq] 28)).alloc (.cells #[.int .i64 X, .int .i64 Y, .slice qa Q.length qq] 28)).alloc (.cells #[.int .i64 0, .int .i64 0, .slice none 0 0] 28) = W0 at bw s1 s2 s3 ⊢
        have z0 := s1.cell 0 _ rfl
        have z1 := s1.cell 1 _ rfl
        have z2 := s1.cell 2 _ rfl
        have y0 := s2.cell 0 _ rfl
        have y1 := s2.cell 1 _ rfl
        have y2 := s2.cell 2 _ rfl
        have cf := cF W0 bw
        go_upto_region 2 with (first
          | (go_at_call_of 21 W; refine cf.mono ?_; rintro e w1 ⟨rfl, b1⟩; have y0 := below_cell b1 y0; have y1 := below_cell b1 y1; have y2 := below_cell b1 y2)
          | (go_at_call_of 21 X; refine (cG _ (below_trans bw b1)).mono ?_; rintro e w2 ⟨rfl, b2q⟩; have b2 := below_trans b1 b2q)
          | fail)
        have SR := s3.below b2
        have u0 := SR.cell 0 _ rfl
        have u1 := SR.cell 1 _ rfl
        have u2 := SR.cell 2 _ rfl
        have uf := SR.free
        go_wp2_with fail
        obtain ⟨k1, k2⟩ := set3q SR (.int .i64 0) (.int .i64 0) (.slice none 0 0)
        have J7 := below_set3 (below_trans bw b2) (w.heap.size + 2) (.int .i64 0) (.int .i64 0) (.slice none 0 0) (by omega)
        (try simp only [Exit.inBlock, Exit.then])
        refine bodyPost_ret (res_row2 rfl _ _ (w.heap.size + 2) 28 _ (0, 0) _ rfl k1 Try.underlying28 rfl infoPc) rfl ?_
        exact ⟨_, rfl, ⟨_, rfl, own8_nil _ _⟩, J7⟩
      · by_cases h2 : 64 < x
        · clear hn
          go_enter Try.func25, Try.ntmps25
          go_upto_region 1 with fail
          generalize ((w.alloc (.cells #[.int .i64 W, .int .i64 H, .slice pa P.length pq] 28)).alloc (.cells #[.int .i64 X, .int .i64 Y, .slice qa Q.length qq] 28)).alloc (.cells #[.int .i64 0, .int .i64 0, .slice none 0 0] 28) = W0 at bw s1 s2 s3 ⊢
          have z0 := s1.cell 0 _ rfl
          have z1 := s1.cell 1 _ rfl
          have z2 := s1.cell 2 _ rfl
          have y0 := s2.cell 0 _ rfl
          have y1 := s2.cell 1 _ rfl
          have y2 := s2.cell 2 _ rfl
          have cf := cF W0 bw
          go_upto_region 2 with (first
            | (go_at_call_of 21 W; refine cf.mono ?_; rintro e w1 ⟨rfl, b1⟩; have y0 := below_cell b1 y0; have y1 := below_cell b1 y1; have y2 := below_cell b1 y2)
            | (go_at_call_of 21 X; refine (cG _ (below_trans bw b1)).mono ?_; rintro e w2 ⟨rfl, b2q⟩; have b2 := below_trans b1 b2q)
            | fail)
          have SR := s3.below b2
          have u0 := SR.cell 0 _ rfl
          have u1 := SR.cell 1 _ rfl
          have u2 := SR.cell 2 _ rfl
          have uf := SR.free
          go_wp2_with fail
          obtain ⟨k1, k2⟩ := set3q SR (.int .i64 0) (.int .i64 0) (.slice none 0 0)
          have J7 := below_set3 (below_trans bw b2) (w.heap.size + 2) (.int .i64 0) (.int .i64 0) (.slice none 0 0) (by omega)
          (try simp only [Exit.inBlock, Exit.then])
          refine bodyPost_ret (res_row2 rfl _ _ (w.heap.size + 2) 28 _ (0, 0) _ rfl k1 Try.underlying28 rfl infoPc) rfl ?_
          exact ⟨_, rfl, ⟨_, rfl, own8_nil _ _⟩, J7⟩
        · by_cases h3 : y < -64
          · clear hn
            go_enter Try.func25, Try.ntmps25
            go_upto_region 1 with fail
            generalize ((w.alloc (.cells #[.int .i64 W, .int .i64 H, .slice pa P.length pq] 28)).alloc (.cells #[.int .i64 X, .int .i64 Y, .slice qa Q.length qq] 28)).alloc (.cells #[.int .i64 0, .int .i64 0, .slice none 0 0] 28) = W0 at bw s1 s2 s3 ⊢
            have z0 := s1.cell 0 _ rfl
            have z1 := s1.cell 1 _ rfl
            have z2 := s1.cell 2 _ rfl
            have y0 := s2.cell 0 _ rfl
            have y1 := s2.cell 1 _ rfl
            have y2 := s2.cell 2 _ rfl
            have cf := cF W0 bw
            go_upto_region 2 with (first
              | (go_at_call_of 21 W; refine cf.mono ?_; rintro e w1 ⟨rfl, b1⟩; have y0 := below_cell b1 y0; have y1 := below_cell b1 y1; have y2 := below_cell b1 y2)
              | (go_at_call_of 21 X; refine (cG _ (below_trans bw b1)).mono ?_; rintro e w2 ⟨rfl, b2q⟩; have b2 := below_trans b1 b2q)
              | fail)
            have SR := s3.below b2
            have u0 := SR.cell 0 _ rfl
            have u1 := SR.cell 1 _ rfl
            have u2 := SR.cell 2 _ rfl
            have uf := SR.free
            go_wp2_with fail
            obtain ⟨k1, k2⟩ := set3q SR (.int .i64 0) (.int .i64 0) (.slice none 0 0)
            have J7 := below_set3 (below_trans bw b2) (w.heap.size + 2) (.int .i64 0) (.int .i64 0) (.slice none 0 0) (by omega)
            (try simp only [Exit.inBlock, Exit.then])
            refine bodyPost_ret (res_row2 rfl _ _ (w.heap.size + 2) 28 _ (0, 0) _ rfl k1 Try.underlying28 rfl infoPc) rfl ?_
            exact ⟨_, rfl, ⟨_, rfl, own8_nil _ _⟩, J7⟩
          · by_cases h4 : 64 < y
            · clear hn
              go_enter Try.func25, Try.ntmps25
              go_upto_region 1 with fail
              generalize ((w.alloc (.cells #[.int .i64 W, .int .i64 H, .slice pa P.length pq] 28)).alloc (.cells #[.int .i64 X, .int .i64 Y, .slice qa Q.length qq] 28)).alloc (.cells #[.int .i64 0, .int .i64 0, .slice none 0 0] 28) = W0 at bw s1 s2 s3 ⊢
              have z0 := s1.cell 0 _ rfl
              have z1 := s1.cell 1 _ rfl
              have z2 := s1.cell 2 _ rfl
              have y0 := s2.cell 0 _ rfl
              have y1 := s2.cell 1 _ rfl
              have y2 := s2.cell 2 _ rfl
              have cf := cF W0 bw
              go_upto_region 2 with (first
                | (go_at_call_of 21 W; refine cf.mono ?_; rintro e w1 ⟨rfl, b1⟩; have y0 := below_cell b1 y0; have y1 := below_cell b1 y1; have y2 := below_cell b1 y2)
                | (go_at_call_of 21 X; refine (cG _ (below_trans bw b1)).mono ?_; rintro e w2 ⟨rfl, b2q⟩; have b2 := below_trans b1 b2q)
                | fail)
              have SR := s3.below b2
              have u0 := SR.cell 0 _ rfl
              have u1 := SR.cell 1 _ rfl
              have u2 := SR.cell 2 _ rfl
              have uf := SR.free
              go_wp2_with fail
              obtain ⟨k1, k2⟩ := set3q SR (.int .i64 0) (.int .i64 0) (.slice none 0 0)
              have J7 := below_set3 (below_trans bw b2) (w.heap.size + 2) (.int .i64 0) (.int .i64 0) (.slice none 0 0) (by omega)
              (try simp only [Exit.inBlock, Exit.then])
              refine bodyPost_ret (res_row2 rfl _ _ (w.heap.size + 2) 28 _ (0, 0) _ rfl k1 Try.underlying28 rfl infoPc) rfl ?_
              exact ⟨_, rfl, ⟨_, rfl, own8_nil _ _⟩, J7⟩
            · exfalso
              rw [decide_eq_true (by omega), decide_eq_true (by omega), decide_eq_true (by omega), decide_eq_true (by omega)] at hn
              cases hn

end Go.Proofs.Ythihkfimledccaa
