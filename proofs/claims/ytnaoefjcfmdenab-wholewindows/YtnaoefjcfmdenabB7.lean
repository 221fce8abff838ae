/-
  Texts of one proof, laid one behind the other: Wwn.
-/
import Derived.Test.YtnaoefjcfmdenabB6
namespace Go.Proofs.Ytnaoefjcfmdenab
open Go.ChangeShapes Go.WideShapes Go.ChangeAt Go.RowKit
set_option linter.unusedVariables false
set_option linter.unusedSimpArgs false

/-
  Two windows side by side are two lists of bytes: the whole statement, walked.
-/
theorem infoW1 : (Try.prog.info? (Try.prog.elem 23)).map (·.size) = some 1 := by kernel_rfl
theorem made_ar (n : Nat) : madeCells #[.int .u8 0] n = ArA .u8 (List.replicate n 0) := by
  apply Array.toList_inj.1
  rw [made_zero]
  simp [ArA]
theorem cut_own (g n : Nat) (A : Int) (a0 : 0 ≤ A) (a1 : A ≤ n) : ∃ dp, (∀ w', (Instr.slice 23 (.slice (some ⟨g, 0, none⟩) n n) (some (.int .i64 A)) none none).run Try.prog w' = .ok (.slice dp (n - A.toNat) (n - A.toNat)) w') ∧ (0 < n - A.toNat → dp = some ⟨g, A.toNat, none⟩) := by
  refine ⟨if n = A.toNat then some ⟨g, 0, none⟩ else some (Addr.add ⟨g, 0, none⟩ A.toNat), fun w' => ?_, fun h => ?_⟩
  · rw [run_slice_l w' 23 (some ⟨g, 0, none⟩) n n uB .i64 A a0 a1, zB]
    simp only [Result.andThen, sliced, Nat.mul_one]
    rfl
  · rw [if_neg (by omega)]
    unfold Addr.add
    split
    · rename_i hz; rw [hz]
    · simp

set_option maxHeartbeats 8000000 in
set_option maxRecDepth 100000 in
theorem w_wholeWindows (v0 : Value) (x0 : List Wrt) (w : World) (r0 : SlR 3 wrR w v0 x0) (g0 : ∀ x ∈ x0, gWr x) :
    Calls Try.prog 3 #[v0] w fun e w' => e = .returned (.bool true) ∧ Below w.heap.size w w' := by
  obtain ⟨i0, hi, hz0, hz1, hz2⟩ := info_parts infoU8
  have hl0 := slr_len r0 uWr (P := Try.prog)
  have hm0 := slr_max r0
  unfold maxLen at hm0
  have cM := fun W => w_pmake21 wwP W rfl ww_u32
  rw [ww_mk] at cM
  have cM : ∀ W, Calls Try.prog 4 #[.agg #[.int .u32 1, .int .u32 2, .int .u32 3, .int .u32 1, .int .u32 0, .int .u32 0, .int .u32 0, .int .u32 0, .int .u32 0, .int .u32 0, .int .u32 0, .int .u32 0, .int .u32 0, .int .u32 0, .int .u32 0, .int .u32 0]] W fun e w' => ∃ v, e = .returned (.tuple #[v, .int .i64 0]) ∧ Own8 W.heap.size w' v wwL ∧ Below W.heap.size W w' := cM
  have hzb : ∀ n : Nat, bytesL (List.replicate n 0) := fun n x hx => by simp only [List.mem_replicate] at hx; omega
  have HZ := hid (fun (W : World) (v : Value) (o : Own8 w.heap.size W v wwL) (hs : w.heap.size ≤ W.heap.size) => append_zeros_own (P := Try.prog) (k := .u8) w.heap.size 23 3 5 i0 1 Try.underlying23 Try.underlying3 hi hz0 hz1 hz2 v wwL o (by rw [ww_len]; omega) 2048 (by omega) (by rw [ww_len]; unfold maxLen; omega) (by rw [ww_len]; omega) hs)
  rw [ww_first] at HZ
  have hR1 : (List.replicate 1024 (0 : Int)).length = 1024 := List.length_replicate
  have hR2 : (List.replicate 512 (0 : Int)).length = 512 := List.length_replicate
  have hM9 := fun W => mk_zero 1024 1024 rfl (by decide) W
  have hM5 := fun W => mk_zero 512 512 rfl (by decide) W
  rw [made_ar] at hM9 hM5
  have hB1 := hzb 1024
  have hB2 := hzb 512
  obtain ⟨Z1, hZ1⟩ : ∃ Z, List.replicate 1024 (0 : Int) = Z := ⟨_, rfl⟩
  obtain ⟨Z2, hZ2⟩ : ∃ Z, List.replicate 512 (0 : Int) = Z := ⟨_, rfl⟩
  rw [hZ1] at HZ hR1 hM9 hB1
  rw [hZ2] at HZ hR2 hM5 hB2
  have hDb := ww_bytes hB1 hB2
  have hDl := ww_dlen hR1 hR2
  have cW := fun v W r => w_pwindow21 v (wwD Z1 Z2) ⟨#[97]⟩ W r hDb (by omega) (by decide)
  rw [show LB ⟨#[97]⟩ = [97] from rfl, ww_a hR1 hR2] at cW
  simp only at cW
  have HB := hid (And.intro hR1 (And.intro hR2 (And.intro hB1 (And.intro hB2 hZ2))))
  have R0 := hid r0
  have G0 := hid g0
  clear hR1 hR2 hB1 hB2 hZ1 hZ2 hzb hDb hDl r0 g0
  have M9 := hid hM9
  have M5 := hid hM5
  go_enter Try.func3, Try.ntmps3
  by_cases h40 : (40 : Int) < x0.length
  · clear hM9 hM5
    go_wp2_with (first
      | (go_at_call 4; refine (cM _).mono ?_; rintro e w1 ⟨v1, rfl, o1, b1⟩; obtain ⟨v2, w2, h2, o2, g2⟩ := HZ.out w1 v1 o1 b1.size; have b2 := below_grown b1 g2 (fun k hk => (o1.lt k hk).1))
      | (at_builtin; refine Lib.wpList_append_run _ rfl _ _ _ _ rfl _ _ rfl rfl _ _ (h2 _) ?_)
      | (go_at_call 5; refine (cW _ _ (Rd_own o2).1).mono ?_; rintro e w3 ⟨rfl, b3⟩))
    go_ret
    exact ⟨rfl, below_trans b2 b3⟩
  · clear hM9 hM5
    go_upto_region 8 with (first
      | (go_at_call 4; refine (cM _).mono ?_; rintro e w1 ⟨v1, rfl, o1, b1⟩; obtain ⟨v2, w2, h2, o2, g2⟩ := HZ.out w1 v1 o1 b1.size; have b2 := below_grown b1 g2 (fun k hk => (o1.lt k hk).1))
      | (at_builtin; refine Lib.wpList_append_run _ rfl _ _ _ _ rfl _ _ rfl rfl _ _ (h2 _) ?_)
      | (go_at_call 5; refine (cW _ _ (Rd_own o2).1).mono ?_; rintro e w3 ⟨rfl, b3⟩))
    have hM9 := M9.out
    have hM5 := M5.out
    have o3 : Own8 w.heap.size w3 v2 (wwD Z1 Z2) := own_below o2 b3
    have b03 := below_trans b2 b3
    have hnb := fun q hq => (World.ownsRow.lt o3 q hq).2
    have O3 := hid o3
    have B3 := hid b03
    clear o1 b1 h2 o2 g2 b2 b3 o3 b03 cM cW
    go_region
    · have s9 := (stands_new w3 (ArA .u8 Z1) 5).below (box_below _ (.cells (ArA .u8 Z2) 5))
      have s10 := stands_new (w3.alloc (.cells (ArA .u8 Z1) 5)) (ArA .u8 Z2) 5
      rw [size_al] at s10
      have bn := below_trans (box_below w3 (.cells (ArA .u8 Z1) 5)) (box_below _ (.cells (ArA .u8 Z2) 5))
      have b4 : Below w3.heap.size w3 ((w3.alloc (.cells (ArA .u8 Z1) 5)).alloc (.cells (ArA .u8 Z2) 5)).drew := below_drewN bn 1
      have s9 : Stands ((w3.alloc (.cells (ArA .u8 Z1) 5)).alloc (.cells (ArA .u8 Z2) 5)).drew w3.heap.size (ArA .u8 Z1) 5 := s9
      have s10 : Stands ((w3.alloc (.cells (ArA .u8 Z1) 5)).alloc (.cells (ArA .u8 Z2) 5)).drew (w3.heap.size + 1) (ArA .u8 Z2) 5 := s10
      have o4 := own_below O3.out b4
      have B4 := below_trans B3.out b4
      have hnq : ∀ q, v2.ownBlock = some q → ¬ q = w3.heap.size ∧ ¬ q = w3.heap.size + 1 := fun q hq => by have := hnb q hq; omega
      have h9 : w.heap.size ≤ w3.heap.size := B3.out.size
      have h10 : w.heap.size ≤ w3.heap.size + 1 := by omega
      have hne : ¬ w3.heap.size = w3.heap.size + 1 := by omega
      generalize ((w3.alloc (.cells (ArA .u8 Z1) 5)).alloc (.cells (ArA .u8 Z2) 5)).drew = W4 at s9 s10 o4 B4 ⊢
      clear bn b4 hnb O3 B3
      generalize w3.heap.size + 1 = g10 at s10 hnq h10 hne ⊢
      generalize w3.heap.size = g9 at s9 hnq h9 hne ⊢
      go_wp2_with fail
      go_loopw [5, 11] (fun D I wx => ∃ (k : Nat) (F S : List Int), k ≤ x0.length ∧ I = .int .i64 k ∧ F.length = 1024 ∧ S.length = 512 ∧ Hid (bytesL F ∧ bytesL S) ∧ Own8 w.heap.size wx D (wwD F S) ∧ (∀ q, D.ownBlock = some q → ¬ q = g9 ∧ ¬ q = g10) ∧ Stands wx g9 (ArA .u8 F) 5 ∧ Stands wx g10 (ArA .u8 S) 5 ∧ Below w.heap.size w wx) (fun _ I _ => (x0.length - intOf I).toNat)
      case atStart => exact ⟨0, Z1, Z2, by omega, rfl, HB.out.1, HB.out.2.1, hid ⟨HB.out.2.2.1, HB.out.2.2.2.1⟩, o4, hnq, s9, s10, B4⟩
      case round =>
        obtain ⟨k, F, S, hk, rfl, hF, hS, hFS, hO, hQ, hs9, hs10, hg⟩ := hrel
        have hFb := hFS.out.1
        have hSb := hFS.out.2
        clear s9 s10 o4 hnq B4
        obtain ⟨da, dq, rfl⟩ := own_form hO
        have hDl := ww_dlen hF hS
        by_cases hlt : (k : Int) < x0.length
        · obtain ⟨bb, oo, Z, A, c, D, ri, e0w, e1w, e2w, rD, gA, gDb, gDz⟩ := wr_at R0.out G0.out k (by omega)
          obtain ⟨ca, cq, rfl⟩ := rd_slice rD
          have rD := rD.below hg
          have e0 := below_cell hg e0w
          have e1 := below_cell hg e1w
          have e2 := below_cell hg e2w
          have rv := (Rd_own hO).1
          have hDb := ww_bytes hFb hSb
          simp only at gA gDb gDz
          cases Z
          · have cp := fun W r rb => w_plput21 (.slice da (wwD F S).length dq) (.slice ca D.length cq) (wwD F S) D ⟨#[97]⟩ A W r rb hDb (by omega) (by decide) gA.1 gA.2
            simp only [show LB ⟨#[97]⟩ = [97] from rfl] at cp
            clear hDl
            have hwM : A < 0 ∨ 1024 < A ∨ IntKind.i64.wrap (1024 - A) = 1024 - A := by
              by_cases q0 : A < 0
              · exact Or.inl q0
              · by_cases q1 : 1024 < A
                · exact Or.inr (Or.inl q1)
                · exact Or.inr (Or.inr (by rw [IntKind.wrap_i64]; omega))
            by_cases hbad : A < 0 ∨ 1024 < A ∨ 1024 - A < (D.length : Int)
            · rw [ww_no (ww_a hF hS) hbad] at cp
              simp only at cp
              go_upto_region 15 with fail
              refine wp_region_held_drew (S := fun W => W.cell? ⟨bb, oo + 1, none⟩ = some (.int .i64 A) ∧ W.cell? ⟨bb, oo + 2, none⟩ = some (.slice ca D.length cq)) (by kernel_rfl) (⟨e1, e2⟩) (fun hHeld => ?_)
              refine wpAnyH_take (i := 0) (v := ?v1) rfl (by kernel_rfl) (by kernel_rfl) (by kernel_rfl) (fun _ _ _ h => h) (Or.inl ⟨by kernel_rfl, ?h1⟩) hHeld ?r1
              case h1 => intro W hSw; (try dsimp only at hSw); obtain ⟨hA, hB⟩ := hSw; go_simp; try with_reducible rfl
              simp only [Act.put, List.setIfInBounds_toArray, List.set_cons_zero, List.set_cons_succ]
              refine wpAnyH_take (i := 1) (v := ?v2) rfl (by kernel_rfl) (by kernel_rfl) (by kernel_rfl) (fun _ _ _ h => h) (Or.inl ⟨by kernel_rfl, ?h2⟩) hHeld ?r2
              case h2 => intro W hSw; (try dsimp only at hSw); obtain ⟨hA, hB⟩ := hSw; go_simp; try with_reducible rfl
              simp only [Act.put, List.setIfInBounds_toArray, List.set_cons_zero, List.set_cons_succ]
              refine wpAnyH_take (i := 2) (v := ?v3) rfl (by kernel_rfl) (by kernel_rfl) (by kernel_rfl) (fun _ _ _ h => h) (Or.inl ⟨by kernel_rfl, ?h3⟩) hHeld ?r3
              case h3 => intro W hSw; (try dsimp only at hSw); obtain ⟨hA, hB⟩ := hSw; go_simp; try with_reducible rfl
              simp only [Act.put, List.setIfInBounds_toArray, List.set_cons_zero, List.set_cons_succ]
              refine wpAnyH_take (i := 3) (v := ?v4) rfl (by kernel_rfl) (by kernel_rfl) (by kernel_rfl) (fun _ _ _ h => h) (Or.inl ⟨by kernel_rfl, ?h4⟩) hHeld ?r4
              case h4 => intro W hSw; (try dsimp only at hSw); obtain ⟨hA, hB⟩ := hSw; go_simp; try with_reducible rfl
              simp only [Act.put, List.setIfInBounds_toArray, List.set_cons_zero, List.set_cons_succ]
              refine wpAnyH_take (i := 4) (v := ?v5) rfl (by kernel_rfl) (by kernel_rfl) (by kernel_rfl) (fun _ _ _ h => h) (Or.inl ⟨by kernel_rfl, ?h5⟩) hHeld ?r5
              case h5 => intro W hSw; (try dsimp only at hSw); obtain ⟨hA, hB⟩ := hSw; go_simp; try with_reducible rfl
              simp only [Act.put, List.setIfInBounds_toArray, List.set_cons_zero, List.set_cons_succ]
              refine wpAnyH_take (i := 5) (v := ?v6) rfl (by kernel_rfl) (by kernel_rfl) (by kernel_rfl) (fun _ _ _ h => h) (Or.inl ⟨by kernel_rfl, ?h6⟩) hHeld ?r6
              case h6 => intro W hSw; (try dsimp only at hSw); obtain ⟨hA, hB⟩ := hSw; go_simp; try with_reducible rfl
              simp only [Act.put, List.setIfInBounds_toArray, List.set_cons_zero, List.set_cons_succ]
              refine wpAnyH_take (i := 6) (v := ?v7) rfl (by kernel_rfl) (by kernel_rfl) (by kernel_rfl) (fun _ _ _ h => h) (Or.inl ⟨by kernel_rfl, ?h7⟩) hHeld ?r7
              case h7 => intro W hSw; (try dsimp only at hSw); obtain ⟨hA, hB⟩ := hSw; go_simp; try with_reducible rfl
              simp only [Act.put, List.setIfInBounds_toArray, List.set_cons_zero, List.set_cons_succ]
              refine wpAnyH_take (i := 7) (v := ?v8) rfl (by kernel_rfl) (by kernel_rfl) (by kernel_rfl) (fun _ _ _ h => h) (Or.inl ⟨by kernel_rfl, ?h8⟩) hHeld ?r8
              case h8 => intro W hSw; (try dsimp only at hSw); obtain ⟨hA, hB⟩ := hSw; go_simp; try with_reducible rfl
              simp only [Act.put, List.setIfInBounds_toArray, List.set_cons_zero, List.set_cons_succ]
              refine wpAnyH_take (i := 8) (v := ?v9) rfl (by kernel_rfl) (by kernel_rfl) (by kernel_rfl) (fun _ _ _ h => h) (Or.inl ⟨by kernel_rfl, ?h9⟩) hHeld ?r9
              case h9 => intro W hSw; (try dsimp only at hSw); obtain ⟨hA, hB⟩ := hSw; go_simp; try with_reducible rfl
              simp only [Act.put, List.setIfInBounds_toArray, List.set_cons_zero, List.set_cons_succ]
              refine wpAnyH_take (i := 9) (v := ?v10) rfl (by kernel_rfl) (by kernel_rfl) (by kernel_rfl) (fun _ _ _ h => h) (Or.inl ⟨by kernel_rfl, ?h10⟩) hHeld ?r10
              case h10 => intro W hSw; (try dsimp only at hSw); obtain ⟨hA, hB⟩ := hSw; go_simp; try with_reducible rfl
              simp only [Act.put, List.setIfInBounds_toArray, List.set_cons_zero, List.set_cons_succ]
              refine wpAnyH_take (i := 10) (v := ?v11) rfl (by kernel_rfl) (by kernel_rfl) (by kernel_rfl) (fun _ _ _ h => h) (Or.inl ⟨by kernel_rfl, ?h11⟩) hHeld ?r11
              case h11 => intro W hSw; (try dsimp only at hSw); obtain ⟨hA, hB⟩ := hSw; go_simp; try with_reducible rfl
              simp only [Act.put, List.setIfInBounds_toArray, List.set_cons_zero, List.set_cons_succ]
              refine wpAnyH_take (i := 11) (v := ?v12) rfl (by kernel_rfl) (by kernel_rfl) (by kernel_rfl) (fun _ _ _ h => h) (Or.inl ⟨by kernel_rfl, ?h12⟩) hHeld ?r12
              case h12 => intro W hSw; (try dsimp only at hSw); obtain ⟨hA, hB⟩ := hSw; go_simp; try with_reducible rfl
              simp only [Act.put, List.setIfInBounds_toArray, List.set_cons_zero, List.set_cons_succ]
              refine wpAnyH_ready (rs := [12]) (by kernel_rfl) (by simp) ?_
              refine AllReadyH.cons rfl (fun K hK => ?_) AllReadyH.nil
              go_simp
              go_wp2_with (first | (go_at_call 6; refine (cp _ (rv.below (below_drewN (Below.refl _ _) 1)) (rD.below (below_drewN (Below.refl _ _) 1))).mono ?_; rintro e q3 ⟨v3, rfl, o3, b3⟩))
              refine hK.out _ _ (⟨below_cell b3 hHeld.1, below_cell b3 hHeld.2⟩) (fun hHeld => ?_)
              clear hK K
              (try simp only [Act.put, List.setIfInBounds_toArray, List.set_cons_zero, List.set_cons_succ])
              refine wpAnyH_take (i := 13) (v := ?v13) rfl (by kernel_rfl) (by kernel_rfl) (by kernel_rfl) (fun _ _ _ h => h) (Or.inl ⟨by kernel_rfl, ?h13⟩) hHeld ?r13
              case h13 => intro W hSw; (try dsimp only at hSw); obtain ⟨hA, hB⟩ := hSw; go_simp; try with_reducible rfl
              simp only [Act.put, List.setIfInBounds_toArray, List.set_cons_zero, List.set_cons_succ]
              refine wpAnyH_take (i := 14) (v := ?v14) rfl (by kernel_rfl) (by kernel_rfl) (by kernel_rfl) (fun _ _ _ h => h) (Or.inl ⟨by kernel_rfl, ?h14⟩) hHeld ?r14
              case h14 => intro W hSw; (try dsimp only at hSw); obtain ⟨hA, hB⟩ := hSw; go_simp; try with_reducible rfl
              simp only [Act.put, List.setIfInBounds_toArray, List.set_cons_zero, List.set_cons_succ]
              refine wpAnyH_take (i := 15) (v := ?v15) rfl (by kernel_rfl) (by kernel_rfl) (by kernel_rfl) (fun _ _ _ h => h) (Or.inl ⟨by kernel_rfl, ?h15⟩) hHeld ?r15
              case h15 => intro W hSw; (try dsimp only at hSw); obtain ⟨hA, hB⟩ := hSw; go_simp; try with_reducible rfl
              simp only [Act.put, List.setIfInBounds_toArray, List.set_cons_zero, List.set_cons_succ]
              refine wpAnyH_ready (rs := [16]) (by kernel_rfl) (by simp) ?_
              refine AllReadyH.cons rfl (fun K hK => ?_) AllReadyH.nil
              go_simp
              refine hK.out _ _ (hHeld) (fun hHeld => ?_)
              clear hK K
              (try simp only [Act.put, List.setIfInBounds_toArray, List.set_cons_zero, List.set_cons_succ])
              refine wpAnyH_ready (rs := [17]) (by kernel_rfl) (by simp) ?_
              refine AllReadyH.cons rfl (fun K hK => ?_) AllReadyH.nil
              go_simp
              refine hK.out _ _ (hHeld) (fun hHeld => ?_)
              clear hK K
              (try simp only [Act.put, List.setIfInBounds_toArray, List.set_cons_zero, List.set_cons_succ])
              refine wpAnyH_done (by kernel_rfl) ?_ _
              have f1 := hHeld.1
              have f2 := hHeld.2
              have b13 : Below wr.heap.size wr q3 := below_trans (below_drewN (Below.refl _ _) 1) b3
              have HK := hid (fun n => (⟨own8_below hO (below_drewN b13 n), hs9.below (below_drewN b13 n), hs10.below (below_drewN b13 n), below_trans hg (below_drewN b13 n)⟩ : Own8 w.heap.size (q3.drewN n) (.slice da (wwD F S).length dq) (wwD F S) ∧ Stands (q3.drewN n) g9 (ArA .u8 F) 5 ∧ Stands (q3.drewN n) g10 (ArA .u8 S) 5 ∧ Below w.heap.size w (q3.drewN n)))
              clear hHeld o3 b3 e0 e1 e2
              by_cases hA0 : A < 0
              · have d0 : decide (A < 0) = true := decide_eq_true hA0
                clear hwM hbad
                go_upto_region 16 with fail
                go_quiet (fail)
                go_wp2_with fail
                go_roundw
                case rel => exact ⟨k + 1, F, S, by omega, by go_num, hF, hS, hFS, (HK.out _).1, hQ, (HK.out _).2.1, (HK.out _).2.2.1, (HK.out _).2.2.2⟩
                case measure => simp [intOf]; omega
              · have d0 : decide (A < 0) = false := decide_eq_false hA0
                by_cases hA1 : 1024 < A
                · have d1 : decide (1024 < A) = true := decide_eq_true hA1
                  clear hwM hbad
                  go_upto_region 16 with fail
                  go_quiet (fail)
                  go_wp2_with fail
                  go_roundw
                  case rel => exact ⟨k + 1, F, S, by omega, by go_num, hF, hS, hFS, (HK.out _).1, hQ, (HK.out _).2.1, (HK.out _).2.2.1, (HK.out _).2.2.2⟩
                  case measure => simp [intOf]; omega
                · have d1 : decide (1024 < A) = false := decide_eq_false hA1
                  have hA2 : 1024 - A < (D.length : Int) := by omega
                  have d2 : decide (1024 - A < (D.length : Int)) = true := decide_eq_true hA2
                  have hwq : IntKind.i64.wrap (1024 - A) = 1024 - A := by omega
                  clear hwM hbad
                  go_upto_region 16 with fail
                  go_quiet (fail)
                  go_wp2_with fail
                  go_roundw
                  case rel => exact ⟨k + 1, F, S, by omega, by go_num, hF, hS, hFS, (HK.out _).1, hQ, (HK.out _).2.1, (HK.out _).2.2.1, (HK.out _).2.2.2⟩
                  case measure => simp [intOf]; omega
            · rw [ww_puta hF hS hbad] at cp
              simp only at cp
              have d0 : decide (A < 0) = false := decide_eq_false (by omega)
              have d1 : decide (1024 < A) = false := decide_eq_false (by omega)
              have d2 : decide (1024 - A < (D.length : Int)) = false := decide_eq_false (by omega)
              have hwq : IntKind.i64.wrap (1024 - A) = 1024 - A := by omega
              have hn2 : ¬ 1024 - A < (D.length : Int) := by omega
              have hXl : (putW F D A).length = 1024 := by rw [putW_len (by omega) (by omega)]; assumption
              have hXb : bytesL (putW F D A) := putW_bytes (by assumption) gDb
              go_upto_region 15 with fail
              refine wp_region_held_drew (S := fun W => W.cell? ⟨bb, oo + 1, none⟩ = some (.int .i64 A) ∧ W.cell? ⟨bb, oo + 2, none⟩ = some (.slice ca D.length cq)) (by kernel_rfl) (⟨e1, e2⟩) (fun hHeld => ?_)
              refine wpAnyH_take (i := 0) (v := ?v16) rfl (by kernel_rfl) (by kernel_rfl) (by kernel_rfl) (fun _ _ _ h => h) (Or.inl ⟨by kernel_rfl, ?h16⟩) hHeld ?r16
              case h16 => intro W hSw; (try dsimp only at hSw); obtain ⟨hA, hB⟩ := hSw; go_simp; try with_reducible rfl
              simp only [Act.put, List.setIfInBounds_toArray, List.set_cons_zero, List.set_cons_succ]
              refine wpAnyH_take (i := 1) (v := ?v17) rfl (by kernel_rfl) (by kernel_rfl) (by kernel_rfl) (fun _ _ _ h => h) (Or.inl ⟨by kernel_rfl, ?h17⟩) hHeld ?r17
              case h17 => intro W hSw; (try dsimp only at hSw); obtain ⟨hA, hB⟩ := hSw; go_simp; try with_reducible rfl
              simp only [Act.put, List.setIfInBounds_toArray, List.set_cons_zero, List.set_cons_succ]
              refine wpAnyH_take (i := 2) (v := ?v18) rfl (by kernel_rfl) (by kernel_rfl) (by kernel_rfl) (fun _ _ _ h => h) (Or.inl ⟨by kernel_rfl, ?h18⟩) hHeld ?r18
              case h18 => intro W hSw; (try dsimp only at hSw); obtain ⟨hA, hB⟩ := hSw; go_simp; try with_reducible rfl
              simp only [Act.put, List.setIfInBounds_toArray, List.set_cons_zero, List.set_cons_succ]
              refine wpAnyH_take (i := 3) (v := ?v19) rfl (by kernel_rfl) (by kernel_rfl) (by kernel_rfl) (fun _ _ _ h => h) (Or.inl ⟨by kernel_rfl, ?h19⟩) hHeld ?r19
              case h19 => intro W hSw; (try dsimp only at hSw); obtain ⟨hA, hB⟩ := hSw; go_simp; try with_reducible rfl
              simp only [Act.put, List.setIfInBounds_toArray, List.set_cons_zero, List.set_cons_succ]
              refine wpAnyH_take (i := 4) (v := ?v20) rfl (by kernel_rfl) (by kernel_rfl) (by kernel_rfl) (fun _ _ _ h => h) (Or.inl ⟨by kernel_rfl, ?h20⟩) hHeld ?r20
              case h20 => intro W hSw; (try dsimp only at hSw); obtain ⟨hA, hB⟩ := hSw; go_simp; try with_reducible rfl
              simp only [Act.put, List.setIfInBounds_toArray, List.set_cons_zero, List.set_cons_succ]
              refine wpAnyH_take (i := 5) (v := ?v21) rfl (by kernel_rfl) (by kernel_rfl) (by kernel_rfl) (fun _ _ _ h => h) (Or.inl ⟨by kernel_rfl, ?h21⟩) hHeld ?r21
              case h21 => intro W hSw; (try dsimp only at hSw); obtain ⟨hA, hB⟩ := hSw; go_simp; try with_reducible rfl
              simp only [Act.put, List.setIfInBounds_toArray, List.set_cons_zero, List.set_cons_succ]
              refine wpAnyH_take (i := 6) (v := ?v22) rfl (by kernel_rfl) (by kernel_rfl) (by kernel_rfl) (fun _ _ _ h => h) (Or.inl ⟨by kernel_rfl, ?h22⟩) hHeld ?r22
              case h22 => intro W hSw; (try dsimp only at hSw); obtain ⟨hA, hB⟩ := hSw; go_simp; try with_reducible rfl
              simp only [Act.put, List.setIfInBounds_toArray, List.set_cons_zero, List.set_cons_succ]
              refine wpAnyH_take (i := 7) (v := ?v23) rfl (by kernel_rfl) (by kernel_rfl) (by kernel_rfl) (fun _ _ _ h => h) (Or.inl ⟨by kernel_rfl, ?h23⟩) hHeld ?r23
              case h23 => intro W hSw; (try dsimp only at hSw); obtain ⟨hA, hB⟩ := hSw; go_simp; try with_reducible rfl
              simp only [Act.put, List.setIfInBounds_toArray, List.set_cons_zero, List.set_cons_succ]
              refine wpAnyH_take (i := 8) (v := ?v24) rfl (by kernel_rfl) (by kernel_rfl) (by kernel_rfl) (fun _ _ _ h => h) (Or.inl ⟨by kernel_rfl, ?h24⟩) hHeld ?r24
              case h24 => intro W hSw; (try dsimp only at hSw); obtain ⟨hA, hB⟩ := hSw; go_simp; try with_reducible rfl
              simp only [Act.put, List.setIfInBounds_toArray, List.set_cons_zero, List.set_cons_succ]
              refine wpAnyH_take (i := 9) (v := ?v25) rfl (by kernel_rfl) (by kernel_rfl) (by kernel_rfl) (fun _ _ _ h => h) (Or.inl ⟨by kernel_rfl, ?h25⟩) hHeld ?r25
              case h25 => intro W hSw; (try dsimp only at hSw); obtain ⟨hA, hB⟩ := hSw; go_simp; try with_reducible rfl
              simp only [Act.put, List.setIfInBounds_toArray, List.set_cons_zero, List.set_cons_succ]
              refine wpAnyH_take (i := 10) (v := ?v26) rfl (by kernel_rfl) (by kernel_rfl) (by kernel_rfl) (fun _ _ _ h => h) (Or.inl ⟨by kernel_rfl, ?h26⟩) hHeld ?r26
              case h26 => intro W hSw; (try dsimp only at hSw); obtain ⟨hA, hB⟩ := hSw; go_simp; try with_reducible rfl
              simp only [Act.put, List.setIfInBounds_toArray, List.set_cons_zero, List.set_cons_succ]
              refine wpAnyH_take (i := 11) (v := ?v27) rfl (by kernel_rfl) (by kernel_rfl) (by kernel_rfl) (fun _ _ _ h => h) (Or.inl ⟨by kernel_rfl, ?h27⟩) hHeld ?r27
              case h27 => intro W hSw; (try dsimp only at hSw); obtain ⟨hA, hB⟩ := hSw; go_simp; try with_reducible rfl
              simp only [Act.put, List.setIfInBounds_toArray, List.set_cons_zero, List.set_cons_succ]
              refine wpAnyH_ready (rs := [12]) (by kernel_rfl) (by simp) ?_
              refine AllReadyH.cons rfl (fun K hK => ?_) AllReadyH.nil
              go_simp
              go_wp2_with (first | (go_at_call 6; refine (cp _ (rv.below (below_drewN (Below.refl _ _) 1)) (rD.below (below_drewN (Below.refl _ _) 1))).mono ?_; rintro e q3 ⟨v3, rfl, o3, b3⟩))
              refine hK.out _ _ (⟨below_cell b3 hHeld.1, below_cell b3 hHeld.2⟩) (fun hHeld => ?_)
              clear hK K
              (try simp only [Act.put, List.setIfInBounds_toArray, List.set_cons_zero, List.set_cons_succ])
              refine wpAnyH_take (i := 13) (v := ?v28) rfl (by kernel_rfl) (by kernel_rfl) (by kernel_rfl) (fun _ _ _ h => h) (Or.inl ⟨by kernel_rfl, ?h28⟩) hHeld ?r28
              case h28 => intro W hSw; (try dsimp only at hSw); obtain ⟨hA, hB⟩ := hSw; go_simp; try with_reducible rfl
              simp only [Act.put, List.setIfInBounds_toArray, List.set_cons_zero, List.set_cons_succ]
              refine wpAnyH_take (i := 14) (v := ?v29) rfl (by kernel_rfl) (by kernel_rfl) (by kernel_rfl) (fun _ _ _ h => h) (Or.inl ⟨by kernel_rfl, ?h29⟩) hHeld ?r29
              case h29 => intro W hSw; (try dsimp only at hSw); obtain ⟨hA, hB⟩ := hSw; go_simp; try with_reducible rfl
              simp only [Act.put, List.setIfInBounds_toArray, List.set_cons_zero, List.set_cons_succ]
              refine wpAnyH_take (i := 15) (v := ?v30) rfl (by kernel_rfl) (by kernel_rfl) (by kernel_rfl) (fun _ _ _ h => h) (Or.inl ⟨by kernel_rfl, ?h30⟩) hHeld ?r30
              case h30 => intro W hSw; (try dsimp only at hSw); obtain ⟨hA, hB⟩ := hSw; go_simp; try with_reducible rfl
              simp only [Act.put, List.setIfInBounds_toArray, List.set_cons_zero, List.set_cons_succ]
              refine wpAnyH_ready (rs := [16]) (by kernel_rfl) (by simp) ?_
              refine AllReadyH.cons rfl (fun K hK => ?_) AllReadyH.nil
              go_simp
              refine hK.out _ _ (hHeld) (fun hHeld => ?_)
              clear hK K
              (try simp only [Act.put, List.setIfInBounds_toArray, List.set_cons_zero, List.set_cons_succ])
              refine wpAnyH_ready (rs := [17]) (by kernel_rfl) (by simp) ?_
              refine AllReadyH.cons rfl (fun K hK => ?_) AllReadyH.nil
              go_simp
              refine hK.out _ _ (hHeld) (fun hHeld => ?_)
              clear hK K
              (try simp only [Act.put, List.setIfInBounds_toArray, List.set_cons_zero, List.set_cons_succ])
              refine wpAnyH_done (by kernel_rfl) ?_ _
              have f1 := hHeld.1
              have f2 := hHeld.2
              have b13 : Below wr.heap.size wr q3 := below_trans (below_drewN (Below.refl _ _) 1) b3
              have lt9 : g9 < wr.heap.size := (Array.getElem?_eq_some_iff.1 hs9).1
              have lt10 : g10 < wr.heap.size := (Array.getElem?_eq_some_iff.1 hs10).1
              have HQ3 := hid (fun q (hq : v3.ownBlock = some q) => (show ¬ q = g9 ∧ ¬ q = g10 by have h3 : wr.heap.size ≤ q := (World.ownsRow.lt o3 q hq).1; omega))
              have HO3 := hid o3
              clear hHeld e0 e1 e2 hwM
              obtain ⟨a3, p3, rfl⟩ := own_form o3
              clear o3
              go_upto_region 16 with fail
              go_quiet (fail)
              go_upto_region 22 with fail
              have bq : Below wr.heap.size wr (q3.drewN (nq + 1)) := below_drewN b13 (nq + 1)
              have bw := below_trans hg bq
              have gb : Below q3.heap.size q3 (q3.drewN (nq + 1)) := below_drewN (Below.refl _ _) (nq + 1)
              have e1c : (q3.drewN nq).drew.cell? ⟨bb, oo + 1, none⟩ = some (.int .i64 A) := f1
              have e2c : (q3.drewN nq).drew.cell? ⟨bb, oo + 2, none⟩ = some (.slice ca D.length cq) := f2
              obtain ⟨dp, sl, hdp⟩ := cut_own g9 1024 A (by omega) (by omega)
              have tm := hs9.below bq
              have to := hs10.below bq
              obtain ⟨w5, r5, s5, q5, z5, p5⟩ := copy_ar (P := Try.prog) (sl := 23) uB infoW1 hdp tm (rD.below bq) (by rw [hF]; omega)
              have hce : F.take A.toNat ++ D.take (1024 - A.toNat) ++ F.drop (A.toNat + (D.take (1024 - A.toNat)).length) = putW F D A := by
                rw [List.take_of_length_le (l := D) (by omega)]
                rfl
              rw [hce] at s5
              have b5 := q5 _ _ bw h9
              have y1 := below_cell b5 e1w
              have y2 := below_cell b5 e2w
              have S5 := hid s5
              have T5 : Hid (Stands w5 g10 (ArA .u8 S) 5) := by
                show w5.heap[_]? = _
                rw [p5 _ (by omega)]
                exact to
              have O5 : Hid (Own8 w.heap.size w5 (.slice a3 (wwD (putW F D A) S).length p3) (wwD (putW F D A) S)) := own8_base (own8_heap (own8_below HO3.out gb) (fun q hq => p5 q (HQ3.out q hq).1)) (below_trans hg (below_drewN (Below.refl _ _) 1)).size
              have B5 := hid b5
              clear s5 q5 z5 p5 b5 tm to bw gb hce
              refine wp_region_held_drew (S := fun W => W.cell? ⟨bb, oo + 1, none⟩ = some (.int .i64 A) ∧ W.cell? ⟨bb, oo + 2, none⟩ = some (.slice ca D.length cq)) (by kernel_rfl) (⟨e1c, e2c⟩) (fun hHeld => ?_)
              refine wpAnyH_take (i := 0) (v := ?v61) rfl (by kernel_rfl) (by kernel_rfl) (by kernel_rfl) (fun _ _ _ h => h) (Or.inl ⟨by kernel_rfl, ?h61⟩) hHeld ?r61
              case h61 => intro W hSw; (try dsimp only at hSw); obtain ⟨hA, hB⟩ := hSw; go_simp; try with_reducible rfl
              simp only [Act.put, List.setIfInBounds_toArray, List.set_cons_zero, List.set_cons_succ]
              refine wpAnyH_take (i := 1) (v := ?v62) rfl (by kernel_rfl) (by kernel_rfl) (by kernel_rfl) (fun _ _ _ h => h) (Or.inl ⟨by kernel_rfl, ?h62⟩) hHeld ?r62
              case h62 => intro W hSw; (try dsimp only at hSw); obtain ⟨hA, hB⟩ := hSw; go_simp; try with_reducible rfl
              simp only [Act.put, List.setIfInBounds_toArray, List.set_cons_zero, List.set_cons_succ]
              refine wpAnyH_take (i := 2) (v := ?v63) rfl (by kernel_rfl) (by kernel_rfl) (by kernel_rfl) (fun _ _ _ h => h) (Or.inl ⟨by kernel_rfl, ?h63⟩) hHeld ?r63
              case h63 => intro W hSw; (try dsimp only at hSw); obtain ⟨hA, hB⟩ := hSw; go_simp; try with_reducible rfl
              simp only [Act.put, List.setIfInBounds_toArray, List.set_cons_zero, List.set_cons_succ]
              refine wpAnyH_take (i := 3) (v := ?v64) rfl (by kernel_rfl) (by kernel_rfl) (by kernel_rfl) (fun _ _ _ h => h) (Or.inl ⟨by kernel_rfl, ?h64⟩) hHeld ?r64
              case h64 => intro W hSw; (try dsimp only at hSw); obtain ⟨hA, hB⟩ := hSw; go_simp; try with_reducible rfl
              simp only [Act.put, List.setIfInBounds_toArray, List.set_cons_zero, List.set_cons_succ]
              refine wpAnyH_take (i := 4) (v := ?v65) rfl (by kernel_rfl) (by kernel_rfl) (by kernel_rfl) (fun _ _ _ h => h) (Or.inl ⟨by kernel_rfl, ?h65⟩) hHeld ?r65
              case h65 => intro W hSw; (try dsimp only at hSw); obtain ⟨hA, hB⟩ := hSw; go_simp; try with_reducible rfl
              simp only [Act.put, List.setIfInBounds_toArray, List.set_cons_zero, List.set_cons_succ]
              refine wpAnyH_take (i := 5) (v := ?v66) rfl (by kernel_rfl) (by kernel_rfl) (by kernel_rfl) (fun _ _ _ h => h) (Or.inl ⟨by kernel_rfl, ?h66⟩) hHeld ?r66
              case h66 => intro W hSw; (try dsimp only at hSw); obtain ⟨hA, hB⟩ := hSw; go_simp; try with_reducible rfl
              simp only [Act.put, List.setIfInBounds_toArray, List.set_cons_zero, List.set_cons_succ]
              refine wpAnyH_take (i := 6) (v := ?v67) rfl (by kernel_rfl) (by kernel_rfl) (by kernel_rfl) (fun _ _ _ h => h) (Or.inl ⟨by kernel_rfl, ?h67⟩) hHeld ?r67
              case h67 => intro W hSw; (try dsimp only at hSw); obtain ⟨hA, hB⟩ := hSw; go_simp; try with_reducible rfl
              simp only [Act.put, List.setIfInBounds_toArray, List.set_cons_zero, List.set_cons_succ]
              refine wpAnyH_take (i := 7) (v := ?v68) rfl (by kernel_rfl) (by kernel_rfl) (by kernel_rfl) (fun _ _ _ h => h) (Or.inl ⟨by kernel_rfl, ?h68⟩) hHeld ?r68
              case h68 => intro W hSw; (try dsimp only at hSw); obtain ⟨hA, hB⟩ := hSw; go_simp; try with_reducible rfl
              simp only [Act.put, List.setIfInBounds_toArray, List.set_cons_zero, List.set_cons_succ]
              refine wpAnyH_take (i := 8) (v := ?v69) rfl (by kernel_rfl) (by kernel_rfl) (by kernel_rfl) (fun _ _ _ h => h) (Or.inl ⟨by kernel_rfl, ?h69⟩) hHeld ?r69
              case h69 => intro W hSw; (try dsimp only at hSw); obtain ⟨hA, hB⟩ := hSw; go_simp; try with_reducible rfl
              simp only [Act.put, List.setIfInBounds_toArray, List.set_cons_zero, List.set_cons_succ]
              refine wpAnyH_take (i := 9) (v := ?v70) rfl (by kernel_rfl) (by kernel_rfl) (by kernel_rfl) (fun _ _ _ h => h) (Or.inl ⟨by kernel_rfl, ?h70⟩) hHeld ?r70
              case h70 => intro W hSw; (try dsimp only at hSw); obtain ⟨hA, hB⟩ := hSw; go_simp; try with_reducible rfl
              simp only [Act.put, List.setIfInBounds_toArray, List.set_cons_zero, List.set_cons_succ]
              refine wpAnyH_take (i := 10) (v := ?v71) rfl (by kernel_rfl) (by kernel_rfl) (by kernel_rfl) (fun _ _ _ h => h) (Or.inl ⟨by kernel_rfl, ?h71⟩) hHeld ?r71
              case h71 => intro W hSw; (try dsimp only at hSw); obtain ⟨hA, hB⟩ := hSw; go_simp; try with_reducible rfl
              simp only [Act.put, List.setIfInBounds_toArray, List.set_cons_zero, List.set_cons_succ]
              refine wpAnyH_take (i := 11) (v := ?v72) rfl (by kernel_rfl) (by kernel_rfl) (by kernel_rfl) (fun _ _ _ h => h) (Or.inl ⟨by kernel_rfl, ?h72⟩) hHeld ?r72
              case h72 => intro W hSw; (try dsimp only at hSw); obtain ⟨hA, hB⟩ := hSw; go_simp; try with_reducible rfl
              simp only [Act.put, List.setIfInBounds_toArray, List.set_cons_zero, List.set_cons_succ]
              refine wpAnyH_ready (rs := [12]) (by kernel_rfl) (by simp) ?_
              refine AllReadyH.cons rfl (fun K hK => ?_) AllReadyH.nil
              go_simp
              refine hK.out _ _ (⟨y1, y2⟩) (fun hHeld => ?_)
              clear hK K
              (try simp only [Act.put, List.setIfInBounds_toArray, List.set_cons_zero, List.set_cons_succ])
              refine wpAnyH_done (by kernel_rfl) ?_ _
              go_wp2_with fail
              go_roundw
              case rel => exact ⟨k + 1, (putW F D A), S, by omega, by go_num, by assumption, by assumption, hid ⟨by assumption, by assumption⟩, O5.out, HQ3.out, S5.out, T5.out, B5.out⟩
              case measure => simp [intOf]; omega
          · have cp := fun W r rb => w_plput21 (.slice da (wwD F S).length dq) (.slice ca D.length cq) (wwD F S) D ⟨#[98]⟩ A W r rb hDb (by omega) (by decide) gA.1 gA.2
            simp only [show LB ⟨#[98]⟩ = [98] from rfl] at cp
            clear hDl
            have hwM : A < 0 ∨ 512 < A ∨ IntKind.i64.wrap (512 - A) = 512 - A := by
              by_cases q0 : A < 0
              · exact Or.inl q0
              · by_cases q1 : 512 < A
                · exact Or.inr (Or.inl q1)
                · exact Or.inr (Or.inr (by rw [IntKind.wrap_i64]; omega))
            by_cases hbad : A < 0 ∨ 512 < A ∨ 512 - A < (D.length : Int)
            · rw [ww_no (ww_b hF hS) hbad] at cp
              simp only at cp
              go_upto_region 15 with fail
              refine wp_region_held_drew (S := fun W => W.cell? ⟨bb, oo + 1, none⟩ = some (.int .i64 A) ∧ W.cell? ⟨bb, oo + 2, none⟩ = some (.slice ca D.length cq)) (by kernel_rfl) (⟨e1, e2⟩) (fun hHeld => ?_)
              refine wpAnyH_take (i := 0) (v := ?v31) rfl (by kernel_rfl) (by kernel_rfl) (by kernel_rfl) (fun _ _ _ h => h) (Or.inl ⟨by kernel_rfl, ?h31⟩) hHeld ?r31
              case h31 => intro W hSw; (try dsimp only at hSw); obtain ⟨hA, hB⟩ := hSw; go_simp; try with_reducible rfl
              simp only [Act.put, List.setIfInBounds_toArray, List.set_cons_zero, List.set_cons_succ]
              refine wpAnyH_take (i := 1) (v := ?v32) rfl (by kernel_rfl) (by kernel_rfl) (by kernel_rfl) (fun _ _ _ h => h) (Or.inl ⟨by kernel_rfl, ?h32⟩) hHeld ?r32
              case h32 => intro W hSw; (try dsimp only at hSw); obtain ⟨hA, hB⟩ := hSw; go_simp; try with_reducible rfl
              simp only [Act.put, List.setIfInBounds_toArray, List.set_cons_zero, List.set_cons_succ]
              refine wpAnyH_take (i := 2) (v := ?v33) rfl (by kernel_rfl) (by kernel_rfl) (by kernel_rfl) (fun _ _ _ h => h) (Or.inl ⟨by kernel_rfl, ?h33⟩) hHeld ?r33
              case h33 => intro W hSw; (try dsimp only at hSw); obtain ⟨hA, hB⟩ := hSw; go_simp; try with_reducible rfl
              simp only [Act.put, List.setIfInBounds_toArray, List.set_cons_zero, List.set_cons_succ]
              refine wpAnyH_take (i := 3) (v := ?v34) rfl (by kernel_rfl) (by kernel_rfl) (by kernel_rfl) (fun _ _ _ h => h) (Or.inl ⟨by kernel_rfl, ?h34⟩) hHeld ?r34
              case h34 => intro W hSw; (try dsimp only at hSw); obtain ⟨hA, hB⟩ := hSw; go_simp; try with_reducible rfl
              simp only [Act.put, List.setIfInBounds_toArray, List.set_cons_zero, List.set_cons_succ]
              refine wpAnyH_take (i := 4) (v := ?v35) rfl (by kernel_rfl) (by kernel_rfl) (by kernel_rfl) (fun _ _ _ h => h) (Or.inl ⟨by kernel_rfl, ?h35⟩) hHeld ?r35
              case h35 => intro W hSw; (try dsimp only at hSw); obtain ⟨hA, hB⟩ := hSw; go_simp; try with_reducible rfl
              simp only [Act.put, List.setIfInBounds_toArray, List.set_cons_zero, List.set_cons_succ]
              refine wpAnyH_take (i := 5) (v := ?v36) rfl (by kernel_rfl) (by kernel_rfl) (by kernel_rfl) (fun _ _ _ h => h) (Or.inl ⟨by kernel_rfl, ?h36⟩) hHeld ?r36
              case h36 => intro W hSw; (try dsimp only at hSw); obtain ⟨hA, hB⟩ := hSw; go_simp; try with_reducible rfl
              simp only [Act.put, List.setIfInBounds_toArray, List.set_cons_zero, List.set_cons_succ]
              refine wpAnyH_take (i := 6) (v := ?v37) rfl (by kernel_rfl) (by kernel_rfl) (by kernel_rfl) (fun _ _ _ h => h) (Or.inl ⟨by kernel_rfl, ?h37⟩) hHeld ?r37
              case h37 => intro W hSw; (try dsimp only at hSw); obtain ⟨hA, hB⟩ := hSw; go_simp; try with_reducible rfl
              simp only [Act.put, List.setIfInBounds_toArray, List.set_cons_zero, List.set_cons_succ]
              refine wpAnyH_take (i := 7) (v := ?v38) rfl (by kernel_rfl) (by kernel_rfl) (by kernel_rfl) (fun _ _ _ h => h) (Or.inl ⟨by kernel_rfl, ?h38⟩) hHeld ?r38
              case h38 => intro W hSw; (try dsimp only at hSw); obtain ⟨hA, hB⟩ := hSw; go_simp; try with_reducible rfl
              simp only [Act.put, List.setIfInBounds_toArray, List.set_cons_zero, List.set_cons_succ]
              refine wpAnyH_take (i := 8) (v := ?v39) rfl (by kernel_rfl) (by kernel_rfl) (by kernel_rfl) (fun _ _ _ h => h) (Or.inl ⟨by kernel_rfl, ?h39⟩) hHeld ?r39
              case h39 => intro W hSw; (try dsimp only at hSw); obtain ⟨hA, hB⟩ := hSw; go_simp; try with_reducible rfl
              simp only [Act.put, List.setIfInBounds_toArray, List.set_cons_zero, List.set_cons_succ]
              refine wpAnyH_take (i := 9) (v := ?v40) rfl (by kernel_rfl) (by kernel_rfl) (by kernel_rfl) (fun _ _ _ h => h) (Or.inl ⟨by kernel_rfl, ?h40⟩) hHeld ?r40
              case h40 => intro W hSw; (try dsimp only at hSw); obtain ⟨hA, hB⟩ := hSw; go_simp; try with_reducible rfl
              simp only [Act.put, List.setIfInBounds_toArray, List.set_cons_zero, List.set_cons_succ]
              refine wpAnyH_take (i := 10) (v := ?v41) rfl (by kernel_rfl) (by kernel_rfl) (by kernel_rfl) (fun _ _ _ h => h) (Or.inl ⟨by kernel_rfl, ?h41⟩) hHeld ?r41
              case h41 => intro W hSw; (try dsimp only at hSw); obtain ⟨hA, hB⟩ := hSw; go_simp; try with_reducible rfl
              simp only [Act.put, List.setIfInBounds_toArray, List.set_cons_zero, List.set_cons_succ]
              refine wpAnyH_take (i := 11) (v := ?v42) rfl (by kernel_rfl) (by kernel_rfl) (by kernel_rfl) (fun _ _ _ h => h) (Or.inl ⟨by kernel_rfl, ?h42⟩) hHeld ?r42
              case h42 => intro W hSw; (try dsimp only at hSw); obtain ⟨hA, hB⟩ := hSw; go_simp; try with_reducible rfl
              simp only [Act.put, List.setIfInBounds_toArray, List.set_cons_zero, List.set_cons_succ]
              refine wpAnyH_ready (rs := [12]) (by kernel_rfl) (by simp) ?_
              refine AllReadyH.cons rfl (fun K hK => ?_) AllReadyH.nil
              go_simp
              go_wp2_with (first | (go_at_call 6; refine (cp _ (rv.below (below_drewN (Below.refl _ _) 1)) (rD.below (below_drewN (Below.refl _ _) 1))).mono ?_; rintro e q3 ⟨v3, rfl, o3, b3⟩))
              refine hK.out _ _ (⟨below_cell b3 hHeld.1, below_cell b3 hHeld.2⟩) (fun hHeld => ?_)
              clear hK K
              (try simp only [Act.put, List.setIfInBounds_toArray, List.set_cons_zero, List.set_cons_succ])
              refine wpAnyH_take (i := 13) (v := ?v43) rfl (by kernel_rfl) (by kernel_rfl) (by kernel_rfl) (fun _ _ _ h => h) (Or.inl ⟨by kernel_rfl, ?h43⟩) hHeld ?r43
              case h43 => intro W hSw; (try dsimp only at hSw); obtain ⟨hA, hB⟩ := hSw; go_simp; try with_reducible rfl
              simp only [Act.put, List.setIfInBounds_toArray, List.set_cons_zero, List.set_cons_succ]
              refine wpAnyH_take (i := 14) (v := ?v44) rfl (by kernel_rfl) (by kernel_rfl) (by kernel_rfl) (fun _ _ _ h => h) (Or.inl ⟨by kernel_rfl, ?h44⟩) hHeld ?r44
              case h44 => intro W hSw; (try dsimp only at hSw); obtain ⟨hA, hB⟩ := hSw; go_simp; try with_reducible rfl
              simp only [Act.put, List.setIfInBounds_toArray, List.set_cons_zero, List.set_cons_succ]
              refine wpAnyH_take (i := 15) (v := ?v45) rfl (by kernel_rfl) (by kernel_rfl) (by kernel_rfl) (fun _ _ _ h => h) (Or.inl ⟨by kernel_rfl, ?h45⟩) hHeld ?r45
              case h45 => intro W hSw; (try dsimp only at hSw); obtain ⟨hA, hB⟩ := hSw; go_simp; try with_reducible rfl
              simp only [Act.put, List.setIfInBounds_toArray, List.set_cons_zero, List.set_cons_succ]
              refine wpAnyH_ready (rs := [16]) (by kernel_rfl) (by simp) ?_
              refine AllReadyH.cons rfl (fun K hK => ?_) AllReadyH.nil
              go_simp
              refine hK.out _ _ (hHeld) (fun hHeld => ?_)
              clear hK K
              (try simp only [Act.put, List.setIfInBounds_toArray, List.set_cons_zero, List.set_cons_succ])
              refine wpAnyH_ready (rs := [17]) (by kernel_rfl) (by simp) ?_
              refine AllReadyH.cons rfl (fun K hK => ?_) AllReadyH.nil
              go_simp
              refine hK.out _ _ (hHeld) (fun hHeld => ?_)
              clear hK K
              (try simp only [Act.put, List.setIfInBounds_toArray, List.set_cons_zero, List.set_cons_succ])
              refine wpAnyH_done (by kernel_rfl) ?_ _
              have f1 := hHeld.1
              have f2 := hHeld.2
              have b13 : Below wr.heap.size wr q3 := below_trans (below_drewN (Below.refl _ _) 1) b3
              have HK := hid (fun n => (⟨own8_below hO (below_drewN b13 n), hs9.below (below_drewN b13 n), hs10.below (below_drewN b13 n), below_trans hg (below_drewN b13 n)⟩ : Own8 w.heap.size (q3.drewN n) (.slice da (wwD F S).length dq) (wwD F S) ∧ Stands (q3.drewN n) g9 (ArA .u8 F) 5 ∧ Stands (q3.drewN n) g10 (ArA .u8 S) 5 ∧ Below w.heap.size w (q3.drewN n)))
              clear hHeld o3 b3 e0 e1 e2
              by_cases hA0 : A < 0
              · have d0 : decide (A < 0) = true := decide_eq_true hA0
                clear hwM hbad
                go_upto_region 16 with fail
                go_quiet (fail)
                go_wp2_with fail
                go_roundw
                case rel => exact ⟨k + 1, F, S, by omega, by go_num, hF, hS, hFS, (HK.out _).1, hQ, (HK.out _).2.1, (HK.out _).2.2.1, (HK.out _).2.2.2⟩
                case measure => simp [intOf]; omega
              · have d0 : decide (A < 0) = false := decide_eq_false hA0
                by_cases hA1 : 512 < A
                · have d1 : decide (512 < A) = true := decide_eq_true hA1
                  clear hwM hbad
                  go_upto_region 16 with fail
                  go_quiet (fail)
                  go_wp2_with fail
                  go_roundw
                  case rel => exact ⟨k + 1, F, S, by omega, by go_num, hF, hS, hFS, (HK.out _).1, hQ, (HK.out _).2.1, (HK.out _).2.2.1, (HK.out _).2.2.2⟩
                  case measure => simp [intOf]; omega
                · have d1 : decide (512 < A) = false := decide_eq_false hA1
                  have hA2 : 512 - A < (D.length : Int) := by omega
                  have d2 : decide (512 - A < (D.length : Int)) = true := decide_eq_true hA2
                  have hwq : IntKind.i64.wrap (512 - A) = 512 - A := by omega
                  clear hwM hbad
                  go_upto_region 16 with fail
                  go_quiet (fail)
                  go_wp2_with fail
                  go_roundw
                  case rel => exact ⟨k + 1, F, S, by omega, by go_num, hF, hS, hFS, (HK.out _).1, hQ, (HK.out _).2.1, (HK.out _).2.2.1, (HK.out _).2.2.2⟩
                  case measure => simp [intOf]; omega
            · rw [ww_putb hF hS hbad] at cp
              simp only at cp
              have d0 : decide (A < 0) = false := decide_eq_false (by omega)
              have d1 : decide (512 < A) = false := decide_eq_false (by omega)
              have d2 : decide (512 - A < (D.length : Int)) = false := decide_eq_false (by omega)
              have hwq : IntKind.i64.wrap (512 - A) = 512 - A := by omega
              have hn2 : ¬ 512 - A < (D.length : Int) := by omega
              have hXl : (putW S D A).length = 512 := by rw [putW_len (by omega) (by omega)]; assumption
              have hXb : bytesL (putW S D A) := putW_bytes (by assumption) gDb
              go_upto_region 15 with fail
              refine wp_region_held_drew (S := fun W => W.cell? ⟨bb, oo + 1, none⟩ = some (.int .i64 A) ∧ W.cell? ⟨bb, oo + 2, none⟩ = some (.slice ca D.length cq)) (by kernel_rfl) (⟨e1, e2⟩) (fun hHeld => ?_)
              refine wpAnyH_take (i := 0) (v := ?v46) rfl (by kernel_rfl) (by kernel_rfl) (by kernel_rfl) (fun _ _ _ h => h) (Or.inl ⟨by kernel_rfl, ?h46⟩) hHeld ?r46
              case h46 => intro W hSw; (try dsimp only at hSw); obtain ⟨hA, hB⟩ := hSw; go_simp; try with_reducible rfl
              simp only [Act.put, List.setIfInBounds_toArray, List.set_cons_zero, List.set_cons_succ]
              refine wpAnyH_take (i := 1) (v := ?v47) rfl (by kernel_rfl) (by kernel_rfl) (by kernel_rfl) (fun _ _ _ h => h) (Or.inl ⟨by kernel_rfl, ?h47⟩) hHeld ?r47
              case h47 => intro W hSw; (try dsimp only at hSw); obtain ⟨hA, hB⟩ := hSw; go_simp; try with_reducible rfl
              simp only [Act.put, List.setIfInBounds_toArray, List.set_cons_zero, List.set_cons_succ]
              refine wpAnyH_take (i := 2) (v := ?v48) rfl (by kernel_rfl) (by kernel_rfl) (by kernel_rfl) (fun _ _ _ h => h) (Or.inl ⟨by kernel_rfl, ?h48⟩) hHeld ?r48
              case h48 => intro W hSw; (try dsimp only at hSw); obtain ⟨hA, hB⟩ := hSw; go_simp; try with_reducible rfl
              simp only [Act.put, List.setIfInBounds_toArray, List.set_cons_zero, List.set_cons_succ]
              refine wpAnyH_take (i := 3) (v := ?v49) rfl (by kernel_rfl) (by kernel_rfl) (by kernel_rfl) (fun _ _ _ h => h) (Or.inl ⟨by kernel_rfl, ?h49⟩) hHeld ?r49
              case h49 => intro W hSw; (try dsimp only at hSw); obtain ⟨hA, hB⟩ := hSw; go_simp; try with_reducible rfl
              simp only [Act.put, List.setIfInBounds_toArray, List.set_cons_zero, List.set_cons_succ]
              refine wpAnyH_take (i := 4) (v := ?v50) rfl (by kernel_rfl) (by kernel_rfl) (by kernel_rfl) (fun _ _ _ h => h) (Or.inl ⟨by kernel_rfl, ?h50⟩) hHeld ?r50
              case h50 => intro W hSw; (try dsimp only at hSw); obtain ⟨hA, hB⟩ := hSw; go_simp; try with_reducible rfl
              simp only [Act.put, List.setIfInBounds_toArray, List.set_cons_zero, List.set_cons_succ]
              refine wpAnyH_take (i := 5) (v := ?v51) rfl (by kernel_rfl) (by kernel_rfl) (by kernel_rfl) (fun _ _ _ h => h) (Or.inl ⟨by kernel_rfl, ?h51⟩) hHeld ?r51
              case h51 => intro W hSw; (try dsimp only at hSw); obtain ⟨hA, hB⟩ := hSw; go_simp; try with_reducible rfl
              simp only [Act.put, List.setIfInBounds_toArray, List.set_cons_zero, List.set_cons_succ]
              refine wpAnyH_take (i := 6) (v := ?v52) rfl (by kernel_rfl) (by kernel_rfl) (by kernel_rfl) (fun _ _ _ h => h) (Or.inl ⟨by kernel_rfl, ?h52⟩) hHeld ?r52
              case h52 => intro W hSw; (try dsimp only at hSw); obtain ⟨hA, hB⟩ := hSw; go_simp; try with_reducible rfl
              simp only [Act.put, List.setIfInBounds_toArray, List.set_cons_zero, List.set_cons_succ]
              refine wpAnyH_take (i := 7) (v := ?v53) rfl (by kernel_rfl) (by kernel_rfl) (by kernel_rfl) (fun _ _ _ h => h) (Or.inl ⟨by kernel_rfl, ?h53⟩) hHeld ?r53
              case h53 => intro W hSw; (try dsimp only at hSw); obtain ⟨hA, hB⟩ := hSw; go_simp; try with_reducible rfl
              simp only [Act.put, List.setIfInBounds_toArray, List.set_cons_zero, List.set_cons_succ]
              refine wpAnyH_take (i := 8) (v := ?v54) rfl (by kernel_rfl) (by kernel_rfl) (by kernel_rfl) (fun _ _ _ h => h) (Or.inl ⟨by kernel_rfl, ?h54⟩) hHeld ?r54
              case h54 => intro W hSw; (try dsimp only at hSw); obtain ⟨hA, hB⟩ := hSw; go_simp; try with_reducible rfl
              simp only [Act.put, List.setIfInBounds_toArray, List.set_cons_zero, List.set_cons_succ]
              refine wpAnyH_take (i := 9) (v := ?v55) rfl (by kernel_rfl) (by kernel_rfl) (by kernel_rfl) (fun _ _ _ h => h) (Or.inl ⟨by kernel_rfl, ?h55⟩) hHeld ?r55
              case h55 => intro W hSw; (try dsimp only at hSw); obtain ⟨hA, hB⟩ := hSw; go_simp; try with_reducible rfl
              simp only [Act.put, List.setIfInBounds_toArray, List.set_cons_zero, List.set_cons_succ]
              refine wpAnyH_take (i := 10) (v := ?v56) rfl (by kernel_rfl) (by kernel_rfl) (by kernel_rfl) (fun _ _ _ h => h) (Or.inl ⟨by kernel_rfl, ?h56⟩) hHeld ?r56
              case h56 => intro W hSw; (try dsimp only at hSw); obtain ⟨hA, hB⟩ := hSw; go_simp; try with_reducible rfl
              simp only [Act.put, List.setIfInBounds_toArray, List.set_cons_zero, List.set_cons_succ]
              refine wpAnyH_take (i := 11) (v := ?v57) rfl (by kernel_rfl) (by kernel_rfl) (by kernel_rfl) (fun _ _ _ h => h) (Or.inl ⟨by kernel_rfl, ?h57⟩) hHeld ?r57
              case h57 => intro W hSw; (try dsimp only at hSw); obtain ⟨hA, hB⟩ := hSw; go_simp; try with_reducible rfl
              simp only [Act.put, List.setIfInBounds_toArray, List.set_cons_zero, List.set_cons_succ]
              refine wpAnyH_ready (rs := [12]) (by kernel_rfl) (by simp) ?_
              refine AllReadyH.cons rfl (fun K hK => ?_) AllReadyH.nil
              go_simp
              go_wp2_with (first | (go_at_call 6; refine (cp _ (rv.below (below_drewN (Below.refl _ _) 1)) (rD.below (below_drewN (Below.refl _ _) 1))).mono ?_; rintro e q3 ⟨v3, rfl, o3, b3⟩))
              refine hK.out _ _ (⟨below_cell b3 hHeld.1, below_cell b3 hHeld.2⟩) (fun hHeld => ?_)
              clear hK K
              (try simp only [Act.put, List.setIfInBounds_toArray, List.set_cons_zero, List.set_cons_succ])
              refine wpAnyH_take (i := 13) (v := ?v58) rfl (by kernel_rfl) (by kernel_rfl) (by kernel_rfl) (fun _ _ _ h => h) (Or.inl ⟨by kernel_rfl, ?h58⟩) hHeld ?r58
              case h58 => intro W hSw; (try dsimp only at hSw); obtain ⟨hA, hB⟩ := hSw; go_simp; try with_reducible rfl
              simp only [Act.put, List.setIfInBounds_toArray, List.set_cons_zero, List.set_cons_succ]
              refine wpAnyH_take (i := 14) (v := ?v59) rfl (by kernel_rfl) (by kernel_rfl) (by kernel_rfl) (fun _ _ _ h => h) (Or.inl ⟨by kernel_rfl, ?h59⟩) hHeld ?r59
              case h59 => intro W hSw; (try dsimp only at hSw); obtain ⟨hA, hB⟩ := hSw; go_simp; try with_reducible rfl
              simp only [Act.put, List.setIfInBounds_toArray, List.set_cons_zero, List.set_cons_succ]
              refine wpAnyH_take (i := 15) (v := ?v60) rfl (by kernel_rfl) (by kernel_rfl) (by kernel_rfl) (fun _ _ _ h => h) (Or.inl ⟨by kernel_rfl, ?h60⟩) hHeld ?r60
              case h60 => intro W hSw; (try dsimp only at hSw); obtain ⟨hA, hB⟩ := hSw; go_simp; try with_reducible rfl
              simp only [Act.put, List.setIfInBounds_toArray, List.set_cons_zero, List.set_cons_succ]
              refine wpAnyH_ready (rs := [16]) (by kernel_rfl) (by simp) ?_
              refine AllReadyH.cons rfl (fun K hK => ?_) AllReadyH.nil
              go_simp
              refine hK.out _ _ (hHeld) (fun hHeld => ?_)
              clear hK K
              (try simp only [Act.put, List.setIfInBounds_toArray, List.set_cons_zero, List.set_cons_succ])
              refine wpAnyH_ready (rs := [17]) (by kernel_rfl) (by simp) ?_
              refine AllReadyH.cons rfl (fun K hK => ?_) AllReadyH.nil
              go_simp
              refine hK.out _ _ (hHeld) (fun hHeld => ?_)
              clear hK K
              (try simp only [Act.put, List.setIfInBounds_toArray, List.set_cons_zero, List.set_cons_succ])
              refine wpAnyH_done (by kernel_rfl) ?_ _
              have f1 := hHeld.1
              have f2 := hHeld.2
              have b13 : Below wr.heap.size wr q3 := below_trans (below_drewN (Below.refl _ _) 1) b3
              have lt9 : g9 < wr.heap.size := (Array.getElem?_eq_some_iff.1 hs9).1
              have lt10 : g10 < wr.heap.size := (Array.getElem?_eq_some_iff.1 hs10).1
              have HQ3 := hid (fun q (hq : v3.ownBlock = some q) => (show ¬ q = g9 ∧ ¬ q = g10 by have h3 : wr.heap.size ≤ q := (World.ownsRow.lt o3 q hq).1; omega))
              have HO3 := hid o3
              clear hHeld e0 e1 e2 hwM
              obtain ⟨a3, p3, rfl⟩ := own_form o3
              clear o3
              go_upto_region 16 with fail
              go_quiet (fail)
              go_upto_region 22 with fail
              have bq : Below wr.heap.size wr (q3.drewN (nq + 1)) := below_drewN b13 (nq + 1)
              have bw := below_trans hg bq
              have gb : Below q3.heap.size q3 (q3.drewN (nq + 1)) := below_drewN (Below.refl _ _) (nq + 1)
              have e1c : (q3.drewN nq).drew.cell? ⟨bb, oo + 1, none⟩ = some (.int .i64 A) := f1
              have e2c : (q3.drewN nq).drew.cell? ⟨bb, oo + 2, none⟩ = some (.slice ca D.length cq) := f2
              obtain ⟨dp, sl, hdp⟩ := cut_own g10 512 A (by omega) (by omega)
              have tm := hs10.below bq
              have to := hs9.below bq
              obtain ⟨w5, r5, s5, q5, z5, p5⟩ := copy_ar (P := Try.prog) (sl := 23) uB infoW1 hdp tm (rD.below bq) (by rw [hS]; omega)
              have hce : S.take A.toNat ++ D.take (512 - A.toNat) ++ S.drop (A.toNat + (D.take (512 - A.toNat)).length) = putW S D A := by
                rw [List.take_of_length_le (l := D) (by omega)]
                rfl
              rw [hce] at s5
              have b5 := q5 _ _ bw h10
              have y1 := below_cell b5 e1w
              have y2 := below_cell b5 e2w
              have S5 := hid s5
              have T5 : Hid (Stands w5 g9 (ArA .u8 F) 5) := by
                show w5.heap[_]? = _
                rw [p5 _ (by omega)]
                exact to
              have O5 : Hid (Own8 w.heap.size w5 (.slice a3 (wwD F (putW S D A)).length p3) (wwD F (putW S D A))) := own8_base (own8_heap (own8_below HO3.out gb) (fun q hq => p5 q (HQ3.out q hq).2)) (below_trans hg (below_drewN (Below.refl _ _) 1)).size
              have B5 := hid b5
              clear s5 q5 z5 p5 b5 tm to bw gb hce
              refine wp_region_held_drew (S := fun W => W.cell? ⟨bb, oo + 1, none⟩ = some (.int .i64 A) ∧ W.cell? ⟨bb, oo + 2, none⟩ = some (.slice ca D.length cq)) (by kernel_rfl) (⟨e1c, e2c⟩) (fun hHeld => ?_)
              refine wpAnyH_take (i := 0) (v := ?v73) rfl (by kernel_rfl) (by kernel_rfl) (by kernel_rfl) (fun _ _ _ h => h) (Or.inl ⟨by kernel_rfl, ?h73⟩) hHeld ?r73
              case h73 => intro W hSw; (try dsimp only at hSw); obtain ⟨hA, hB⟩ := hSw; go_simp; try with_reducible rfl
              simp only [Act.put, List.setIfInBounds_toArray, List.set_cons_zero, List.set_cons_succ]
              refine wpAnyH_take (i := 1) (v := ?v74) rfl (by kernel_rfl) (by kernel_rfl) (by kernel_rfl) (fun _ _ _ h => h) (Or.inl ⟨by kernel_rfl, ?h74⟩) hHeld ?r74
              case h74 => intro W hSw; (try dsimp only at hSw); obtain ⟨hA, hB⟩ := hSw; go_simp; try with_reducible rfl
              simp only [Act.put, List.setIfInBounds_toArray, List.set_cons_zero, List.set_cons_succ]
              refine wpAnyH_take (i := 2) (v := ?v75) rfl (by kernel_rfl) (by kernel_rfl) (by kernel_rfl) (fun _ _ _ h => h) (Or.inl ⟨by kernel_rfl, ?h75⟩) hHeld ?r75
              case h75 => intro W hSw; (try dsimp only at hSw); obtain ⟨hA, hB⟩ := hSw; go_simp; try with_reducible rfl
              simp only [Act.put, List.setIfInBounds_toArray, List.set_cons_zero, List.set_cons_succ]
              refine wpAnyH_take (i := 3) (v := ?v76) rfl (by kernel_rfl) (by kernel_rfl) (by kernel_rfl) (fun _ _ _ h => h) (Or.inl ⟨by kernel_rfl, ?h76⟩) hHeld ?r76
              case h76 => intro W hSw; (try dsimp only at hSw); obtain ⟨hA, hB⟩ := hSw; go_simp; try with_reducible rfl
              simp only [Act.put, List.setIfInBounds_toArray, List.set_cons_zero, List.set_cons_succ]
              refine wpAnyH_take (i := 4) (v := ?v77) rfl (by kernel_rfl) (by kernel_rfl) (by kernel_rfl) (fun _ _ _ h => h) (Or.inl ⟨by kernel_rfl, ?h77⟩) hHeld ?r77
              case h77 => intro W hSw; (try dsimp only at hSw); obtain ⟨hA, hB⟩ := hSw; go_simp; try with_reducible rfl
              simp only [Act.put, List.setIfInBounds_toArray, List.set_cons_zero, List.set_cons_succ]
              refine wpAnyH_take (i := 5) (v := ?v78) rfl (by kernel_rfl) (by kernel_rfl) (by kernel_rfl) (fun _ _ _ h => h) (Or.inl ⟨by kernel_rfl, ?h78⟩) hHeld ?r78
              case h78 => intro W hSw; (try dsimp only at hSw); obtain ⟨hA, hB⟩ := hSw; go_simp; try with_reducible rfl
              simp only [Act.put, List.setIfInBounds_toArray, List.set_cons_zero, List.set_cons_succ]
              refine wpAnyH_take (i := 6) (v := ?v79) rfl (by kernel_rfl) (by kernel_rfl) (by kernel_rfl) (fun _ _ _ h => h) (Or.inl ⟨by kernel_rfl, ?h79⟩) hHeld ?r79
              case h79 => intro W hSw; (try dsimp only at hSw); obtain ⟨hA, hB⟩ := hSw; go_simp; try with_reducible rfl
              simp only [Act.put, List.setIfInBounds_toArray, List.set_cons_zero, List.set_cons_succ]
              refine wpAnyH_take (i := 7) (v := ?v80) rfl (by kernel_rfl) (by kernel_rfl) (by kernel_rfl) (fun _ _ _ h => h) (Or.inl ⟨by kernel_rfl, ?h80⟩) hHeld ?r80
              case h80 => intro W hSw; (try dsimp only at hSw); obtain ⟨hA, hB⟩ := hSw; go_simp; try with_reducible rfl
              simp only [Act.put, List.setIfInBounds_toArray, List.set_cons_zero, List.set_cons_succ]
              refine wpAnyH_take (i := 8) (v := ?v81) rfl (by kernel_rfl) (by kernel_rfl) (by kernel_rfl) (fun _ _ _ h => h) (Or.inl ⟨by kernel_rfl, ?h81⟩) hHeld ?r81
              case h81 => intro W hSw; (try dsimp only at hSw); obtain ⟨hA, hB⟩ := hSw; go_simp; try with_reducible rfl
              simp only [Act.put, List.setIfInBounds_toArray, List.set_cons_zero, List.set_cons_succ]
              refine wpAnyH_take (i := 9) (v := ?v82) rfl (by kernel_rfl) (by kernel_rfl) (by kernel_rfl) (fun _ _ _ h => h) (Or.inl ⟨by kernel_rfl, ?h82⟩) hHeld ?r82
              case h82 => intro W hSw; (try dsimp only at hSw); obtain ⟨hA, hB⟩ := hSw; go_simp; try with_reducible rfl
              simp only [Act.put, List.setIfInBounds_toArray, List.set_cons_zero, List.set_cons_succ]
              refine wpAnyH_take (i := 10) (v := ?v83) rfl (by kernel_rfl) (by kernel_rfl) (by kernel_rfl) (fun _ _ _ h => h) (Or.inl ⟨by kernel_rfl, ?h83⟩) hHeld ?r83
              case h83 => intro W hSw; (try dsimp only at hSw); obtain ⟨hA, hB⟩ := hSw; go_simp; try with_reducible rfl
              simp only [Act.put, List.setIfInBounds_toArray, List.set_cons_zero, List.set_cons_succ]
              refine wpAnyH_take (i := 11) (v := ?v84) rfl (by kernel_rfl) (by kernel_rfl) (by kernel_rfl) (fun _ _ _ h => h) (Or.inl ⟨by kernel_rfl, ?h84⟩) hHeld ?r84
              case h84 => intro W hSw; (try dsimp only at hSw); obtain ⟨hA, hB⟩ := hSw; go_simp; try with_reducible rfl
              simp only [Act.put, List.setIfInBounds_toArray, List.set_cons_zero, List.set_cons_succ]
              refine wpAnyH_ready (rs := [12]) (by kernel_rfl) (by simp) ?_
              refine AllReadyH.cons rfl (fun K hK => ?_) AllReadyH.nil
              go_simp
              refine hK.out _ _ (⟨y1, y2⟩) (fun hHeld => ?_)
              clear hK K
              (try simp only [Act.put, List.setIfInBounds_toArray, List.set_cons_zero, List.set_cons_succ])
              refine wpAnyH_done (by kernel_rfl) ?_ _
              go_wp2_with fail
              go_roundw
              case rel => exact ⟨k + 1, F, (putW S D A), by omega, by go_num, by assumption, by assumption, hid ⟨by assumption, by assumption⟩, O5.out, HQ3.out, T5.out, S5.out, B5.out⟩
              case measure => simp [intOf]; omega
        · have hDi : ((wwD F S).length : Int) = 2560 := by omega
          have hDb := ww_bytes hFb hSb
          have hDn : (wwD F S).length ≤ 140737488351232 := by omega
          have h512 : 512 ≤ (wwD F S).length := by omega
          have cga := fun W r => w_plget21 (.slice da (wwD F S).length dq) (wwD F S) ⟨#[97]⟩ 0 1024 W r hDb hDn (by decide) (by decide) (by decide) (by decide) (by decide)
          have cgb := fun W r => w_plget21 (.slice da (wwD F S).length dq) (wwD F S) ⟨#[98]⟩ 0 512 W r hDb hDn (by decide) (by decide) (by decide) (by decide) (by decide)
          simp only [show LB ⟨#[97]⟩ = [97] from rfl] at cga
          simp only [show LB ⟨#[98]⟩ = [98] from rfl] at cgb
          rw [ww_geta hF hS] at cga
          rw [ww_getb hF hS] at cgb
          simp only at cga cgb
          have cr := fun (j : Nat) (j1 : 1 ≤ j) (j5 : j < 5) W r => w_pread20 (.slice da (wwD F S).length dq) (wwD F S) (j : Int) W r hDn (by omega) (by omega)
          have crd := fun (j : Nat) (j1 : 1 ≤ j) (j5 : j < 5) => ww_rd hF hS j j1 j5
          have rv := (Rd_own hO).1
          obtain ⟨vh, rh, -, sh, -⟩ := rd_cutI rv uB zB 0 512 (by omega) (by omega) (by omega)
          have sh := sh rfl
          rw [show ((wwD F S).drop (0 : Int).toNat).take ((512 : Int) - 0).toNat = (wwD F S).take 512 from rfl, ww_head] at rh
          have cp := fun W r => w_pparse21 vh wwL W r (lbF_bytes rfl ww_u32) (by rw [ww_len]; omega)
          rw [ww_ps] at cp
          simp only at cp
          have rdF : ∀ W, Stands W g9 (ArA .u8 F) 5 → Rd .u8 W (.slice (some ⟨g9, 0, none⟩) 1024 1024) F := fun W hW => Or.inr ⟨g9, 0, 1024, by rw [hF], by omega, by omega, by decide, fun i hi => by rw [Nat.zero_add]; exact hW.cell i _ (ara_at i hi)⟩
          have rdS : ∀ W, Stands W g10 (ArA .u8 S) 5 → Rd .u8 W (.slice (some ⟨g10, 0, none⟩) 512 512) S := fun W hW => Or.inr ⟨g10, 0, 512, by rw [hS], by omega, by omega, by decide, fun i hi => by rw [Nat.zero_add]; exact hW.cell i _ (ara_at i hi)⟩
          have hFl := hid hF
          have hSl := hid hS
          have HFS := hid (show (F ++ S).length = 1536 by rw [List.length_append]; omega)
          have CV := hid (fun (W : World) (vv : Value) (L : List Int) (g : Rd .u8 W vv L) => rd_str (P := Try.prog) g (src := 23) (dst := 9) Try.underlying23 Try.underlying5 Try.underlying9)
          have hFi : F.length ≤ 1024 := by omega
          have hSi : S.length ≤ 512 := by omega
          have z := zeroL.1
          obtain ⟨Zp, hZp⟩ : ∃ Z, ArA .u32 (List.replicate 16 0) = Z := ⟨_, rfl⟩
          rw [hZp] at z
          have zps : Zp.size = 16 := by rw [← hZp, ara_size, List.length_replicate]
          have hpz : (ArA .u32 wwP).size = 16 := by rw [ara_size]; rfl
          have hrun := fun W : World => run_storeCells_new (P := Try.prog) W 30 Zp (ArA .u32 wwP) (by rw [hpz]; exact szL) (by rw [hpz, zps]) (ara_one _ _)
          have HR := hid hrun
          obtain ⟨PA, hPA⟩ : ∃ PA, ArA .u32 wwP = PA := ⟨_, rfl⟩
          rw [hPA] at HR
          simp only [hPA] at cp hpz
          have CP := hid cp
          have CR := hid cr
          have CD := hid crd
          have RH := hid rh
          have Hs9 := hid hs9
          have Hs10 := hid hs10
          have RF := hid rdF
          have RS := hid rdS
          have RV := hid rv
          clear hDl hF hS hrun cp cr crd hZp hPA hs9 hs10 rdF rdS rh hO hQ
          go_upto_region 24 with (go_at_call 7; refine (cga _ rv).mono ?_; rintro e q1 ⟨v1', rfl, o1', b1'⟩)
          have n1' := (Rd_own o1').1
          go_upto_region 25 with (go_at_call 7; refine (cgb _ (rv.below b1')).mono ?_; rintro e q2 ⟨v2', rfl, o2', b2'⟩)
          have n2' := (Rd_own o2').1
          have b12' := below_trans b1' b2'
          have rb1 := RF.out q2 (Hs9.out.below b12')
          have kb := box_below q2 (.cells #[] 5)
          have rb1 := rb1.below kb
          have oN : (q2.alloc (.cells #[] 5)).ownsRow q2.heap.size 5 1 (.slice (some ⟨q2.heap.size, 0, none⟩) 0 0) ([] : List Int).length (([] : List Int).map (Value.int .u8)) := World.ownsRow_made q2 #[] 0 (Nat.le_refl _) (Nat.zero_le _) rfl
          have hx1 : ([] : List Int).length + F.length ≤ maxLen := by
            rw [List.length_nil]
            unfold maxLen
            omega
          have hx2 : (([] : List Int).length + F.length) * 1 ≤ 140737488355328 := by
            rw [List.length_nil]
            omega
          have hx3 : q2.heap.size ≤ (q2.alloc (.cells #[] 5)).heap.size := by
            rw [size_al]
            omega
          have hx4 : ∀ q, (Value.slice (some ⟨q2.heap.size, 0, none⟩) 0 0).ownBlock = some q → q2.heap.size ≤ q := by
            intro q hq
            have hq2 : q2.heap.size = q := Option.some.inj hq
            omega
          clear cga cgb
          go_upto_region 27 with (first
            | (at_builtin; refine wpList_append_rd (k := .u8) rfl _ _ 23 rfl q2.heap.size 5 i0 1 Try.underlying23 hi hz0 hz1 hz2 v3' ([] ++ F) rfl o3' _ S rfl rb2 (by unfold maxLen; simp only [List.nil_append]; omega) (by simp only [List.nil_append]; omega) k3.size ?_; intro v4' q4 o4' g4'; have k4 := below_grown k3 g4' (fun q hq => (o3'.lt q hq).1))
            | (at_builtin; refine wpList_append_rd (k := .u8) rfl _ _ 23 rfl q2.heap.size 5 i0 1 Try.underlying23 hi hz0 hz1 hz2 _ [] rfl oN _ F rfl rb1 hx1 hx2 hx3 ?_; intro v3' q3 o3' g3'; have k3 := below_grown kb g3' hx4; have rb2 := RS.out q3 (Hs10.out.below (below_trans b12' k3))))
          have o4' : Own8 q2.heap.size q4 v4' (F ++ S) := o4'
          have w3f := rd_cutI (Rd_own o4').1 uB zB
          have BB := hid (below_trans hg (below_trans b12' k4))
          have HK := hid (below_trans b12' k4)
          clear o3' g3' g4' rb1 rb2 k3 kb oN hx1 hx2 hx3 hx4
          have rdZ : ∀ p : World, Rd .u8 (p.alloc (.cells (ArA .u8 Z2) 5)) (.slice (some ⟨p.heap.size, 0, none⟩) 512 512) Z2 := fun p => Or.inr ⟨p.heap.size, 0, 512, by rw [HB.out.2.1], by have := HB.out.2.1; omega, by have := HB.out.2.1; omega, by decide, fun i hi => by rw [Nat.zero_add]; exact (stands_new p (ArA .u8 Z2) 5).cell i _ (ara_at i hi)⟩
          go_loopw [21] (fun I wx => ∃ j : Nat, 1 ≤ j ∧ j ≤ 5 ∧ I = .int .i64 j ∧ Below q4.heap.size q4 wx) (fun I _ => (5 - intOf I).toNat)
          case atStart => exact ⟨1, by omega, by omega, rfl, Below.refl _ _⟩
          case round =>
            obtain ⟨j, j1, j5, rfl, hgj⟩ := hrel
            have bj := below_trans HK.out hgj
            by_cases hj5 : j < 5
            · have hj5' : (j : Int) < 5 := by omega
              have crj := fun W r => CR.out j j1 hj5 W r
              rw [CD.out j j1 hj5] at crj
              simp only at crj
              by_cases hj4 : j < 4
              · have hj4' : (j : Int) < 4 := by omega
                rw [if_pos hj4] at crj
                have wr1 : IntKind.i64.wrap (512 * ((j : Int) - 1)) = 512 * ((j : Int) - 1) := by rw [IntKind.wrap_i64]; omega
                have wr2 : IntKind.i64.wrap (512 * (j : Int)) = 512 * (j : Int) := by rw [IntKind.wrap_i64]; omega
                have wr3 : IntKind.i64.wrap ((j : Int) - 1) = (j : Int) - 1 := by rw [IntKind.wrap_i64]; omega
                obtain ⟨vw, rw', sw, -, -⟩ := w3f (512 * ((j : Int) - 1)) (512 * (j : Int)) (by omega) (by omega) (by rw [HFS.out]; omega)
                rw [show (512 * ((j : Int) - 1)).toNat = 512 * (j - 1) by omega, show (512 * (j : Int) - 512 * ((j : Int) - 1)).toNat = 512 by omega] at rw'
                obtain ⟨L, hL⟩ : ∃ L, ((F ++ S).drop (512 * (j - 1))).take 512 = L := ⟨_, rfl⟩
                simp only [hL] at crj
                rw [hL] at rw'
                clear hL
                go_wp2_with (go_at_call 8; refine (crj _ (RV.out.below bj)).mono ?_; rintro e p1 ⟨u1, rfl, ou, bu⟩; have cv1 := CV.out _ u1 L (((Rd_own ou).1).below (box_below p1 (.cells (ArA .u8 Z2) 5))); have cv2 := CV.out _ vw L (((rw'.below hgj).below bu).below (box_below p1 (.cells (ArA .u8 Z2) 5))))
                go_roundw
                case rel => exact ⟨j + 1, by omega, by omega, by go_num, below_trans hgj (below_trans bu (box_below p1 (.cells (ArA .u8 Z2) 5)))⟩
                case measure => simp [intOf]; omega
              · have hj4' : ¬ (j : Int) < 4 := by omega
                rw [if_neg hj4, HB.out.2.2.2.2] at crj
                have hj4e : j = 4 := by omega
                subst hj4e
                go_upto_region 30 with (go_at_call 8; refine (crj _ (RV.out.below bj)).mono ?_; rintro e p1 ⟨u1, rfl, ou, bu⟩)
                have cv1 := CV.out _ u1 Z2 (((Rd_own ou).1).below (box_below p1 (.cells (ArA .u8 Z2) 5)))
                have cv2 := CV.out _ _ Z2 (rdZ p1)
                have kx := below_trans hgj (below_trans bu (box_below p1 (.cells (ArA .u8 Z2) 5)))
                go_upto_region 31 with fail
                generalize p1.alloc (.cells (ArA .u8 Z2) 5) = p2 at cv1 cv2 kx ⊢
                have KX := hid kx
                clear ou bu kx rdZ crj
                generalize hgz : Value.slice (some ⟨p1.heap.size, 0, none⟩) 512 512 = gz at cv2 ⊢
                clear hgz
                go_wp2_with fail
                go_roundw
                case rel => exact ⟨5, by omega, by omega, by go_num, KX.out⟩
                case measure => simp [intOf]
            · have hj5' : ¬ (j : Int) < 5 := by omega
              have cp := CP.out
              go_upto_region 36 with (go_at_call 9; refine (cp _ (RH.out.below bj)).mono ?_; rintro e p1 ⟨rfl, bp⟩; have hs5 := HR.out p1; have kp := below_trans (below_trans hgj bp) (box_below p1 (.cells PA 30)); have cw1 := CV.out _ v1' F (((n1'.below b2').below k4).below kp); have cw2 := CV.out _ v2' S ((n2'.below k4).below kp); have cw3 := CV.out _ _ F (RF.out _ (Hs9.out.below (below_trans HK.out kp))); have cw4 := CV.out _ _ S (RS.out _ (Hs10.out.below (below_trans HK.out kp))))
              have FF := hid (below_trans BB.out kp)
              clear hs5 cp
              go_wp2_with fail
              go_ret
              exact ⟨ret_b (by simp), FF.out⟩
    · have s9 := (stands_new w3 (ArA .u8 Z2) 5).below (box_below _ (.cells (ArA .u8 Z1) 5))
      have s10 := stands_new (w3.alloc (.cells (ArA .u8 Z2) 5)) (ArA .u8 Z1) 5
      rw [size_al] at s10
      have bn := below_trans (box_below w3 (.cells (ArA .u8 Z2) 5)) (box_below _ (.cells (ArA .u8 Z1) 5))
      have b4 : Below w3.heap.size w3 ((w3.alloc (.cells (ArA .u8 Z2) 5)).alloc (.cells (ArA .u8 Z1) 5)).drew := below_drewN bn 1
      have s9 : Stands ((w3.alloc (.cells (ArA .u8 Z2) 5)).alloc (.cells (ArA .u8 Z1) 5)).drew w3.heap.size (ArA .u8 Z2) 5 := s9
      have s10 : Stands ((w3.alloc (.cells (ArA .u8 Z2) 5)).alloc (.cells (ArA .u8 Z1) 5)).drew (w3.heap.size + 1) (ArA .u8 Z1) 5 := s10
      have o4 := own_below O3.out b4
      have B4 := below_trans B3.out b4
      have hnq : ∀ q, v2.ownBlock = some q → ¬ q = w3.heap.size + 1 ∧ ¬ q = w3.heap.size := fun q hq => by have := hnb q hq; omega
      have h9 : w.heap.size ≤ w3.heap.size + 1 := by have := B3.out.size; omega
      have h10 : w.heap.size ≤ w3.heap.size := B3.out.size
      have hne : ¬ w3.heap.size + 1 = w3.heap.size := by omega
      generalize ((w3.alloc (.cells (ArA .u8 Z2) 5)).alloc (.cells (ArA .u8 Z1) 5)).drew = W4 at s9 s10 o4 B4 ⊢
      clear bn b4 hnb O3 B3
      have sA := s9
      have sB := s10
      clear s9 s10
      have s9 := sB
      have s10 := sA
      clear sA sB
      generalize w3.heap.size + 1 = g9 at s9 hnq h9 hne ⊢
      generalize w3.heap.size = g10 at s10 hnq h10 hne ⊢
      go_wp2_with fail
      go_loopw [5, 11] (fun D I wx => ∃ (k : Nat) (F S : List Int), k ≤ x0.length ∧ I = .int .i64 k ∧ F.length = 1024 ∧ S.length = 512 ∧ Hid (bytesL F ∧ bytesL S) ∧ Own8 w.heap.size wx D (wwD F S) ∧ (∀ q, D.ownBlock = some q → ¬ q = g9 ∧ ¬ q = g10) ∧ Stands wx g9 (ArA .u8 F) 5 ∧ Stands wx g10 (ArA .u8 S) 5 ∧ Below w.heap.size w wx) (fun _ I _ => (x0.length - intOf I).toNat)
      case atStart => exact ⟨0, Z1, Z2, by omega, rfl, HB.out.1, HB.out.2.1, hid ⟨HB.out.2.2.1, HB.out.2.2.2.1⟩, o4, hnq, s9, s10, B4⟩
      case round =>
        obtain ⟨k, F, S, hk, rfl, hF, hS, hFS, hO, hQ, hs9, hs10, hg⟩ := hrel
        have hFb := hFS.out.1
        have hSb := hFS.out.2
        clear s9 s10 o4 hnq B4
        obtain ⟨da, dq, rfl⟩ := own_form hO
        have hDl := ww_dlen hF hS
        by_cases hlt : (k : Int) < x0.length
        · obtain ⟨bb, oo, Z, A, c, D, ri, e0w, e1w, e2w, rD, gA, gDb, gDz⟩ := wr_at R0.out G0.out k (by omega)
          obtain ⟨ca, cq, rfl⟩ := rd_slice rD
          have rD := rD.below hg
          have e0 := below_cell hg e0w
          have e1 := below_cell hg e1w
          have e2 := below_cell hg e2w
          have rv := (Rd_own hO).1
          have hDb := ww_bytes hFb hSb
          simp only at gA gDb gDz
          cases Z
          · have cp := fun W r rb => w_plput21 (.slice da (wwD F S).length dq) (.slice ca D.length cq) (wwD F S) D ⟨#[97]⟩ A W r rb hDb (by omega) (by decide) gA.1 gA.2
            simp only [show LB ⟨#[97]⟩ = [97] from rfl] at cp
            clear hDl
            have hwM : A < 0 ∨ 1024 < A ∨ IntKind.i64.wrap (1024 - A) = 1024 - A := by
              by_cases q0 : A < 0
              · exact Or.inl q0
              · by_cases q1 : 1024 < A
                · exact Or.inr (Or.inl q1)
                · exact Or.inr (Or.inr (by rw [IntKind.wrap_i64]; omega))
            by_cases hbad : A < 0 ∨ 1024 < A ∨ 1024 - A < (D.length : Int)
            · rw [ww_no (ww_a hF hS) hbad] at cp
              simp only at cp
              go_upto_region 15 with fail
              refine wp_region_held_drew (S := fun W => W.cell? ⟨bb, oo + 1, none⟩ = some (.int .i64 A) ∧ W.cell? ⟨bb, oo + 2, none⟩ = some (.slice ca D.length cq)) (by kernel_rfl) (⟨e1, e2⟩) (fun hHeld => ?_)
              refine wpAnyH_take (i := 0) (v := ?v85) rfl (by kernel_rfl) (by kernel_rfl) (by kernel_rfl) (fun _ _ _ h => h) (Or.inl ⟨by kernel_rfl, ?h85⟩) hHeld ?r85
              case h85 => intro W hSw; (try dsimp only at hSw); obtain ⟨hA, hB⟩ := hSw; go_simp; try with_reducible rfl
              simp only [Act.put, List.setIfInBounds_toArray, List.set_cons_zero, List.set_cons_succ]
              refine wpAnyH_take (i := 1) (v := ?v86) rfl (by kernel_rfl) (by kernel_rfl) (by kernel_rfl) (fun _ _ _ h => h) (Or.inl ⟨by kernel_rfl, ?h86⟩) hHeld ?r86
              case h86 => intro W hSw; (try dsimp only at hSw); obtain ⟨hA, hB⟩ := hSw; go_simp; try with_reducible rfl
              simp only [Act.put, List.setIfInBounds_toArray, List.set_cons_zero, List.set_cons_succ]
              refine wpAnyH_take (i := 2) (v := ?v87) rfl (by kernel_rfl) (by kernel_rfl) (by kernel_rfl) (fun _ _ _ h => h) (Or.inl ⟨by kernel_rfl, ?h87⟩) hHeld ?r87
              case h87 => intro W hSw; (try dsimp only at hSw); obtain ⟨hA, hB⟩ := hSw; go_simp; try with_reducible rfl
              simp only [Act.put, List.setIfInBounds_toArray, List.set_cons_zero, List.set_cons_succ]
              refine wpAnyH_take (i := 3) (v := ?v88) rfl (by kernel_rfl) (by kernel_rfl) (by kernel_rfl) (fun _ _ _ h => h) (Or.inl ⟨by kernel_rfl, ?h88⟩) hHeld ?r88
              case h88 => intro W hSw; (try dsimp only at hSw); obtain ⟨hA, hB⟩ := hSw; go_simp; try with_reducible rfl
              simp only [Act.put, List.setIfInBounds_toArray, List.set_cons_zero, List.set_cons_succ]
              refine wpAnyH_take (i := 4) (v := ?v89) rfl (by kernel_rfl) (by kernel_rfl) (by kernel_rfl) (fun _ _ _ h => h) (Or.inl ⟨by kernel_rfl, ?h89⟩) hHeld ?r89
              case h89 => intro W hSw; (try dsimp only at hSw); obtain ⟨hA, hB⟩ := hSw; go_simp; try with_reducible rfl
              simp only [Act.put, List.setIfInBounds_toArray, List.set_cons_zero, List.set_cons_succ]
              refine wpAnyH_take (i := 5) (v := ?v90) rfl (by kernel_rfl) (by kernel_rfl) (by kernel_rfl) (fun _ _ _ h => h) (Or.inl ⟨by kernel_rfl, ?h90⟩) hHeld ?r90
              case h90 => intro W hSw; (try dsimp only at hSw); obtain ⟨hA, hB⟩ := hSw; go_simp; try with_reducible rfl
              simp only [Act.put, List.setIfInBounds_toArray, List.set_cons_zero, List.set_cons_succ]
              refine wpAnyH_take (i := 6) (v := ?v91) rfl (by kernel_rfl) (by kernel_rfl) (by kernel_rfl) (fun _ _ _ h => h) (Or.inl ⟨by kernel_rfl, ?h91⟩) hHeld ?r91
              case h91 => intro W hSw; (try dsimp only at hSw); obtain ⟨hA, hB⟩ := hSw; go_simp; try with_reducible rfl
              simp only [Act.put, List.setIfInBounds_toArray, List.set_cons_zero, List.set_cons_succ]
              refine wpAnyH_take (i := 7) (v := ?v92) rfl (by kernel_rfl) (by kernel_rfl) (by kernel_rfl) (fun _ _ _ h => h) (Or.inl ⟨by kernel_rfl, ?h92⟩) hHeld ?r92
              case h92 => intro W hSw; (try dsimp only at hSw); obtain ⟨hA, hB⟩ := hSw; go_simp; try with_reducible rfl
              simp only [Act.put, List.setIfInBounds_toArray, List.set_cons_zero, List.set_cons_succ]
              refine wpAnyH_take (i := 8) (v := ?v93) rfl (by kernel_rfl) (by kernel_rfl) (by kernel_rfl) (fun _ _ _ h => h) (Or.inl ⟨by kernel_rfl, ?h93⟩) hHeld ?r93
              case h93 => intro W hSw; (try dsimp only at hSw); obtain ⟨hA, hB⟩ := hSw; go_simp; try with_reducible rfl
              simp only [Act.put, List.setIfInBounds_toArray, List.set_cons_zero, List.set_cons_succ]
              refine wpAnyH_take (i := 9) (v := ?v94) rfl (by kernel_rfl) (by kernel_rfl) (by kernel_rfl) (fun _ _ _ h => h) (Or.inl ⟨by kernel_rfl, ?h94⟩) hHeld ?r94
              case h94 => intro W hSw; (try dsimp only at hSw); obtain ⟨hA, hB⟩ := hSw; go_simp; try with_reducible rfl
              simp only [Act.put, List.setIfInBounds_toArray, List.set_cons_zero, List.set_cons_succ]
              refine wpAnyH_take (i := 10) (v := ?v95) rfl (by kernel_rfl) (by kernel_rfl) (by kernel_rfl) (fun _ _ _ h => h) (Or.inl ⟨by kernel_rfl, ?h95⟩) hHeld ?r95
              case h95 => intro W hSw; (try dsimp only at hSw); obtain ⟨hA, hB⟩ := hSw; go_simp; try with_reducible rfl
              simp only [Act.put, List.setIfInBounds_toArray, List.set_cons_zero, List.set_cons_succ]
              refine wpAnyH_take (i := 11) (v := ?v96) rfl (by kernel_rfl) (by kernel_rfl) (by kernel_rfl) (fun _ _ _ h => h) (Or.inl ⟨by kernel_rfl, ?h96⟩) hHeld ?r96
              case h96 => intro W hSw; (try dsimp only at hSw); obtain ⟨hA, hB⟩ := hSw; go_simp; try with_reducible rfl
              simp only [Act.put, List.setIfInBounds_toArray, List.set_cons_zero, List.set_cons_succ]
              refine wpAnyH_ready (rs := [12]) (by kernel_rfl) (by simp) ?_
              refine AllReadyH.cons rfl (fun K hK => ?_) AllReadyH.nil
              go_simp
              go_wp2_with (first | (go_at_call 6; refine (cp _ (rv.below (below_drewN (Below.refl _ _) 1)) (rD.below (below_drewN (Below.refl _ _) 1))).mono ?_; rintro e q3 ⟨v3, rfl, o3, b3⟩))
              refine hK.out _ _ (⟨below_cell b3 hHeld.1, below_cell b3 hHeld.2⟩) (fun hHeld => ?_)
              clear hK K
              (try simp only [Act.put, List.setIfInBounds_toArray, List.set_cons_zero, List.set_cons_succ])
              refine wpAnyH_take (i := 13) (v := ?v97) rfl (by kernel_rfl) (by kernel_rfl) (by kernel_rfl) (fun _ _ _ h => h) (Or.inl ⟨by kernel_rfl, ?h97⟩) hHeld ?r97
              case h97 => intro W hSw; (try dsimp only at hSw); obtain ⟨hA, hB⟩ := hSw; go_simp; try with_reducible rfl
              simp only [Act.put, List.setIfInBounds_toArray, List.set_cons_zero, List.set_cons_succ]
              refine wpAnyH_take (i := 14) (v := ?v98) rfl (by kernel_rfl) (by kernel_rfl) (by kernel_rfl) (fun _ _ _ h => h) (Or.inl ⟨by kernel_rfl, ?h98⟩) hHeld ?r98
              case h98 => intro W hSw; (try dsimp only at hSw); obtain ⟨hA, hB⟩ := hSw; go_simp; try with_reducible rfl
              simp only [Act.put, List.setIfInBounds_toArray, List.set_cons_zero, List.set_cons_succ]
              refine wpAnyH_take (i := 15) (v := ?v99) rfl (by kernel_rfl) (by kernel_rfl) (by kernel_rfl) (fun _ _ _ h => h) (Or.inl ⟨by kernel_rfl, ?h99⟩) hHeld ?r99
              case h99 => intro W hSw; (try dsimp only at hSw); obtain ⟨hA, hB⟩ := hSw; go_simp; try with_reducible rfl
              simp only [Act.put, List.setIfInBounds_toArray, List.set_cons_zero, List.set_cons_succ]
              refine wpAnyH_ready (rs := [16]) (by kernel_rfl) (by simp) ?_
              refine AllReadyH.cons rfl (fun K hK => ?_) AllReadyH.nil
              go_simp
              refine hK.out _ _ (hHeld) (fun hHeld => ?_)
              clear hK K
              (try simp only [Act.put, List.setIfInBounds_toArray, List.set_cons_zero, List.set_cons_succ])
              refine wpAnyH_ready (rs := [17]) (by kernel_rfl) (by simp) ?_
              refine AllReadyH.cons rfl (fun K hK => ?_) AllReadyH.nil
              go_simp
              refine hK.out _ _ (hHeld) (fun hHeld => ?_)
              clear hK K
              (try simp only [Act.put, List.setIfInBounds_toArray, List.set_cons_zero, List.set_cons_succ])
              refine wpAnyH_done (by kernel_rfl) ?_ _
              have f1 := hHeld.1
              have f2 := hHeld.2
              have b13 : Below wr.heap.size wr q3 := below_trans (below_drewN (Below.refl _ _) 1) b3
              have HK := hid (fun n => (⟨own8_below hO (below_drewN b13 n), hs9.below (below_drewN b13 n), hs10.below (below_drewN b13 n), below_trans hg (below_drewN b13 n)⟩ : Own8 w.heap.size (q3.drewN n) (.slice da (wwD F S).length dq) (wwD F S) ∧ Stands (q3.drewN n) g9 (ArA .u8 F) 5 ∧ Stands (q3.drewN n) g10 (ArA .u8 S) 5 ∧ Below w.heap.size w (q3.drewN n)))
              clear hHeld o3 b3 e0 e1 e2
              by_cases hA0 : A < 0
              · have d0 : decide (A < 0) = true := decide_eq_true hA0
                clear hwM hbad
                go_upto_region 16 with fail
                go_quiet (fail)
                go_wp2_with fail
                go_roundw
                case rel => exact ⟨k + 1, F, S, by omega, by go_num, hF, hS, hFS, (HK.out _).1, hQ, (HK.out _).2.1, (HK.out _).2.2.1, (HK.out _).2.2.2⟩
                case measure => simp [intOf]; omega
              · have d0 : decide (A < 0) = false := decide_eq_false hA0
                by_cases hA1 : 1024 < A
                · have d1 : decide (1024 < A) = true := decide_eq_true hA1
                  clear hwM hbad
                  go_upto_region 16 with fail
                  go_quiet (fail)
                  go_wp2_with fail
                  go_roundw
                  case rel => exact ⟨k + 1, F, S, by omega, by go_num, hF, hS, hFS, (HK.out _).1, hQ, (HK.out _).2.1, (HK.out _).2.2.1, (HK.out _).2.2.2⟩
                  case measure => simp [intOf]; omega
                · have d1 : decide (1024 < A) = false := decide_eq_false hA1
                  have hA2 : 1024 - A < (D.length : Int) := by omega
                  have d2 : decide (1024 - A < (D.length : Int)) = true := decide_eq_true hA2
                  have hwq : IntKind.i64.wrap (1024 - A) = 1024 - A := by omega
                  clear hwM hbad
                  go_upto_region 16 with fail
                  go_quiet (fail)
                  go_wp2_with fail
                  go_roundw
                  case rel => exact ⟨k + 1, F, S, by omega, by go_num, hF, hS, hFS, (HK.out _).1, hQ, (HK.out _).2.1, (HK.out _).2.2.1, (HK.out _).2.2.2⟩
                  case measure => simp [intOf]; omega
            · rw [ww_puta hF hS hbad] at cp
              simp only at cp
              have d0 : decide (A < 0) = false := decide_eq_false (by omega)
              have d1 : decide (1024 < A) = false := decide_eq_false (by omega)
              have d2 : decide (1024 - A < (D.length : Int)) = false := decide_eq_false (by omega)
              have hwq : IntKind.i64.wrap (1024 - A) = 1024 - A := by omega
              have hn2 : ¬ 1024 - A < (D.length : Int) := by omega
              have hXl : (putW F D A).length = 1024 := by rw [putW_len (by omega) (by omega)]; assumption
              have hXb : bytesL (putW F D A) := putW_bytes (by assumption) gDb
              go_upto_region 15 with fail
              refine wp_region_held_drew (S := fun W => W.cell? ⟨bb, oo + 1, none⟩ = some (.int .i64 A) ∧ W.cell? ⟨bb, oo + 2, none⟩ = some (.slice ca D.length cq)) (by kernel_rfl) (⟨e1, e2⟩) (fun hHeld => ?_)
              refine wpAnyH_take (i := 0) (v := ?v100) rfl (by kernel_rfl) (by kernel_rfl) (by kernel_rfl) (fun _ _ _ h => h) (Or.inl ⟨by kernel_rfl, ?h100⟩) hHeld ?r100
              case h100 => intro W hSw; (try dsimp only at hSw); obtain ⟨hA, hB⟩ := hSw; go_simp; try with_reducible rfl
              simp only [Act.put, List.setIfInBounds_toArray, List.set_cons_zero, List.set_cons_succ]
              refine wpAnyH_take (i := 1) (v := ?v101) rfl (by kernel_rfl) (by kernel_rfl) (by kernel_rfl) (fun _ _ _ h => h) (Or.inl ⟨by kernel_rfl, ?h101⟩) hHeld ?r101
              case h101 => intro W hSw; (try dsimp only at hSw); obtain ⟨hA, hB⟩ := hSw; go_simp; try with_reducible rfl
              simp only [Act.put, List.setIfInBounds_toArray, List.set_cons_zero, List.set_cons_succ]
              refine wpAnyH_take (i := 2) (v := ?v102) rfl (by kernel_rfl) (by kernel_rfl) (by kernel_rfl) (fun _ _ _ h => h) (Or.inl ⟨by kernel_rfl, ?h102⟩) hHeld ?r102
              case h102 => intro W hSw; (try dsimp only at hSw); obtain ⟨hA, hB⟩ := hSw; go_simp; try with_reducible rfl
              simp only [Act.put, List.setIfInBounds_toArray, List.set_cons_zero, List.set_cons_succ]
              refine wpAnyH_take (i := 3) (v := ?v103) rfl (by kernel_rfl) (by kernel_rfl) (by kernel_rfl) (fun _ _ _ h => h) (Or.inl ⟨by kernel_rfl, ?h103⟩) hHeld ?r103
              case h103 => intro W hSw; (try dsimp only at hSw); obtain ⟨hA, hB⟩ := hSw; go_simp; try with_reducible rfl
              simp only [Act.put, List.setIfInBounds_toArray, List.set_cons_zero, List.set_cons_succ]
              refine wpAnyH_take (i := 4) (v := ?v104) rfl (by kernel_rfl) (by kernel_rfl) (by kernel_rfl) (fun _ _ _ h => h) (Or.inl ⟨by kernel_rfl, ?h104⟩) hHeld ?r104
              case h104 => intro W hSw; (try dsimp only at hSw); obtain ⟨hA, hB⟩ := hSw; go_simp; try with_reducible rfl
              simp only [Act.put, List.setIfInBounds_toArray, List.set_cons_zero, List.set_cons_succ]
              refine wpAnyH_take (i := 5) (v := ?v105) rfl (by kernel_rfl) (by kernel_rfl) (by kernel_rfl) (fun _ _ _ h => h) (Or.inl ⟨by kernel_rfl, ?h105⟩) hHeld ?r105
              case h105 => intro W hSw; (try dsimp only at hSw); obtain ⟨hA, hB⟩ := hSw; go_simp; try with_reducible rfl
              simp only [Act.put, List.setIfInBounds_toArray, List.set_cons_zero, List.set_cons_succ]
              refine wpAnyH_take (i := 6) (v := ?v106) rfl (by kernel_rfl) (by kernel_rfl) (by kernel_rfl) (fun _ _ _ h => h) (Or.inl ⟨by kernel_rfl, ?h106⟩) hHeld ?r106
              case h106 => intro W hSw; (try dsimp only at hSw); obtain ⟨hA, hB⟩ := hSw; go_simp; try with_reducible rfl
              simp only [Act.put, List.setIfInBounds_toArray, List.set_cons_zero, List.set_cons_succ]
              refine wpAnyH_take (i := 7) (v := ?v107) rfl (by kernel_rfl) (by kernel_rfl) (by kernel_rfl) (fun _ _ _ h => h) (Or.inl ⟨by kernel_rfl, ?h107⟩) hHeld ?r107
              case h107 => intro W hSw; (try dsimp only at hSw); obtain ⟨hA, hB⟩ := hSw; go_simp; try with_reducible rfl
              simp only [Act.put, List.setIfInBounds_toArray, List.set_cons_zero, List.set_cons_succ]
              refine wpAnyH_take (i := 8) (v := ?v108) rfl (by kernel_rfl) (by kernel_rfl) (by kernel_rfl) (fun _ _ _ h => h) (Or.inl ⟨by kernel_rfl, ?h108⟩) hHeld ?r108
              case h108 => intro W hSw; (try dsimp only at hSw); obtain ⟨hA, hB⟩ := hSw; go_simp; try with_reducible rfl
              simp only [Act.put, List.setIfInBounds_toArray, List.set_cons_zero, List.set_cons_succ]
              refine wpAnyH_take (i := 9) (v := ?v109) rfl (by kernel_rfl) (by kernel_rfl) (by kernel_rfl) (fun _ _ _ h => h) (Or.inl ⟨by kernel_rfl, ?h109⟩) hHeld ?r109
              case h109 => intro W hSw; (try dsimp only at hSw); obtain ⟨hA, hB⟩ := hSw; go_simp; try with_reducible rfl
              simp only [Act.put, List.setIfInBounds_toArray, List.set_cons_zero, List.set_cons_succ]
              refine wpAnyH_take (i := 10) (v := ?v110) rfl (by kernel_rfl) (by kernel_rfl) (by kernel_rfl) (fun _ _ _ h => h) (Or.inl ⟨by kernel_rfl, ?h110⟩) hHeld ?r110
              case h110 => intro W hSw; (try dsimp only at hSw); obtain ⟨hA, hB⟩ := hSw; go_simp; try with_reducible rfl
              simp only [Act.put, List.setIfInBounds_toArray, List.set_cons_zero, List.set_cons_succ]
              refine wpAnyH_take (i := 11) (v := ?v111) rfl (by kernel_rfl) (by kernel_rfl) (by kernel_rfl) (fun _ _ _ h => h) (Or.inl ⟨by kernel_rfl, ?h111⟩) hHeld ?r111
              case h111 => intro W hSw; (try dsimp only at hSw); obtain ⟨hA, hB⟩ := hSw; go_simp; try with_reducible rfl
              simp only [Act.put, List.setIfInBounds_toArray, List.set_cons_zero, List.set_cons_succ]
              refine wpAnyH_ready (rs := [12]) (by kernel_rfl) (by simp) ?_
              refine AllReadyH.cons rfl (fun K hK => ?_) AllReadyH.nil
              go_simp
              go_wp2_with (first | (go_at_call 6; refine (cp _ (rv.below (below_drewN (Below.refl _ _) 1)) (rD.below (below_drewN (Below.refl _ _) 1))).mono ?_; rintro e q3 ⟨v3, rfl, o3, b3⟩))
              refine hK.out _ _ (⟨below_cell b3 hHeld.1, below_cell b3 hHeld.2⟩) (fun hHeld => ?_)
              clear hK K
              (try simp only [Act.put, List.setIfInBounds_toArray, List.set_cons_zero, List.set_cons_succ])
              refine wpAnyH_take (i := 13) (v := ?v112) rfl (by kernel_rfl) (by kernel_rfl) (by kernel_rfl) (fun _ _ _ h => h) (Or.inl ⟨by kernel_rfl, ?h112⟩) hHeld ?r112
              case h112 => intro W hSw; (try dsimp only at hSw); obtain ⟨hA, hB⟩ := hSw; go_simp; try with_reducible rfl
              simp only [Act.put, List.setIfInBounds_toArray, List.set_cons_zero, List.set_cons_succ]
              refine wpAnyH_take (i := 14) (v := ?v113) rfl (by kernel_rfl) (by kernel_rfl) (by kernel_rfl) (fun _ _ _ h => h) (Or.inl ⟨by kernel_rfl, ?h113⟩) hHeld ?r113
              case h113 => intro W hSw; (try dsimp only at hSw); obtain ⟨hA, hB⟩ := hSw; go_simp; try with_reducible rfl
              simp only [Act.put, List.setIfInBounds_toArray, List.set_cons_zero, List.set_cons_succ]
              refine wpAnyH_take (i := 15) (v := ?v114) rfl (by kernel_rfl) (by kernel_rfl) (by kernel_rfl) (fun _ _ _ h => h) (Or.inl ⟨by kernel_rfl, ?h114⟩) hHeld ?r114
              case h114 => intro W hSw; (try dsimp only at hSw); obtain ⟨hA, hB⟩ := hSw; go_simp; try with_reducible rfl
              simp only [Act.put, List.setIfInBounds_toArray, List.set_cons_zero, List.set_cons_succ]
              refine wpAnyH_ready (rs := [16]) (by kernel_rfl) (by simp) ?_
              refine AllReadyH.cons rfl (fun K hK => ?_) AllReadyH.nil
              go_simp
              refine hK.out _ _ (hHeld) (fun hHeld => ?_)
              clear hK K
              (try simp only [Act.put, List.setIfInBounds_toArray, List.set_cons_zero, List.set_cons_succ])
              refine wpAnyH_ready (rs := [17]) (by kernel_rfl) (by simp) ?_
              refine AllReadyH.cons rfl (fun K hK => ?_) AllReadyH.nil
              go_simp
              refine hK.out _ _ (hHeld) (fun hHeld => ?_)
              clear hK K
              (try simp only [Act.put, List.setIfInBounds_toArray, List.set_cons_zero, List.set_cons_succ])
              refine wpAnyH_done (by kernel_rfl) ?_ _
              have f1 := hHeld.1
              have f2 := hHeld.2
              have b13 : Below wr.heap.size wr q3 := below_trans (below_drewN (Below.refl _ _) 1) b3
              have lt9 : g9 < wr.heap.size := (Array.getElem?_eq_some_iff.1 hs9).1
              have lt10 : g10 < wr.heap.size := (Array.getElem?_eq_some_iff.1 hs10).1
              have HQ3 := hid (fun q (hq : v3.ownBlock = some q) => (show ¬ q = g9 ∧ ¬ q = g10 by have h3 : wr.heap.size ≤ q := (World.ownsRow.lt o3 q hq).1; omega))
              have HO3 := hid o3
              clear hHeld e0 e1 e2 hwM
              obtain ⟨a3, p3, rfl⟩ := own_form o3
              clear o3
              go_upto_region 16 with fail
              go_quiet (fail)
              go_upto_region 22 with fail
              have bq : Below wr.heap.size wr (q3.drewN (nq + 1)) := below_drewN b13 (nq + 1)
              have bw := below_trans hg bq
              have gb : Below q3.heap.size q3 (q3.drewN (nq + 1)) := below_drewN (Below.refl _ _) (nq + 1)
              have e1c : (q3.drewN nq).drew.cell? ⟨bb, oo + 1, none⟩ = some (.int .i64 A) := f1
              have e2c : (q3.drewN nq).drew.cell? ⟨bb, oo + 2, none⟩ = some (.slice ca D.length cq) := f2
              obtain ⟨dp, sl, hdp⟩ := cut_own g9 1024 A (by omega) (by omega)
              have tm := hs9.below bq
              have to := hs10.below bq
              obtain ⟨w5, r5, s5, q5, z5, p5⟩ := copy_ar (P := Try.prog) (sl := 23) uB infoW1 hdp tm (rD.below bq) (by rw [hF]; omega)
              have hce : F.take A.toNat ++ D.take (1024 - A.toNat) ++ F.drop (A.toNat + (D.take (1024 - A.toNat)).length) = putW F D A := by
                rw [List.take_of_length_le (l := D) (by omega)]
                rfl
              rw [hce] at s5
              have b5 := q5 _ _ bw h9
              have y1 := below_cell b5 e1w
              have y2 := below_cell b5 e2w
              have S5 := hid s5
              have T5 : Hid (Stands w5 g10 (ArA .u8 S) 5) := by
                show w5.heap[_]? = _
                rw [p5 _ (by omega)]
                exact to
              have O5 : Hid (Own8 w.heap.size w5 (.slice a3 (wwD (putW F D A) S).length p3) (wwD (putW F D A) S)) := own8_base (own8_heap (own8_below HO3.out gb) (fun q hq => p5 q (HQ3.out q hq).1)) (below_trans hg (below_drewN (Below.refl _ _) 1)).size
              have B5 := hid b5
              clear s5 q5 z5 p5 b5 tm to bw gb hce
              refine wp_region_held_drew (S := fun W => W.cell? ⟨bb, oo + 1, none⟩ = some (.int .i64 A) ∧ W.cell? ⟨bb, oo + 2, none⟩ = some (.slice ca D.length cq)) (by kernel_rfl) (⟨e1c, e2c⟩) (fun hHeld => ?_)
              refine wpAnyH_take (i := 0) (v := ?v145) rfl (by kernel_rfl) (by kernel_rfl) (by kernel_rfl) (fun _ _ _ h => h) (Or.inl ⟨by kernel_rfl, ?h145⟩) hHeld ?r145
              case h145 => intro W hSw; (try dsimp only at hSw); obtain ⟨hA, hB⟩ := hSw; go_simp; try with_reducible rfl
              simp only [Act.put, List.setIfInBounds_toArray, List.set_cons_zero, List.set_cons_succ]
              refine wpAnyH_take (i := 1) (v := ?v146) rfl (by kernel_rfl) (by kernel_rfl) (by kernel_rfl) (fun _ _ _ h => h) (Or.inl ⟨by kernel_rfl, ?h146⟩) hHeld ?r146
              case h146 => intro W hSw; (try dsimp only at hSw); obtain ⟨hA, hB⟩ := hSw; go_simp; try with_reducible rfl
              simp only [Act.put, List.setIfInBounds_toArray, List.set_cons_zero, List.set_cons_succ]
              refine wpAnyH_take (i := 2) (v := ?v147) rfl (by kernel_rfl) (by kernel_rfl) (by kernel_rfl) (fun _ _ _ h => h) (Or.inl ⟨by kernel_rfl, ?h147⟩) hHeld ?r147
              case h147 => intro W hSw; (try dsimp only at hSw); obtain ⟨hA, hB⟩ := hSw; go_simp; try with_reducible rfl
              simp only [Act.put, List.setIfInBounds_toArray, List.set_cons_zero, List.set_cons_succ]
              refine wpAnyH_take (i := 3) (v := ?v148) rfl (by kernel_rfl) (by kernel_rfl) (by kernel_rfl) (fun _ _ _ h => h) (Or.inl ⟨by kernel_rfl, ?h148⟩) hHeld ?r148
              case h148 => intro W hSw; (try dsimp only at hSw); obtain ⟨hA, hB⟩ := hSw; go_simp; try with_reducible rfl
              simp only [Act.put, List.setIfInBounds_toArray, List.set_cons_zero, List.set_cons_succ]
              refine wpAnyH_take (i := 4) (v := ?v149) rfl (by kernel_rfl) (by kernel_rfl) (by kernel_rfl) (fun _ _ _ h => h) (Or.inl ⟨by kernel_rfl, ?h149⟩) hHeld ?r149
              case h149 => intro W hSw; (try dsimp only at hSw); obtain ⟨hA, hB⟩ := hSw; go_simp; try with_reducible rfl
              simp only [Act.put, List.setIfInBounds_toArray, List.set_cons_zero, List.set_cons_succ]
              refine wpAnyH_take (i := 5) (v := ?v150) rfl (by kernel_rfl) (by kernel_rfl) (by kernel_rfl) (fun _ _ _ h => h) (Or.inl ⟨by kernel_rfl, ?h150⟩) hHeld ?r150
              case h150 => intro W hSw; (try dsimp only at hSw); obtain ⟨hA, hB⟩ := hSw; go_simp; try with_reducible rfl
              simp only [Act.put, List.setIfInBounds_toArray, List.set_cons_zero, List.set_cons_succ]
              refine wpAnyH_take (i := 6) (v := ?v151) rfl (by kernel_rfl) (by kernel_rfl) (by kernel_rfl) (fun _ _ _ h => h) (Or.inl ⟨by kernel_rfl, ?h151⟩) hHeld ?r151
              case h151 => intro W hSw; (try dsimp only at hSw); obtain ⟨hA, hB⟩ := hSw; go_simp; try with_reducible rfl
              simp only [Act.put, List.setIfInBounds_toArray, List.set_cons_zero, List.set_cons_succ]
              refine wpAnyH_take (i := 7) (v := ?v152) rfl (by kernel_rfl) (by kernel_rfl) (by kernel_rfl) (fun _ _ _ h => h) (Or.inl ⟨by kernel_rfl, ?h152⟩) hHeld ?r152
              case h152 => intro W hSw; (try dsimp only at hSw); obtain ⟨hA, hB⟩ := hSw; go_simp; try with_reducible rfl
              simp only [Act.put, List.setIfInBounds_toArray, List.set_cons_zero, List.set_cons_succ]
              refine wpAnyH_take (i := 8) (v := ?v153) rfl (by kernel_rfl) (by kernel_rfl) (by kernel_rfl) (fun _ _ _ h => h) (Or.inl ⟨by kernel_rfl, ?h153⟩) hHeld ?r153
              case h153 => intro W hSw; (try dsimp only at hSw); obtain ⟨hA, hB⟩ := hSw; go_simp; try with_reducible rfl
              simp only [Act.put, List.setIfInBounds_toArray, List.set_cons_zero, List.set_cons_succ]
              refine wpAnyH_take (i := 9) (v := ?v154) rfl (by kernel_rfl) (by kernel_rfl) (by kernel_rfl) (fun _ _ _ h => h) (Or.inl ⟨by kernel_rfl, ?h154⟩) hHeld ?r154
              case h154 => intro W hSw; (try dsimp only at hSw); obtain ⟨hA, hB⟩ := hSw; go_simp; try with_reducible rfl
              simp only [Act.put, List.setIfInBounds_toArray, List.set_cons_zero, List.set_cons_succ]
              refine wpAnyH_take (i := 10) (v := ?v155) rfl (by kernel_rfl) (by kernel_rfl) (by kernel_rfl) (fun _ _ _ h => h) (Or.inl ⟨by kernel_rfl, ?h155⟩) hHeld ?r155
              case h155 => intro W hSw; (try dsimp only at hSw); obtain ⟨hA, hB⟩ := hSw; go_simp; try with_reducible rfl
              simp only [Act.put, List.setIfInBounds_toArray, List.set_cons_zero, List.set_cons_succ]
              refine wpAnyH_take (i := 11) (v := ?v156) rfl (by kernel_rfl) (by kernel_rfl) (by kernel_rfl) (fun _ _ _ h => h) (Or.inl ⟨by kernel_rfl, ?h156⟩) hHeld ?r156
              case h156 => intro W hSw; (try dsimp only at hSw); obtain ⟨hA, hB⟩ := hSw; go_simp; try with_reducible rfl
              simp only [Act.put, List.setIfInBounds_toArray, List.set_cons_zero, List.set_cons_succ]
              refine wpAnyH_ready (rs := [12]) (by kernel_rfl) (by simp) ?_
              refine AllReadyH.cons rfl (fun K hK => ?_) AllReadyH.nil
              go_simp
              refine hK.out _ _ (⟨y1, y2⟩) (fun hHeld => ?_)
              clear hK K
              (try simp only [Act.put, List.setIfInBounds_toArray, List.set_cons_zero, List.set_cons_succ])
              refine wpAnyH_done (by kernel_rfl) ?_ _
              go_wp2_with fail
              go_roundw
              case rel => exact ⟨k + 1, (putW F D A), S, by omega, by go_num, by assumption, by assumption, hid ⟨by assumption, by assumption⟩, O5.out, HQ3.out, S5.out, T5.out, B5.out⟩
              case measure => simp [intOf]; omega
          · have cp := fun W r rb => w_plput21 (.slice da (wwD F S).length dq) (.slice ca D.length cq) (wwD F S) D ⟨#[98]⟩ A W r rb hDb (by omega) (by decide) gA.1 gA.2
            simp only [show LB ⟨#[98]⟩ = [98] from rfl] at cp
            clear hDl
            have hwM : A < 0 ∨ 512 < A ∨ IntKind.i64.wrap (512 - A) = 512 - A := by
              by_cases q0 : A < 0
              · exact Or.inl q0
              · by_cases q1 : 512 < A
                · exact Or.inr (Or.inl q1)
                · exact Or.inr (Or.inr (by rw [IntKind.wrap_i64]; omega))
            by_cases hbad : A < 0 ∨ 512 < A ∨ 512 - A < (D.length : Int)
            · rw [ww_no (ww_b hF hS) hbad] at cp
              simp only at cp
              go_upto_region 15 with fail
              refine wp_region_held_drew (S := fun W => W.cell? ⟨bb, oo + 1, none⟩ = some (.int .i64 A) ∧ W.cell? ⟨bb, oo + 2, none⟩ = some (.slice ca D.length cq)) (by kernel_rfl) (⟨e1, e2⟩) (fun hHeld => ?_)
              refine wpAnyH_take (i := 0) (v := ?v115) rfl (by kernel_rfl) (by kernel_rfl) (by kernel_rfl) (fun _ _ _ h => h) (Or.inl ⟨by kernel_rfl, ?h115⟩) hHeld ?r115
              case h115 => intro W hSw; (try dsimp only at hSw); obtain ⟨hA, hB⟩ := hSw; go_simp; try with_reducible rfl
              simp only [Act.put, List.setIfInBounds_toArray, List.set_cons_zero, List.set_cons_succ]
              refine wpAnyH_take (i := 1) (v := ?v116) rfl (by kernel_rfl) (by kernel_rfl) (by kernel_rfl) (fun _ _ _ h => h) (Or.inl ⟨by kernel_rfl, ?h116⟩) hHeld ?r116
              case h116 => intro W hSw; (try dsimp only at hSw); obtain ⟨hA, hB⟩ := hSw; go_simp; try with_reducible rfl
              simp only [Act.put, List.setIfInBounds_toArray, List.set_cons_zero, List.set_cons_succ]
              refine wpAnyH_take (i := 2) (v := ?v117) rfl (by kernel_rfl) (by kernel_rfl) (by kernel_rfl) (fun _ _ _ h => h) (Or.inl ⟨by kernel_rfl, ?h117⟩) hHeld ?r117
              case h117 => intro W hSw; (try dsimp only at hSw); obtain ⟨hA, hB⟩ := hSw; go_simp; try with_reducible rfl
              simp only [Act.put, List.setIfInBounds_toArray, List.set_cons_zero, List.set_cons_succ]
              refine wpAnyH_take (i := 3) (v := ?v118) rfl (by kernel_rfl) (by kernel_rfl) (by kernel_rfl) (fun _ _ _ h => h) (Or.inl ⟨by kernel_rfl, ?h118⟩) hHeld ?r118
              case h118 => intro W hSw; (try dsimp only at hSw); obtain ⟨hA, hB⟩ := hSw; go_simp; try with_reducible rfl
              simp only [Act.put, List.setIfInBounds_toArray, List.set_cons_zero, List.set_cons_succ]
              refine wpAnyH_take (i := 4) (v := ?v119) rfl (by kernel_rfl) (by kernel_rfl) (by kernel_rfl) (fun _ _ _ h => h) (Or.inl ⟨by kernel_rfl, ?h119⟩) hHeld ?r119
              case h119 => intro W hSw; (try dsimp only at hSw); obtain ⟨hA, hB⟩ := hSw; go_simp; try with_reducible rfl
              simp only [Act.put, List.setIfInBounds_toArray, List.set_cons_zero, List.set_cons_succ]
              refine wpAnyH_take (i := 5) (v := ?v120) rfl (by kernel_rfl) (by kernel_rfl) (by kernel_rfl) (fun _ _ _ h => h) (Or.inl ⟨by kernel_rfl, ?h120⟩) hHeld ?r120
              case h120 => intro W hSw; (try dsimp only at hSw); obtain ⟨hA, hB⟩ := hSw; go_simp; try with_reducible rfl
              simp only [Act.put, List.setIfInBounds_toArray, List.set_cons_zero, List.set_cons_succ]
              refine wpAnyH_take (i := 6) (v := ?v121) rfl (by kernel_rfl) (by kernel_rfl) (by kernel_rfl) (fun _ _ _ h => h) (Or.inl ⟨by kernel_rfl, ?h121⟩) hHeld ?r121
              case h121 => intro W hSw; (try dsimp only at hSw); obtain ⟨hA, hB⟩ := hSw; go_simp; try with_reducible rfl
              simp only [Act.put, List.setIfInBounds_toArray, List.set_cons_zero, List.set_cons_succ]
              refine wpAnyH_take (i := 7) (v := ?v122) rfl (by kernel_rfl) (by kernel_rfl) (by kernel_rfl) (fun _ _ _ h => h) (Or.inl ⟨by kernel_rfl, ?h122⟩) hHeld ?r122
              case h122 => intro W hSw; (try dsimp only at hSw); obtain ⟨hA, hB⟩ := hSw; go_simp; try with_reducible rfl
              simp only [Act.put, List.setIfInBounds_toArray, List.set_cons_zero, List.set_cons_succ]
              refine wpAnyH_take (i := 8) (v := ?v123) rfl (by kernel_rfl) (by kernel_rfl) (by kernel_rfl) (fun _ _ _ h => h) (Or.inl ⟨by kernel_rfl, ?h123⟩) hHeld ?r123
              case h123 => intro W hSw; (try dsimp only at hSw); obtain ⟨hA, hB⟩ := hSw; go_simp; try with_reducible rfl
              simp only [Act.put, List.setIfInBounds_toArray, List.set_cons_zero, List.set_cons_succ]
              refine wpAnyH_take (i := 9) (v := ?v124) rfl (by kernel_rfl) (by kernel_rfl) (by kernel_rfl) (fun _ _ _ h => h) (Or.inl ⟨by kernel_rfl, ?h124⟩) hHeld ?r124
              case h124 => intro W hSw; (try dsimp only at hSw); obtain ⟨hA, hB⟩ := hSw; go_simp; try with_reducible rfl
              simp only [Act.put, List.setIfInBounds_toArray, List.set_cons_zero, List.set_cons_succ]
              refine wpAnyH_take (i := 10) (v := ?v125) rfl (by kernel_rfl) (by kernel_rfl) (by kernel_rfl) (fun _ _ _ h => h) (Or.inl ⟨by kernel_rfl, ?h125⟩) hHeld ?r125
              case h125 => intro W hSw; (try dsimp only at hSw); obtain ⟨hA, hB⟩ := hSw; go_simp; try with_reducible rfl
              simp only [Act.put, List.setIfInBounds_toArray, List.set_cons_zero, List.set_cons_succ]
              refine wpAnyH_take (i := 11) (v := ?v126) rfl (by kernel_rfl) (by kernel_rfl) (by kernel_rfl) (fun _ _ _ h => h) (Or.inl ⟨by kernel_rfl, ?h126⟩) hHeld ?r126
              case h126 => intro W hSw; (try dsimp only at hSw); obtain ⟨hA, hB⟩ := hSw; go_simp; try with_reducible rfl
              simp only [Act.put, List.setIfInBounds_toArray, List.set_cons_zero, List.set_cons_succ]
              refine wpAnyH_ready (rs := [12]) (by kernel_rfl) (by simp) ?_
              refine AllReadyH.cons rfl (fun K hK => ?_) AllReadyH.nil
              go_simp
              go_wp2_with (first | (go_at_call 6; refine (cp _ (rv.below (below_drewN (Below.refl _ _) 1)) (rD.below (below_drewN (Below.refl _ _) 1))).mono ?_; rintro e q3 ⟨v3, rfl, o3, b3⟩))
              refine hK.out _ _ (⟨below_cell b3 hHeld.1, below_cell b3 hHeld.2⟩) (fun hHeld => ?_)
              clear hK K
              (try simp only [Act.put, List.setIfInBounds_toArray, List.set_cons_zero, List.set_cons_succ])
              refine wpAnyH_take (i := 13) (v := ?v127) rfl (by kernel_rfl) (by kernel_rfl) (by kernel_rfl) (fun _ _ _ h => h) (Or.inl ⟨by kernel_rfl, ?h127⟩) hHeld ?r127
              case h127 => intro W hSw; (try dsimp only at hSw); obtain ⟨hA, hB⟩ := hSw; go_simp; try with_reducible rfl
              simp only [Act.put, List.setIfInBounds_toArray, List.set_cons_zero, List.set_cons_succ]
              refine wpAnyH_take (i := 14) (v := ?v128) rfl (by kernel_rfl) (by kernel_rfl) (by kernel_rfl) (fun _ _ _ h => h) (Or.inl ⟨by kernel_rfl, ?h128⟩) hHeld ?r128
              case h128 => intro W hSw; (try dsimp only at hSw); obtain ⟨hA, hB⟩ := hSw; go_simp; try with_reducible rfl
              simp only [Act.put, List.setIfInBounds_toArray, List.set_cons_zero, List.set_cons_succ]
              refine wpAnyH_take (i := 15) (v := ?v129) rfl (by kernel_rfl) (by kernel_rfl) (by kernel_rfl) (fun _ _ _ h => h) (Or.inl ⟨by kernel_rfl, ?h129⟩) hHeld ?r129
              case h129 => intro W hSw; (try dsimp only at hSw); obtain ⟨hA, hB⟩ := hSw; go_simp; try with_reducible rfl
              simp only [Act.put, List.setIfInBounds_toArray, List.set_cons_zero, List.set_cons_succ]
              refine wpAnyH_ready (rs := [16]) (by kernel_rfl) (by simp) ?_
              refine AllReadyH.cons rfl (fun K hK => ?_) AllReadyH.nil
              go_simp
              refine hK.out _ _ (hHeld) (fun hHeld => ?_)
              clear hK K
              (try simp only [Act.put, List.setIfInBounds_toArray, List.set_cons_zero, List.set_cons_succ])
              refine wpAnyH_ready (rs := [17]) (by kernel_rfl) (by simp) ?_
              refine AllReadyH.cons rfl (fun K hK => ?_) AllReadyH.nil
              go_simp
              refine hK.out _ _ (hHeld) (fun hHeld => ?_)
              clear hK K
              (try simp only [Act.put, List.setIfInBounds_toArray, List.set_cons_zero, List.set_cons_succ])
              refine wpAnyH_done (by kernel_rfl) ?_ _
              have f1 := hHeld.1
              have f2 := hHeld.2
              have b13 : Below wr.heap.size wr q3 := below_trans (below_drewN (Below.refl _ _) 1) b3
              have HK := hid (fun n => (⟨own8_below hO (below_drewN b13 n), hs9.below (below_drewN b13 n), hs10.below (below_drewN b13 n), below_trans hg (below_drewN b13 n)⟩ : Own8 w.heap.size (q3.drewN n) (.slice da (wwD F S).length dq) (wwD F S) ∧ Stands (q3.drewN n) g9 (ArA .u8 F) 5 ∧ Stands (q3.drewN n) g10 (ArA .u8 S) 5 ∧ Below w.heap.size w (q3.drewN n)))
              clear hHeld o3 b3 e0 e1 e2
              by_cases hA0 : A < 0
              · have d0 : decide (A < 0) = true := decide_eq_true hA0
                clear hwM hbad
                go_upto_region 16 with fail
                go_quiet (fail)
                go_wp2_with fail
                go_roundw
                case rel => exact ⟨k + 1, F, S, by omega, by go_num, hF, hS, hFS, (HK.out _).1, hQ, (HK.out _).2.1, (HK.out _).2.2.1, (HK.out _).2.2.2⟩
                case measure => simp [intOf]; omega
              · have d0 : decide (A < 0) = false := decide_eq_false hA0
                by_cases hA1 : 512 < A
                · have d1 : decide (512 < A) = true := decide_eq_true hA1
                  clear hwM hbad
                  go_upto_region 16 with fail
                  go_quiet (fail)
                  go_wp2_with fail
                  go_roundw
                  case rel => exact ⟨k + 1, F, S, by omega, by go_num, hF, hS, hFS, (HK.out _).1, hQ, (HK.out _).2.1, (HK.out _).2.2.1, (HK.out _).2.2.2⟩
                  case measure => simp [intOf]; omega
                · have d1 : decide (512 < A) = false := decide_eq_false hA1
                  have hA2 : 512 - A < (D.length : Int) := by omega
                  have d2 : decide (512 - A < (D.length : Int)) = true := decide_eq_true hA2
                  have hwq : IntKind.i64.wrap (512 - A) = 512 - A := by omega
                  clear hwM hbad
                  go_upto_region 16 with fail
                  go_quiet (fail)
                  go_wp2_with fail
                  go_roundw
                  case rel => exact ⟨k + 1, F, S, by omega, by go_num, hF, hS, hFS, (HK.out _).1, hQ, (HK.out _).2.1, (HK.out _).2.2.1, (HK.out _).2.2.2⟩
                  case measure => simp [intOf]; omega
            · rw [ww_putb hF hS hbad] at cp
              simp only at cp
              have d0 : decide (A < 0) = false := decide_eq_false (by omega)
              have d1 : decide (512 < A) = false := decide_eq_false (by omega)
              have d2 : decide (512 - A < (D.length : Int)) = false := decide_eq_false (by omega)
              have hwq : IntKind.i64.wrap (512 - A) = 512 - A := by omega
              have hn2 : ¬ 512 - A < (D.length : Int) := by omega
              have hXl : (putW S D A).length = 512 := by rw [putW_len (by omega) (by omega)]; assumption
              have hXb : bytesL (putW S D A) := putW_bytes (by assumption) gDb
              go_upto_region 15 with fail
              refine wp_region_held_drew (S := fun W => W.cell? ⟨bb, oo + 1, none⟩ = some (.int .i64 A) ∧ W.cell? ⟨bb, oo + 2, none⟩ = some (.slice ca D.length cq)) (by kernel_rfl) (⟨e1, e2⟩) (fun hHeld => ?_)
              refine wpAnyH_take (i := 0) (v := ?v130) rfl (by kernel_rfl) (by kernel_rfl) (by kernel_rfl) (fun _ _ _ h => h) (Or.inl ⟨by kernel_rfl, ?h130⟩) hHeld ?r130
              case h130 => intro W hSw; (try dsimp only at hSw); obtain ⟨hA, hB⟩ := hSw; go_simp; try with_reducible rfl
              simp only [Act.put, List.setIfInBounds_toArray, List.set_cons_zero, List.set_cons_succ]
              refine wpAnyH_take (i := 1) (v := ?v131) rfl (by kernel_rfl) (by kernel_rfl) (by kernel_rfl) (fun _ _ _ h => h) (Or.inl ⟨by kernel_rfl, ?h131⟩) hHeld ?r131
              case h131 => intro W hSw; (try dsimp only at hSw); obtain ⟨hA, hB⟩ := hSw; go_simp; try with_reducible rfl
              simp only [Act.put, List.setIfInBounds_toArray, List.set_cons_zero, List.set_cons_succ]
              refine wpAnyH_take (i := 2) (v := ?v132) rfl (by kernel_rfl) (by kernel_rfl) (by kernel_rfl) (fun _ _ _ h => h) (Or.inl ⟨by kernel_rfl, ?h132⟩) hHeld ?r132
              case h132 => intro W hSw; (try dsimp only at hSw); obtain ⟨hA, hB⟩ := hSw; go_simp; try with_reducible rfl
              simp only [Act.put, List.setIfInBounds_toArray, List.set_cons_zero, List.set_cons_succ]
              refine wpAnyH_take (i := 3) (v := ?v133) rfl (by kernel_rfl) (by kernel_rfl) (by kernel_rfl) (fun _ _ _ h => h) (Or.inl ⟨by kernel_rfl, ?h133⟩) hHeld ?r133
              case h133 => intro W hSw; (try dsimp only at hSw); obtain ⟨hA, hB⟩ := hSw; go_simp; try with_reducible rfl
              simp only [Act.put, List.setIfInBounds_toArray, List.set_cons_zero, List.set_cons_succ]
              refine wpAnyH_take (i := 4) (v := ?v134) rfl (by kernel_rfl) (by kernel_rfl) (by kernel_rfl) (fun _ _ _ h => h) (Or.inl ⟨by kernel_rfl, ?h134⟩) hHeld ?r134
              case h134 => intro W hSw; (try dsimp only at hSw); obtain ⟨hA, hB⟩ := hSw; go_simp; try with_reducible rfl
              simp only [Act.put, List.setIfInBounds_toArray, List.set_cons_zero, List.set_cons_succ]
              refine wpAnyH_take (i := 5) (v := ?v135) rfl (by kernel_rfl) (by kernel_rfl) (by kernel_rfl) (fun _ _ _ h => h) (Or.inl ⟨by kernel_rfl, ?h135⟩) hHeld ?r135
              case h135 => intro W hSw; (try dsimp only at hSw); obtain ⟨hA, hB⟩ := hSw; go_simp; try with_reducible rfl
              simp only [Act.put, List.setIfInBounds_toArray, List.set_cons_zero, List.set_cons_succ]
              refine wpAnyH_take (i := 6) (v := ?v136) rfl (by kernel_rfl) (by kernel_rfl) (by kernel_rfl) (fun _ _ _ h => h) (Or.inl ⟨by kernel_rfl, ?h136⟩) hHeld ?r136
              case h136 => intro W hSw; (try dsimp only at hSw); obtain ⟨hA, hB⟩ := hSw; go_simp; try with_reducible rfl
              simp only [Act.put, List.setIfInBounds_toArray, List.set_cons_zero, List.set_cons_succ]
              refine wpAnyH_take (i := 7) (v := ?v137) rfl (by kernel_rfl) (by kernel_rfl) (by kernel_rfl) (fun _ _ _ h => h) (Or.inl ⟨by kernel_rfl, ?h137⟩) hHeld ?r137
              case h137 => intro W hSw; (try dsimp only at hSw); obtain ⟨hA, hB⟩ := hSw; go_simp; try with_reducible rfl
              simp only [Act.put, List.setIfInBounds_toArray, List.set_cons_zero, List.set_cons_succ]
              refine wpAnyH_take (i := 8) (v := ?v138) rfl (by kernel_rfl) (by kernel_rfl) (by kernel_rfl) (fun _ _ _ h => h) (Or.inl ⟨by kernel_rfl, ?h138⟩) hHeld ?r138
              case h138 => intro W hSw; (try dsimp only at hSw); obtain ⟨hA, hB⟩ := hSw; go_simp; try with_reducible rfl
              simp only [Act.put, List.setIfInBounds_toArray, List.set_cons_zero, List.set_cons_succ]
              refine wpAnyH_take (i := 9) (v := ?v139) rfl (by kernel_rfl) (by kernel_rfl) (by kernel_rfl) (fun _ _ _ h => h) (Or.inl ⟨by kernel_rfl, ?h139⟩) hHeld ?r139
              case h139 => intro W hSw; (try dsimp only at hSw); obtain ⟨hA, hB⟩ := hSw; go_simp; try with_reducible rfl
              simp only [Act.put, List.setIfInBounds_toArray, List.set_cons_zero, List.set_cons_succ]
              refine wpAnyH_take (i := 10) (v := ?v140) rfl (by kernel_rfl) (by kernel_rfl) (by kernel_rfl) (fun _ _ _ h => h) (Or.inl ⟨by kernel_rfl, ?h140⟩) hHeld ?r140
              case h140 => intro W hSw; (try dsimp only at hSw); obtain ⟨hA, hB⟩ := hSw; go_simp; try with_reducible rfl
              simp only [Act.put, List.setIfInBounds_toArray, List.set_cons_zero, List.set_cons_succ]
              refine wpAnyH_take (i := 11) (v := ?v141) rfl (by kernel_rfl) (by kernel_rfl) (by kernel_rfl) (fun _ _ _ h => h) (Or.inl ⟨by kernel_rfl, ?h141⟩) hHeld ?r141
              case h141 => intro W hSw; (try dsimp only at hSw); obtain ⟨hA, hB⟩ := hSw; go_simp; try with_reducible rfl
              simp only [Act.put, List.setIfInBounds_toArray, List.set_cons_zero, List.set_cons_succ]
              refine wpAnyH_ready (rs := [12]) (by kernel_rfl) (by simp) ?_
              refine AllReadyH.cons rfl (fun K hK => ?_) AllReadyH.nil
              go_simp
              go_wp2_with (first | (go_at_call 6; refine (cp _ (rv.below (below_drewN (Below.refl _ _) 1)) (rD.below (below_drewN (Below.refl _ _) 1))).mono ?_; rintro e q3 ⟨v3, rfl, o3, b3⟩))
              refine hK.out _ _ (⟨below_cell b3 hHeld.1, below_cell b3 hHeld.2⟩) (fun hHeld => ?_)
              clear hK K
              (try simp only [Act.put, List.setIfInBounds_toArray, List.set_cons_zero, List.set_cons_succ])
              refine wpAnyH_take (i := 13) (v := ?v142) rfl (by kernel_rfl) (by kernel_rfl) (by kernel_rfl) (fun _ _ _ h => h) (Or.inl ⟨by kernel_rfl, ?h142⟩) hHeld ?r142
              case h142 => intro W hSw; (try dsimp only at hSw); obtain ⟨hA, hB⟩ := hSw; go_simp; try with_reducible rfl
              simp only [Act.put, List.setIfInBounds_toArray, List.set_cons_zero, List.set_cons_succ]
              refine wpAnyH_take (i := 14) (v := ?v143) rfl (by kernel_rfl) (by kernel_rfl) (by kernel_rfl) (fun _ _ _ h => h) (Or.inl ⟨by kernel_rfl, ?h143⟩) hHeld ?r143
              case h143 => intro W hSw; (try dsimp only at hSw); obtain ⟨hA, hB⟩ := hSw; go_simp; try with_reducible rfl
              simp only [Act.put, List.setIfInBounds_toArray, List.set_cons_zero, List.set_cons_succ]
              refine wpAnyH_take (i := 15) (v := ?v144) rfl (by kernel_rfl) (by kernel_rfl) (by kernel_rfl) (fun _ _ _ h => h) (Or.inl ⟨by kernel_rfl, ?h144⟩) hHeld ?r144
              case h144 => intro W hSw; (try dsimp only at hSw); obtain ⟨hA, hB⟩ := hSw; go_simp; try with_reducible rfl
              simp only [Act.put, List.setIfInBounds_toArray, List.set_cons_zero, List.set_cons_succ]
              refine wpAnyH_ready (rs := [16]) (by kernel_rfl) (by simp) ?_
              refine AllReadyH.cons rfl (fun K hK => ?_) AllReadyH.nil
              go_simp
              refine hK.out _ _ (hHeld) (fun hHeld => ?_)
              clear hK K
              (try simp only [Act.put, List.setIfInBounds_toArray, List.set_cons_zero, List.set_cons_succ])
              refine wpAnyH_ready (rs := [17]) (by kernel_rfl) (by simp) ?_
              refine AllReadyH.cons rfl (fun K hK => ?_) AllReadyH.nil
              go_simp
              refine hK.out _ _ (hHeld) (fun hHeld => ?_)
              clear hK K
              (try simp only [Act.put, List.setIfInBounds_toArray, List.set_cons_zero, List.set_cons_succ])
              refine wpAnyH_done (by kernel_rfl) ?_ _
              have f1 := hHeld.1
              have f2 := hHeld.2
              have b13 : Below wr.heap.size wr q3 := below_trans (below_drewN (Below.refl _ _) 1) b3
              have lt9 : g9 < wr.heap.size := (Array.getElem?_eq_some_iff.1 hs9).1
              have lt10 : g10 < wr.heap.size := (Array.getElem?_eq_some_iff.1 hs10).1
              have HQ3 := hid (fun q (hq : v3.ownBlock = some q) => (show ¬ q = g9 ∧ ¬ q = g10 by have h3 : wr.heap.size ≤ q := (World.ownsRow.lt o3 q hq).1; omega))
              have HO3 := hid o3
              clear hHeld e0 e1 e2 hwM
              obtain ⟨a3, p3, rfl⟩ := own_form o3
              clear o3
              go_upto_region 16 with fail
              go_quiet (fail)
              go_upto_region 22 with fail
              have bq : Below wr.heap.size wr (q3.drewN (nq + 1)) := below_drewN b13 (nq + 1)
              have bw := below_trans hg bq
              have gb : Below q3.heap.size q3 (q3.drewN (nq + 1)) := below_drewN (Below.refl _ _) (nq + 1)
              have e1c : (q3.drewN nq).drew.cell? ⟨bb, oo + 1, none⟩ = some (.int .i64 A) := f1
              have e2c : (q3.drewN nq).drew.cell? ⟨bb, oo + 2, none⟩ = some (.slice ca D.length cq) := f2
              obtain ⟨dp, sl, hdp⟩ := cut_own g10 512 A (by omega) (by omega)
              have tm := hs10.below bq
              have to := hs9.below bq
              obtain ⟨w5, r5, s5, q5, z5, p5⟩ := copy_ar (P := Try.prog) (sl := 23) uB infoW1 hdp tm (rD.below bq) (by rw [hS]; omega)
              have hce : S.take A.toNat ++ D.take (512 - A.toNat) ++ S.drop (A.toNat + (D.take (512 - A.toNat)).length) = putW S D A := by
                rw [List.take_of_length_le (l := D) (by omega)]
                rfl
              rw [hce] at s5
              have b5 := q5 _ _ bw h10
              have y1 := below_cell b5 e1w
              have y2 := below_cell b5 e2w
              have S5 := hid s5
              have T5 : Hid (Stands w5 g9 (ArA .u8 F) 5) := by
                show w5.heap[_]? = _
                rw [p5 _ (by omega)]
                exact to
              have O5 : Hid (Own8 w.heap.size w5 (.slice a3 (wwD F (putW S D A)).length p3) (wwD F (putW S D A))) := own8_base (own8_heap (own8_below HO3.out gb) (fun q hq => p5 q (HQ3.out q hq).2)) (below_trans hg (below_drewN (Below.refl _ _) 1)).size
              have B5 := hid b5
              clear s5 q5 z5 p5 b5 tm to bw gb hce
              refine wp_region_held_drew (S := fun W => W.cell? ⟨bb, oo + 1, none⟩ = some (.int .i64 A) ∧ W.cell? ⟨bb, oo + 2, none⟩ = some (.slice ca D.length cq)) (by kernel_rfl) (⟨e1c, e2c⟩) (fun hHeld => ?_)
              refine wpAnyH_take (i := 0) (v := ?v157) rfl (by kernel_rfl) (by kernel_rfl) (by kernel_rfl) (fun _ _ _ h => h) (Or.inl ⟨by kernel_rfl, ?h157⟩) hHeld ?r157
              case h157 => intro W hSw; (try dsimp only at hSw); obtain ⟨hA, hB⟩ := hSw; go_simp; try with_reducible rfl
              simp only [Act.put, List.setIfInBounds_toArray, List.set_cons_zero, List.set_cons_succ]
              refine wpAnyH_take (i := 1) (v := ?v158) rfl (by kernel_rfl) (by kernel_rfl) (by kernel_rfl) (fun _ _ _ h => h) (Or.inl ⟨by kernel_rfl, ?h158⟩) hHeld ?r158
              case h158 => intro W hSw; (try dsimp only at hSw); obtain ⟨hA, hB⟩ := hSw; go_simp; try with_reducible rfl
              simp only [Act.put, List.setIfInBounds_toArray, List.set_cons_zero, List.set_cons_succ]
              refine wpAnyH_take (i := 2) (v := ?v159) rfl (by kernel_rfl) (by kernel_rfl) (by kernel_rfl) (fun _ _ _ h => h) (Or.inl ⟨by kernel_rfl, ?h159⟩) hHeld ?r159
              case h159 => intro W hSw; (try dsimp only at hSw); obtain ⟨hA, hB⟩ := hSw; go_simp; try with_reducible rfl
              simp only [Act.put, List.setIfInBounds_toArray, List.set_cons_zero, List.set_cons_succ]
              refine wpAnyH_take (i := 3) (v := ?v160) rfl (by kernel_rfl) (by kernel_rfl) (by kernel_rfl) (fun _ _ _ h => h) (Or.inl ⟨by kernel_rfl, ?h160⟩) hHeld ?r160
              case h160 => intro W hSw; (try dsimp only at hSw); obtain ⟨hA, hB⟩ := hSw; go_simp; try with_reducible rfl
              simp only [Act.put, List.setIfInBounds_toArray, List.set_cons_zero, List.set_cons_succ]
              refine wpAnyH_take (i := 4) (v := ?v161) rfl (by kernel_rfl) (by kernel_rfl) (by kernel_rfl) (fun _ _ _ h => h) (Or.inl ⟨by kernel_rfl, ?h161⟩) hHeld ?r161
              case h161 => intro W hSw; (try dsimp only at hSw); obtain ⟨hA, hB⟩ := hSw; go_simp; try with_reducible rfl
              simp only [Act.put, List.setIfInBounds_toArray, List.set_cons_zero, List.set_cons_succ]
              refine wpAnyH_take (i := 5) (v := ?v162) rfl (by kernel_rfl) (by kernel_rfl) (by kernel_rfl) (fun _ _ _ h => h) (Or.inl ⟨by kernel_rfl, ?h162⟩) hHeld ?r162
              case h162 => intro W hSw; (try dsimp only at hSw); obtain ⟨hA, hB⟩ := hSw; go_simp; try with_reducible rfl
              simp only [Act.put, List.setIfInBounds_toArray, List.set_cons_zero, List.set_cons_succ]
              refine wpAnyH_take (i := 6) (v := ?v163) rfl (by kernel_rfl) (by kernel_rfl) (by kernel_rfl) (fun _ _ _ h => h) (Or.inl ⟨by kernel_rfl, ?h163⟩) hHeld ?r163
              case h163 => intro W hSw; (try dsimp only at hSw); obtain ⟨hA, hB⟩ := hSw; go_simp; try with_reducible rfl
              simp only [Act.put, List.setIfInBounds_toArray, List.set_cons_zero, List.set_cons_succ]
              refine wpAnyH_take (i := 7) (v := ?v164) rfl (by kernel_rfl) (by kernel_rfl) (by kernel_rfl) (fun _ _ _ h => h) (Or.inl ⟨by kernel_rfl, ?h164⟩) hHeld ?r164
              case h164 => intro W hSw; (try dsimp only at hSw); obtain ⟨hA, hB⟩ := hSw; go_simp; try with_reducible rfl
              simp only [Act.put, List.setIfInBounds_toArray, List.set_cons_zero, List.set_cons_succ]
              refine wpAnyH_take (i := 8) (v := ?v165) rfl (by kernel_rfl) (by kernel_rfl) (by kernel_rfl) (fun _ _ _ h => h) (Or.inl ⟨by kernel_rfl, ?h165⟩) hHeld ?r165
              case h165 => intro W hSw; (try dsimp only at hSw); obtain ⟨hA, hB⟩ := hSw; go_simp; try with_reducible rfl
              simp only [Act.put, List.setIfInBounds_toArray, List.set_cons_zero, List.set_cons_succ]
              refine wpAnyH_take (i := 9) (v := ?v166) rfl (by kernel_rfl) (by kernel_rfl) (by kernel_rfl) (fun _ _ _ h => h) (Or.inl ⟨by kernel_rfl, ?h166⟩) hHeld ?r166
              case h166 => intro W hSw; (try dsimp only at hSw); obtain ⟨hA, hB⟩ := hSw; go_simp; try with_reducible rfl
              simp only [Act.put, List.setIfInBounds_toArray, List.set_cons_zero, List.set_cons_succ]
              refine wpAnyH_take (i := 10) (v := ?v167) rfl (by kernel_rfl) (by kernel_rfl) (by kernel_rfl) (fun _ _ _ h => h) (Or.inl ⟨by kernel_rfl, ?h167⟩) hHeld ?r167
              case h167 => intro W hSw; (try dsimp only at hSw); obtain ⟨hA, hB⟩ := hSw; go_simp; try with_reducible rfl
              simp only [Act.put, List.setIfInBounds_toArray, List.set_cons_zero, List.set_cons_succ]
              refine wpAnyH_take (i := 11) (v := ?v168) rfl (by kernel_rfl) (by kernel_rfl) (by kernel_rfl) (fun _ _ _ h => h) (Or.inl ⟨by kernel_rfl, ?h168⟩) hHeld ?r168
              case h168 => intro W hSw; (try dsimp only at hSw); obtain ⟨hA, hB⟩ := hSw; go_simp; try with_reducible rfl
              simp only [Act.put, List.setIfInBounds_toArray, List.set_cons_zero, List.set_cons_succ]
              refine wpAnyH_ready (rs := [12]) (by kernel_rfl) (by simp) ?_
              refine AllReadyH.cons rfl (fun K hK => ?_) AllReadyH.nil
              go_simp
              refine hK.out _ _ (⟨y1, y2⟩) (fun hHeld => ?_)
              clear hK K
              (try simp only [Act.put, List.setIfInBounds_toArray, List.set_cons_zero, List.set_cons_succ])
              refine wpAnyH_done (by kernel_rfl) ?_ _
              go_wp2_with fail
              go_roundw
              case rel => exact ⟨k + 1, F, (putW S D A), by omega, by go_num, by assumption, by assumption, hid ⟨by assumption, by assumption⟩, O5.out, HQ3.out, T5.out, S5.out, B5.out⟩
              case measure => simp [intOf]; omega
        · have hDi : ((wwD F S).length : Int) = 2560 := by omega
          have hDb := ww_bytes hFb hSb
          have hDn : (wwD F S).length ≤ 140737488351232 := by omega
          have h512 : 512 ≤ (wwD F S).length := by omega
          have cga := fun W r => w_plget21 (.slice da (wwD F S).length dq) (wwD F S) ⟨#[97]⟩ 0 1024 W r hDb hDn (by decide) (by decide) (by decide) (by decide) (by decide)
          have cgb := fun W r => w_plget21 (.slice da (wwD F S).length dq) (wwD F S) ⟨#[98]⟩ 0 512 W r hDb hDn (by decide) (by decide) (by decide) (by decide) (by decide)
          simp only [show LB ⟨#[97]⟩ = [97] from rfl] at cga
          simp only [show LB ⟨#[98]⟩ = [98] from rfl] at cgb
          rw [ww_geta hF hS] at cga
          rw [ww_getb hF hS] at cgb
          simp only at cga cgb
          have cr := fun (j : Nat) (j1 : 1 ≤ j) (j5 : j < 5) W r => w_pread20 (.slice da (wwD F S).length dq) (wwD F S) (j : Int) W r hDn (by omega) (by omega)
          have crd := fun (j : Nat) (j1 : 1 ≤ j) (j5 : j < 5) => ww_rd hF hS j j1 j5
          have rv := (Rd_own hO).1
          obtain ⟨vh, rh, -, sh, -⟩ := rd_cutI rv uB zB 0 512 (by omega) (by omega) (by omega)
          have sh := sh rfl
          rw [show ((wwD F S).drop (0 : Int).toNat).take ((512 : Int) - 0).toNat = (wwD F S).take 512 from rfl, ww_head] at rh
          have cp := fun W r => w_pparse21 vh wwL W r (lbF_bytes rfl ww_u32) (by rw [ww_len]; omega)
          rw [ww_ps] at cp
          simp only at cp
          have rdF : ∀ W, Stands W g9 (ArA .u8 F) 5 → Rd .u8 W (.slice (some ⟨g9, 0, none⟩) 1024 1024) F := fun W hW => Or.inr ⟨g9, 0, 1024, by rw [hF], by omega, by omega, by decide, fun i hi => by rw [Nat.zero_add]; exact hW.cell i _ (ara_at i hi)⟩
          have rdS : ∀ W, Stands W g10 (ArA .u8 S) 5 → Rd .u8 W (.slice (some ⟨g10, 0, none⟩) 512 512) S := fun W hW => Or.inr ⟨g10, 0, 512, by rw [hS], by omega, by omega, by decide, fun i hi => by rw [Nat.zero_add]; exact hW.cell i _ (ara_at i hi)⟩
          have hFl := hid hF
          have hSl := hid hS
          have HFS := hid (show (F ++ S).length = 1536 by rw [List.length_append]; omega)
          have CV := hid (fun (W : World) (vv : Value) (L : List Int) (g : Rd .u8 W vv L) => rd_str (P := Try.prog) g (src := 23) (dst := 9) Try.underlying23 Try.underlying5 Try.underlying9)
          have hFi : F.length ≤ 1024 := by omega
          have hSi : S.length ≤ 512 := by omega
          have z := zeroL.1
          obtain ⟨Zp, hZp⟩ : ∃ Z, ArA .u32 (List.replicate 16 0) = Z := ⟨_, rfl⟩
          rw [hZp] at z
          have zps : Zp.size = 16 := by rw [← hZp, ara_size, List.length_replicate]
          have hpz : (ArA .u32 wwP).size = 16 := by rw [ara_size]; rfl
          have hrun := fun W : World => run_storeCells_new (P := Try.prog) W 30 Zp (ArA .u32 wwP) (by rw [hpz]; exact szL) (by rw [hpz, zps]) (ara_one _ _)
          have HR := hid hrun
          obtain ⟨PA, hPA⟩ : ∃ PA, ArA .u32 wwP = PA := ⟨_, rfl⟩
          rw [hPA] at HR
          simp only [hPA] at cp hpz
          have CP := hid cp
          have CR := hid cr
          have CD := hid crd
          have RH := hid rh
          have Hs9 := hid hs9
          have Hs10 := hid hs10
          have RF := hid rdF
          have RS := hid rdS
          have RV := hid rv
          clear hDl hF hS hrun cp cr crd hZp hPA hs9 hs10 rdF rdS rh hO hQ
          go_upto_region 24 with (go_at_call 7; refine (cga _ rv).mono ?_; rintro e q1 ⟨v1', rfl, o1', b1'⟩)
          have n1' := (Rd_own o1').1
          go_upto_region 25 with (go_at_call 7; refine (cgb _ (rv.below b1')).mono ?_; rintro e q2 ⟨v2', rfl, o2', b2'⟩)
          have n2' := (Rd_own o2').1
          have b12' := below_trans b1' b2'
          have rb1 := RF.out q2 (Hs9.out.below b12')
          have kb := box_below q2 (.cells #[] 5)
          have rb1 := rb1.below kb
          have oN : (q2.alloc (.cells #[] 5)).ownsRow q2.heap.size 5 1 (.slice (some ⟨q2.heap.size, 0, none⟩) 0 0) ([] : List Int).length (([] : List Int).map (Value.int .u8)) := World.ownsRow_made q2 #[] 0 (Nat.le_refl _) (Nat.zero_le _) rfl
          have hx1 : ([] : List Int).length + F.length ≤ maxLen := by
            rw [List.length_nil]
            unfold maxLen
            omega
          have hx2 : (([] : List Int).length + F.length) * 1 ≤ 140737488355328 := by
            rw [List.length_nil]
            omega
          have hx3 : q2.heap.size ≤ (q2.alloc (.cells #[] 5)).heap.size := by
            rw [size_al]
            omega
          have hx4 : ∀ q, (Value.slice (some ⟨q2.heap.size, 0, none⟩) 0 0).ownBlock = some q → q2.heap.size ≤ q := by
            intro q hq
            have hq2 : q2.heap.size = q := Option.some.inj hq
            omega
          clear cga cgb
          go_upto_region 27 with (first
            | (at_builtin; refine wpList_append_rd (k := .u8) rfl _ _ 23 rfl q2.heap.size 5 i0 1 Try.underlying23 hi hz0 hz1 hz2 v3' ([] ++ F) rfl o3' _ S rfl rb2 (by unfold maxLen; simp only [List.nil_append]; omega) (by simp only [List.nil_append]; omega) k3.size ?_; intro v4' q4 o4' g4'; have k4 := below_grown k3 g4' (fun q hq => (o3'.lt q hq).1))
            | (at_builtin; refine wpList_append_rd (k := .u8) rfl _ _ 23 rfl q2.heap.size 5 i0 1 Try.underlying23 hi hz0 hz1 hz2 _ [] rfl oN _ F rfl rb1 hx1 hx2 hx3 ?_; intro v3' q3 o3' g3'; have k3 := below_grown kb g3' hx4; have rb2 := RS.out q3 (Hs10.out.below (below_trans b12' k3))))
          have o4' : Own8 q2.heap.size q4 v4' (F ++ S) := o4'
          have w3f := rd_cutI (Rd_own o4').1 uB zB
          have BB := hid (below_trans hg (below_trans b12' k4))
          have HK := hid (below_trans b12' k4)
          clear o3' g3' g4' rb1 rb2 k3 kb oN hx1 hx2 hx3 hx4
          have rdZ : ∀ p : World, Rd .u8 (p.alloc (.cells (ArA .u8 Z2) 5)) (.slice (some ⟨p.heap.size, 0, none⟩) 512 512) Z2 := fun p => Or.inr ⟨p.heap.size, 0, 512, by rw [HB.out.2.1], by have := HB.out.2.1; omega, by have := HB.out.2.1; omega, by decide, fun i hi => by rw [Nat.zero_add]; exact (stands_new p (ArA .u8 Z2) 5).cell i _ (ara_at i hi)⟩
          go_loopw [21] (fun I wx => ∃ j : Nat, 1 ≤ j ∧ j ≤ 5 ∧ I = .int .i64 j ∧ Below q4.heap.size q4 wx) (fun I _ => (5 - intOf I).toNat)
          case atStart => exact ⟨1, by omega, by omega, rfl, Below.refl _ _⟩
          case round =>
            obtain ⟨j, j1, j5, rfl, hgj⟩ := hrel
            have bj := below_trans HK.out hgj
            by_cases hj5 : j < 5
            · have hj5' : (j : Int) < 5 := by omega
              have crj := fun W r => CR.out j j1 hj5 W r
              rw [CD.out j j1 hj5] at crj
              simp only at crj
              by_cases hj4 : j < 4
              · have hj4' : (j : Int) < 4 := by omega
                rw [if_pos hj4] at crj
                have wr1 : IntKind.i64.wrap (512 * ((j : Int) - 1)) = 512 * ((j : Int) - 1) := by rw [IntKind.wrap_i64]; omega
                have wr2 : IntKind.i64.wrap (512 * (j : Int)) = 512 * (j : Int) := by rw [IntKind.wrap_i64]; omega
                have wr3 : IntKind.i64.wrap ((j : Int) - 1) = (j : Int) - 1 := by rw [IntKind.wrap_i64]; omega
                obtain ⟨vw, rw', sw, -, -⟩ := w3f (512 * ((j : Int) - 1)) (512 * (j : Int)) (by omega) (by omega) (by rw [HFS.out]; omega)
                rw [show (512 * ((j : Int) - 1)).toNat = 512 * (j - 1) by omega, show (512 * (j : Int) - 512 * ((j : Int) - 1)).toNat = 512 by omega] at rw'
                obtain ⟨L, hL⟩ : ∃ L, ((F ++ S).drop (512 * (j - 1))).take 512 = L := ⟨_, rfl⟩
                simp only [hL] at crj
                rw [hL] at rw'
                clear hL
                go_wp2_with (go_at_call 8; refine (crj _ (RV.out.below bj)).mono ?_; rintro e p1 ⟨u1, rfl, ou, bu⟩; have cv1 := CV.out _ u1 L (((Rd_own ou).1).below (box_below p1 (.cells (ArA .u8 Z2) 5))); have cv2 := CV.out _ vw L (((rw'.below hgj).below bu).below (box_below p1 (.cells (ArA .u8 Z2) 5))))
                go_roundw
                case rel => exact ⟨j + 1, by omega, by omega, by go_num, below_trans hgj (below_trans bu (box_below p1 (.cells (ArA .u8 Z2) 5)))⟩
                case measure => simp [intOf]; omega
              · have hj4' : ¬ (j : Int) < 4 := by omega
                rw [if_neg hj4, HB.out.2.2.2.2] at crj
                have hj4e : j = 4 := by omega
                subst hj4e
                go_upto_region 30 with (go_at_call 8; refine (crj _ (RV.out.below bj)).mono ?_; rintro e p1 ⟨u1, rfl, ou, bu⟩)
                have cv1 := CV.out _ u1 Z2 (((Rd_own ou).1).below (box_below p1 (.cells (ArA .u8 Z2) 5)))
                have cv2 := CV.out _ _ Z2 (rdZ p1)
                have kx := below_trans hgj (below_trans bu (box_below p1 (.cells (ArA .u8 Z2) 5)))
                go_upto_region 31 with fail
                generalize p1.alloc (.cells (ArA .u8 Z2) 5) = p2 at cv1 cv2 kx ⊢
                have KX := hid kx
                clear ou bu kx rdZ crj
                generalize hgz : Value.slice (some ⟨p1.heap.size, 0, none⟩) 512 512 = gz at cv2 ⊢
                clear hgz
                go_wp2_with fail
                go_roundw
                case rel => exact ⟨5, by omega, by omega, by go_num, KX.out⟩
                case measure => simp [intOf]
            · have hj5' : ¬ (j : Int) < 5 := by omega
              have cp := CP.out
              go_upto_region 36 with (go_at_call 9; refine (cp _ (RH.out.below bj)).mono ?_; rintro e p1 ⟨rfl, bp⟩; have hs5 := HR.out p1; have kp := below_trans (below_trans hgj bp) (box_below p1 (.cells PA 30)); have cw1 := CV.out _ v1' F (((n1'.below b2').below k4).below kp); have cw2 := CV.out _ v2' S ((n2'.below k4).below kp); have cw3 := CV.out _ _ F (RF.out _ (Hs9.out.below (below_trans HK.out kp))); have cw4 := CV.out _ _ S (RS.out _ (Hs10.out.below (below_trans HK.out kp))))
              have FF := hid (below_trans BB.out kp)
              clear hs5 cp
              go_wp2_with fail
              go_ret
              exact ⟨ret_b (by simp), FF.out⟩

end Go.Proofs.Ytnaoefjcfmdenab
