/-
  Texts of one proof, laid one behind the other: Bru.
-/
import Derived.Test.YtcffaojpmdhdoaaB4
import Derived.Deep.RegionHeld2
import Derived.Deep.RegionWith
namespace Go.Proofs.Ytcffaojpmdhdoaa
open Go.ChangeShapes Go.WideShapes Go.ChangeAt Go.RowKit
set_option linter.unusedVariables false
set_option linter.unusedSimpArgs false

/-
  The law BlockRuns.
-/
set_option maxHeartbeats 4000000 in
set_option maxRecDepth 100000 in
theorem w_lawRuns (a0 : Int) (v1 : Value) (x1 : List (Int × List Int)) (p0 p1 : Int) (w : World) (h0 : 0 ≤ a0 ∧ a0 < 256) (r1 : SlR 2 deR w v1 x1) (g1 : ∀ x ∈ x1, gDe x) (n0 : -9223372036854775808 ≤ p0 ∧ p0 < 9223372036854775808) (n1 : -9223372036854775808 ≤ p1 ∧ p1 < 9223372036854775808) :
    Calls Try.prog 7 #[.int .u8 a0, v1, .agg #[.int .i64 p0, .int .i64 p1]] w fun e w' => e = .returned (.bool true) ∧ Below w.heap.size w w' := by
  have BZ := box_below w (.cells #[.int .i64 p0, .int .i64 p1] 38)
  have cZ0 := box_cell w #[.int .i64 p0, .int .i64 p1] 38 0 (.int .i64 p0) rfl
  have cZ1 := box_cell w #[.int .i64 p0, .int .i64 p1] 38 1 (.int .i64 p1) rfl
  have hl1 := slr_len r1 uDe (P := Try.prog)
  have tS : a0.tmod 8 = a0 % 8 := Int.tmod_eq_emod_of_nonneg h0.1
  obtain ⟨S, hS⟩ : ∃ S, a0 % 8 = S := ⟨_, rfl⟩
  have hSb : 0 ≤ S ∧ S < 8 := by omega
  rw [hS] at tS
  clear hS
  obtain ⟨h00, h01⟩ := h0
  obtain ⟨S0, S1⟩ := hSb
  by_cases hm : (60 : Int) < x1.length
  · go_enter Try.func7, Try.ntmps7
    go_wp2_with (go_at_call 8; refine (w_alive20 _).mono ?_; rintro e q1 ⟨rfl, b1⟩)
    go_ret
    exact ⟨rfl, below_trans BZ b1⟩
  · obtain ⟨n, hn⟩ : ∃ n : Nat, 512 * S = n := ⟨(512 * S).toNat, by omega⟩
    have hnn : n % 512 = 0 ∧ n ≤ 3584 := by omega
    have hmk : ∀ w, (Instr.makeSlice 22 (.int .i64 (512 * S)) (.int .i64 (512 * S))).run Try.prog w = .ok (.slice (some ⟨w.heap.size, 0, none⟩) n n) (w.alloc (.cells (madeCells #[.int .u8 0] n) 5)) := fun w => mk_zero (512 * S) n hn (by omega) w
    have hoz := fun w => own_zero n (by unfold maxLen; omega) w
    have hbx := fun w : World => box_below w (.cells (madeCells #[.int .u8 0] n) 5)
    have hzb := zero_bytes n
    have hzl : (List.replicate n (0 : Int)).length = n := List.length_replicate ..
    obtain ⟨Z, hZ⟩ : ∃ Z, List.replicate n (0 : Int) = Z := ⟨_, rfl⟩
    simp only [hZ] at hoz
    rw [hZ] at hzb hzl
    obtain ⟨M, hM⟩ : ∃ M, madeCells #[.int .u8 0] n = M := ⟨_, rfl⟩
    simp only [hM] at hmk hoz hbx
    have HN := hid hn
    have HZ := hid hzl
    clear hM hZ hn hzl
    go_enter Try.func7, Try.ntmps7
    go_upto_region 1 with fail
    have r1' := r1.below BZ (deR_below BZ)
    generalize (w.alloc (Obj.cells #[Value.int IntKind.i64 p0, Value.int IntKind.i64 p1] 38)) = W0 at BZ cZ0 cZ1 r1' ⊢
    go_upto_region 7 with (first
      | (go_at_call 8; refine (w_alive20 _).mono ?_; rintro e q1 ⟨rfl, b1⟩; have oz := hoz q1; have bz := below_trans b1 (hbx q1); have bz1 := hbx q1)
      | (go_at_call 9; refine (w_rcopy _ Z _ (Rd_own oz).1 (by have := HZ.out; omega)).mono ?_; rintro e q2 ⟨v3, rfl, o3, b2⟩)
      | fail)
    have hsep : Z ≠ [] → (Value.slice (some ⟨q1.heap.size, 0, none⟩) n n).ownBlock ≠ v3.ownBlock := by
      intro hz he
      have h1 : v3.ownBlock = some q1.heap.size := he.symm
      have h2 := (own8_lt o3 h1 hz).1
      rw [size_al] at h2
      omega
    have oz2 : Own8 W0.heap.size q2 _ Z := own8_base (own8_below oz b2) b1.size
    have om2 : Own8 W0.heap.size q2 v3 Z := own8_base o3 (by rw [size_al]; have := b1.size; omega)
    have b02 := below_trans bz b2
    have hdk : ∀ D : List Int, D.length = n → dkB D = true := fun D hD => by unfold dkB; rw [hD, decide_eq_true hnn.1, decide_eq_true (by omega)]; rfl
    have HK := hid hdk
    have hN2 : n ≤ 3584 := hnn.2
    clear hmk hoz hbx bz bz1 oz o3 b1 b2 tS hdk hnn
    go_wp2_with fail
    go_loopw [7, 9] (fun V I wx => ∃ (k : Nat) (D : List Int), k ≤ x1.length ∧ I = .int .i64 k ∧ Hid (D.length = n) ∧ bytesL D ∧ Own8 W0.heap.size wx V D ∧ Own8 W0.heap.size wx v3 D ∧ (D ≠ [] → V.ownBlock ≠ v3.ownBlock) ∧ Below W0.heap.size W0 wx) (fun _ I _ => (x1.length - intOf I).toNat)
    case atStart => exact ⟨0, Z, by omega, rfl, HZ, hzb, oz2, om2, hsep, b02⟩
    case round =>
      obtain ⟨k, D, hk, rfl, hD, hDb, oV, oM, hsp, hg⟩ := hrel
      by_cases hlt : (k : Int) < x1.length
      · obtain ⟨db, dof, A, c, B, ri, e0, e1, rB, gA, gB, gL⟩ := de_at r1' g1 k (by omega)
        have E0 := hid (fun W (h : Below W0.heap.size W0 W) => below_cell h e0)
        have E1 := hid (fun W (h : Below W0.heap.size W0 W) => below_cell h e1)
        have c1 := fun vd w h rb => w_pput20 vd c D B A w h rb (by have := hD.out; omega) gA.1 gA.2
        have c2 := fun w h => w_rin20 v3 D A B.length w h (by have := hD.out; omega)
        have ePt : dkPt D A B = if dkI D.length A B.length = true then (D.take A.toNat ++ B ++ D.drop (A.toNat + B.length), 0) else ([], 23) := by unfold dkPt; rw [if_pos (HK.out D hD.out)]
        rw [ePt] at c1
        have eI : dkI D.length A B.length = decide (0 ≤ A ∧ A ≤ (D.length : Int) ∧ 0 ≤ (B.length : Int) ∧ (B.length : Int) ≤ (D.length : Int) - A) := rfl
        clear ePt
        have HS : Hid (∀ W, Below wr.heap.size wr W → (W.cell? ⟨db, dof, none⟩ = some (.int .i64 A) ∧ W.cell? ⟨db, dof + 1, none⟩ = some c)) := fun W g => ⟨E0.out _ (below_trans hg g), E1.out _ (below_trans hg g)⟩
        have hrd : Hid (Below wr.heap.size wr wr.drew) := below_drewN (Below.refl _ _) 1
        have RV := hid (Rd_own oV).1
        have RB := hid (rB.below hg)
        have hlB := rd_len rB uB (P := Try.prog)
        have OM := hid oM
        have OV := hid oV
        have SP := hid hsp
        have DB := hid hDb
        have HG := hid hg
        clear oV oM hsp hDb e0 e1
        by_cases hin : dkI D.length A B.length = true
        · rw [if_pos hin] at c1
          rw [hin] at c2
          rw [eI, decide_eq_true_eq] at hin
          obtain ⟨j1, j2, j3, j4⟩ := hin
          simp only at c1
          clear eI
          have F0 := hid (putK_0 D B A.toNat (by omega))
          have FS : ∀ p, p < B.length → Hid (putK D B A.toNat (p + 1) = (putK D B A.toNat p).set (A.toNat + p) (B.getD p 0)) := fun p hp => putK_step D B A.toNat p (by omega) hp
          have FL : ∀ p, Hid ((putK D B A.toNat p).length = D.length) := fun p => putK_len D B A.toNat p (by omega)
          have FB : ∀ p, Hid (bytesL (putK D B A.toNat p)) := fun p => putK_bytes DB.out gB A.toNat p
          rw [← putK_all] at c1
          obtain ⟨F, hF⟩ : ∃ F : Nat → List Int, (fun p => putK D B A.toNat p) = F := ⟨_, rfl⟩
          have hF2 : ∀ p, putK D B A.toNat p = F p := fun p => by rw [← hF]
          simp only [hF2] at c1 F0 FS FL FB
          have C1 := hid c1
          have C2 := hid c2
          clear hF hF2 c1 c2
          go_upto_region 10 with fail
          refine wp_region_held_drew (S := fun W => W.cell? ⟨db, dof, none⟩ = some (.int .i64 A) ∧ W.cell? ⟨db, dof + 1, none⟩ = some c) (by kernel_rfl) (HS.out _ hrd.out) (fun hHeld => ?_)
          refine wpAnyH_take (i := 0) (v := ?v1) rfl (by kernel_rfl) (by kernel_rfl) (by kernel_rfl) (fun _ _ _ h => h) (Or.inl ⟨by kernel_rfl, ?h1⟩) hHeld ?r1
          case h1 => intro W hSw; (try dsimp only at hSw); obtain ⟨z1, z2⟩ := hSw; go_simp; try with_reducible rfl
          simp only [Act.put, List.setIfInBounds_toArray, List.set_cons_zero, List.set_cons_succ]
          refine wpAnyH_take (i := 1) (v := ?v2) rfl (by kernel_rfl) (by kernel_rfl) (by kernel_rfl) (fun _ _ _ h => h) (Or.inl ⟨by kernel_rfl, ?h2⟩) hHeld ?r2
          case h2 => intro W hSw; (try dsimp only at hSw); obtain ⟨z1, z2⟩ := hSw; go_simp; try with_reducible rfl
          simp only [Act.put, List.setIfInBounds_toArray, List.set_cons_zero, List.set_cons_succ]
          refine wpAnyH_take (i := 2) (v := ?v3) rfl (by kernel_rfl) (by kernel_rfl) (by kernel_rfl) (fun _ _ _ h => h) (Or.inl ⟨by kernel_rfl, ?h3⟩) hHeld ?r3
          case h3 => intro W hSw; (try dsimp only at hSw); obtain ⟨z1, z2⟩ := hSw; go_simp; try with_reducible rfl
          simp only [Act.put, List.setIfInBounds_toArray, List.set_cons_zero, List.set_cons_succ]
          refine wpAnyH_take (i := 3) (v := ?v4) rfl (by kernel_rfl) (by kernel_rfl) (by kernel_rfl) (fun _ _ _ h => h) (Or.inl ⟨by kernel_rfl, ?h4⟩) hHeld ?r4
          case h4 => intro W hSw; (try dsimp only at hSw); obtain ⟨z1, z2⟩ := hSw; go_simp; try with_reducible rfl
          simp only [Act.put, List.setIfInBounds_toArray, List.set_cons_zero, List.set_cons_succ]
          refine wpAnyH_take (i := 4) (v := ?v5) rfl (by kernel_rfl) (by kernel_rfl) (by kernel_rfl) (fun _ _ _ h => h) (Or.inl ⟨by kernel_rfl, ?h5⟩) hHeld ?r5
          case h5 => intro W hSw; (try dsimp only at hSw); obtain ⟨z1, z2⟩ := hSw; go_simp; try with_reducible rfl
          simp only [Act.put, List.setIfInBounds_toArray, List.set_cons_zero, List.set_cons_succ]
          refine wpAnyH_take (i := 5) (v := ?v6) rfl (by kernel_rfl) (by kernel_rfl) (by kernel_rfl) (fun _ _ _ h => h) (Or.inl ⟨by kernel_rfl, ?h6⟩) hHeld ?r6
          case h6 => intro W hSw; (try dsimp only at hSw); obtain ⟨z1, z2⟩ := hSw; go_simp; try with_reducible rfl
          simp only [Act.put, List.setIfInBounds_toArray, List.set_cons_zero, List.set_cons_succ]
          refine wpAnyH_take (i := 6) (v := ?v7) rfl (by kernel_rfl) (by kernel_rfl) (by kernel_rfl) (fun _ _ _ h => h) (Or.inl ⟨by kernel_rfl, ?h7⟩) hHeld ?r7
          case h7 => intro W hSw; (try dsimp only at hSw); obtain ⟨z1, z2⟩ := hSw; go_simp; try with_reducible rfl
          simp only [Act.put, List.setIfInBounds_toArray, List.set_cons_zero, List.set_cons_succ]
          refine wpAnyH_take (i := 7) (v := ?v8) rfl (by kernel_rfl) (by kernel_rfl) (by kernel_rfl) (fun _ _ _ h => h) (Or.inl ⟨by kernel_rfl, ?h8⟩) hHeld ?r8
          case h8 => intro W hSw; (try dsimp only at hSw); obtain ⟨z1, z2⟩ := hSw; go_simp; try with_reducible rfl
          simp only [Act.put, List.setIfInBounds_toArray, List.set_cons_zero, List.set_cons_succ]
          refine wpAnyH_take (i := 8) (v := ?v9) rfl (by kernel_rfl) (by kernel_rfl) (by kernel_rfl) (fun _ _ _ h => h) (Or.inl ⟨by kernel_rfl, ?h9⟩) hHeld ?r9
          case h9 => intro W hSw; (try dsimp only at hSw); obtain ⟨z1, z2⟩ := hSw; go_simp; try with_reducible rfl
          simp only [Act.put, List.setIfInBounds_toArray, List.set_cons_zero, List.set_cons_succ]
          refine wpAnyH_take (i := 9) (v := ?v10) rfl (by kernel_rfl) (by kernel_rfl) (by kernel_rfl) (fun _ _ _ h => h) (Or.inl ⟨by kernel_rfl, ?h10⟩) hHeld ?r10
          case h10 => intro W hSw; (try dsimp only at hSw); obtain ⟨z1, z2⟩ := hSw; go_simp; try with_reducible rfl
          simp only [Act.put, List.setIfInBounds_toArray, List.set_cons_zero, List.set_cons_succ]
          refine wpAnyH_take (i := 10) (v := ?v11) rfl (by kernel_rfl) (by kernel_rfl) (by kernel_rfl) (fun _ _ _ h => h) (Or.inl ⟨by kernel_rfl, ?h11⟩) hHeld ?r11
          case h11 => intro W hSw; (try dsimp only at hSw); obtain ⟨z1, z2⟩ := hSw; go_simp; try with_reducible rfl
          simp only [Act.put, List.setIfInBounds_toArray, List.set_cons_zero, List.set_cons_succ]
          refine wpAnyH_ready (rs := [11]) (by kernel_rfl) (by simp) ?_
          refine AllReadyH.cons rfl (fun K hK => ?_) AllReadyH.nil
          go_simp
          go_wp2_with (first | (go_at_call 21; refine (C1.out _ _ (RV.out.below hrd.out) (RB.out.below hrd.out)).mono ?_; rintro e w9 ⟨v9, rfl, o9, b9⟩; have R9 : Hid (Below wr.heap.size wr w9) := below_trans hrd.out b9))
          refine hK.out _ _ (HS.out _ R9.out) (fun hHeld => ?_)
          clear hK K
          (try simp only [Act.put, List.setIfInBounds_toArray, List.set_cons_zero, List.set_cons_succ])
          refine wpAnyH_take (i := 12) (v := ?v12) rfl (by kernel_rfl) (by kernel_rfl) (by kernel_rfl) (fun _ _ _ h => h) (Or.inl ⟨by kernel_rfl, ?h12⟩) hHeld ?r12
          case h12 => intro W hSw; (try dsimp only at hSw); obtain ⟨z1, z2⟩ := hSw; go_simp; try with_reducible rfl
          simp only [Act.put, List.setIfInBounds_toArray, List.set_cons_zero, List.set_cons_succ]
          refine wpAnyH_take (i := 13) (v := ?v13) rfl (by kernel_rfl) (by kernel_rfl) (by kernel_rfl) (fun _ _ _ h => h) (Or.inl ⟨by kernel_rfl, ?h13⟩) hHeld ?r13
          case h13 => intro W hSw; (try dsimp only at hSw); obtain ⟨z1, z2⟩ := hSw; go_simp; try with_reducible rfl
          simp only [Act.put, List.setIfInBounds_toArray, List.set_cons_zero, List.set_cons_succ]
          refine wpAnyH_take (i := 14) (v := ?v14) rfl (by kernel_rfl) (by kernel_rfl) (by kernel_rfl) (fun _ _ _ h => h) (Or.inl ⟨by kernel_rfl, ?h14⟩) hHeld ?r14
          case h14 => intro W hSw; (try dsimp only at hSw); obtain ⟨z1, z2⟩ := hSw; go_simp; try with_reducible rfl
          simp only [Act.put, List.setIfInBounds_toArray, List.set_cons_zero, List.set_cons_succ]
          refine wpAnyH_ready (rs := [15]) (by kernel_rfl) (by simp) ?_
          refine AllReadyH.cons rfl (fun K hK => ?_) AllReadyH.nil
          go_simp
          refine hK.out _ _ (HS.out _ R9.out) (fun hHeld => ?_)
          clear hK K
          (try simp only [Act.put, List.setIfInBounds_toArray, List.set_cons_zero, List.set_cons_succ])
          refine wpAnyH_ready (rs := [16]) (by kernel_rfl) (by simp) ?_
          refine AllReadyH.cons rfl (fun K hK => ?_) AllReadyH.nil
          go_simp
          refine hK.out _ _ (HS.out _ R9.out) (fun hHeld => ?_)
          clear hK K
          (try simp only [Act.put, List.setIfInBounds_toArray, List.set_cons_zero, List.set_cons_succ])
          refine wpAnyH_done (by kernel_rfl) ?_ _
          have hg9 := below_trans HG.out R9.out
          have oM9 := own8_below OM.out R9.out
          have o9b : Own8 W0.heap.size w9 v9 (F B.length) := own8_base o9 (by have := HG.out.size; have := hrd.out.size; omega)
          have sp9 : Hid (F B.length ≠ [] → v9.ownBlock ≠ v3.ownBlock) := by
            intro hne he
            cases hb : v9.ownBlock with
            | none =>
              rcases o9.2 with ⟨_, hz⟩ | ⟨gb, cap, cur, rfl, _⟩
              · exact hne (List.eq_nil_of_length_eq_zero hz)
              · simp [Value.ownBlock] at hb
            | some g =>
              have h1 := (own8_lt o9 hb hne).1
              have hDn : D ≠ [] := by
                intro hd
                have := (FL B.length).out
                rw [hd] at this
                exact hne (List.eq_nil_of_length_eq_zero this)
              have h2 := (own8_lt OM.out (he.symm.trans hb) hDn).2
              have h3 := hrd.out.size
              omega
          have e09 := E0.out _ hg9
          have e19 := E1.out _ hg9
          have C2' := fun n => C2.out (w9.drewN n) ((Rd_own oM9).1.below (below_drewN (Below.refl _ _) n))
          clear HS hrd RV RB
          go_wp2_with fail
          go_quiet ((go_at_call 23; exact Calls.quiet_of_same (C2' _)))
          go_wp2_with fail
          have F0' : F 0 = D := F0.out
          have hin9 : Own8 W0.heap.size w9 v3 (F 0) := by rw [F0']; exact oM9
          have hd9 := below_drewN (Below.refl w9.heap.size w9) nq
          have hq9 := below_trans hg9 hd9
          have oi9 := own8_below hin9 hd9
          have ov9 := own8_below o9b hd9
          clear F0' F0 hin9 oM9 o9b C2' C1 C2 e09 e19 o9 R9 b9 OM OV SP hg9 hd9 HG
          generalize (w9.drewN nq) = W9 at hq9 oi9 ov9 ⊢
          obtain ⟨Rr, hRr⟩ : ∃ Rr, F B.length = Rr := ⟨_, rfl⟩
          have HR : Hid (F B.length = Rr) := hRr
          rw [hRr] at ov9 sp9
          clear hRr
          go_loopw [12] (fun P wx => ∃ p : Nat, p ≤ B.length ∧ P = .int .i64 p ∧ Own8 W0.heap.size wx v9 Rr ∧ Own8 W0.heap.size wx v3 (F p) ∧ Below W0.heap.size W0 wx) (fun P _ => (B.length - intOf P).toNat)
          case atStart => exact ⟨0, by omega, rfl, ov9, oi9, hq9⟩
          case round =>
            obtain ⟨p, hp, rfl, ov, oi, hgi⟩ := hrel
            have e1' := E1.out _ hgi
            by_cases hpl : (p : Int) < B.length
            · have bd := below_drewN (Below.refl wr.heap.size wr) 1
              have bw : Below W0.heap.size W0 wr.drew := below_trans hgi bd
              have oid : Own8 W0.heap.size wr.drew v3 (F p) := own8_below oi bd
              have ovd : Own8 W0.heap.size wr.drew v9 Rr := own8_below ov bd
              obtain ⟨adb, Y, k1, k2, k3, k4, k5⟩ := mem_at (rB.below bw) gB (p : Int) (by omega) hpl
              obtain ⟨ad, s1, s2, s3, s4, s5, s6⟩ := own8_set oid (A + (p : Int)) (by omega) (by have := (FL p).out; omega)
              have s7 := s6 Y
              have bs := bw.setCell s4 (.int .u8 Y)
              have hst : Hid (F (p + 1) = (F p).set (A + (p : Int)).toNat Y) := by
                show _ = _
                rw [(FS p (by omega)).out, show (A + (p : Int)).toNat = A.toNat + p by omega, ← k5]
                rfl
              have ov7 : Own8 W0.heap.size (wr.drew.setCell ad (.int .u8 Y)) v9 Rr := by
                by_cases hne : Rr = []
                · rcases ovd.2 with ⟨h1, h2⟩ | ⟨gb, cap, cur, rfl, h2⟩
                  · exact ⟨ovd.1, Or.inl ⟨h1, h2⟩⟩
                  · exfalso
                    have h3 := (FL p).out
                    have h4 := (FL B.length).out
                    rw [HR.out, hne] at h4
                    simp only [List.length_nil] at h4
                    omega
                · exact ownsRow_setCell_other ovd (fun h => sp9.out hne (h.trans s5.symm)) _
              have e0d : wr.drew.cell? ⟨db, dof, none⟩ = some (.int .i64 A) := E0.out _ bw
              have e1d : wr.drew.cell? ⟨db, dof + 1, none⟩ = some c := E1.out _ bw
              have hwp : IntKind.i64.wrap (A + (p : Int)) = A + (p : Int) := by have := hD.out; rw [IntKind.wrap_i64]; omega
              clear s6 k5 sp9 ovd oid
              go_wp2_with fail
              go_region
              all_goals go_wp2_with fail
              all_goals go_roundw
              all_goals first
                | (case rel => exact ⟨p + 1, by omega, by go_num, ov7, by rw [hst.out]; exact s7, bs⟩)
                | (case measure => simp [intOf]; omega)
            · have hpe : p = B.length := by omega
              have FLB := (FL B.length).out
              rw [HR.out] at FLB
              have hnl : Hid (Rr.length = n) := hid (FLB.trans hD.out)
              have hRB : bytesL Rr := by rw [← HR.out]; exact (FB B.length).out
              have oi2 : Own8 W0.heap.size wr v3 Rr := by rw [hpe, HR.out] at oi; exact oi
              clear FLB hpe
              go_wp2_with fail
              go_roundw
              case rel => exact ⟨k + 1, Rr, by omega, by go_num, hnl, hRB, ov, oi2, sp9.out, hgi⟩
              case measure => simp [intOf]; omega
        · rw [if_neg hin] at c1
          rw [show dkI D.length A B.length = false by simpa using hin] at c2
          simp only at c1
          have C1 := hid c1
          have C2 := hid c2
          clear c1 c2 eI hin
          go_upto_region 10 with fail
          refine wp_region_held_drew (S := fun W => W.cell? ⟨db, dof, none⟩ = some (.int .i64 A) ∧ W.cell? ⟨db, dof + 1, none⟩ = some c) (by kernel_rfl) (HS.out _ hrd.out) (fun hHeld => ?_)
          refine wpAnyH_take (i := 0) (v := ?v15) rfl (by kernel_rfl) (by kernel_rfl) (by kernel_rfl) (fun _ _ _ h => h) (Or.inl ⟨by kernel_rfl, ?h15⟩) hHeld ?r15
          case h15 => intro W hSw; (try dsimp only at hSw); obtain ⟨z1, z2⟩ := hSw; go_simp; try with_reducible rfl
          simp only [Act.put, List.setIfInBounds_toArray, List.set_cons_zero, List.set_cons_succ]
          refine wpAnyH_take (i := 1) (v := ?v16) rfl (by kernel_rfl) (by kernel_rfl) (by kernel_rfl) (fun _ _ _ h => h) (Or.inl ⟨by kernel_rfl, ?h16⟩) hHeld ?r16
          case h16 => intro W hSw; (try dsimp only at hSw); obtain ⟨z1, z2⟩ := hSw; go_simp; try with_reducible rfl
          simp only [Act.put, List.setIfInBounds_toArray, List.set_cons_zero, List.set_cons_succ]
          refine wpAnyH_take (i := 2) (v := ?v17) rfl (by kernel_rfl) (by kernel_rfl) (by kernel_rfl) (fun _ _ _ h => h) (Or.inl ⟨by kernel_rfl, ?h17⟩) hHeld ?r17
          case h17 => intro W hSw; (try dsimp only at hSw); obtain ⟨z1, z2⟩ := hSw; go_simp; try with_reducible rfl
          simp only [Act.put, List.setIfInBounds_toArray, List.set_cons_zero, List.set_cons_succ]
          refine wpAnyH_take (i := 3) (v := ?v18) rfl (by kernel_rfl) (by kernel_rfl) (by kernel_rfl) (fun _ _ _ h => h) (Or.inl ⟨by kernel_rfl, ?h18⟩) hHeld ?r18
          case h18 => intro W hSw; (try dsimp only at hSw); obtain ⟨z1, z2⟩ := hSw; go_simp; try with_reducible rfl
          simp only [Act.put, List.setIfInBounds_toArray, List.set_cons_zero, List.set_cons_succ]
          refine wpAnyH_take (i := 4) (v := ?v19) rfl (by kernel_rfl) (by kernel_rfl) (by kernel_rfl) (fun _ _ _ h => h) (Or.inl ⟨by kernel_rfl, ?h19⟩) hHeld ?r19
          case h19 => intro W hSw; (try dsimp only at hSw); obtain ⟨z1, z2⟩ := hSw; go_simp; try with_reducible rfl
          simp only [Act.put, List.setIfInBounds_toArray, List.set_cons_zero, List.set_cons_succ]
          refine wpAnyH_take (i := 5) (v := ?v20) rfl (by kernel_rfl) (by kernel_rfl) (by kernel_rfl) (fun _ _ _ h => h) (Or.inl ⟨by kernel_rfl, ?h20⟩) hHeld ?r20
          case h20 => intro W hSw; (try dsimp only at hSw); obtain ⟨z1, z2⟩ := hSw; go_simp; try with_reducible rfl
          simp only [Act.put, List.setIfInBounds_toArray, List.set_cons_zero, List.set_cons_succ]
          refine wpAnyH_take (i := 6) (v := ?v21) rfl (by kernel_rfl) (by kernel_rfl) (by kernel_rfl) (fun _ _ _ h => h) (Or.inl ⟨by kernel_rfl, ?h21⟩) hHeld ?r21
          case h21 => intro W hSw; (try dsimp only at hSw); obtain ⟨z1, z2⟩ := hSw; go_simp; try with_reducible rfl
          simp only [Act.put, List.setIfInBounds_toArray, List.set_cons_zero, List.set_cons_succ]
          refine wpAnyH_take (i := 7) (v := ?v22) rfl (by kernel_rfl) (by kernel_rfl) (by kernel_rfl) (fun _ _ _ h => h) (Or.inl ⟨by kernel_rfl, ?h22⟩) hHeld ?r22
          case h22 => intro W hSw; (try dsimp only at hSw); obtain ⟨z1, z2⟩ := hSw; go_simp; try with_reducible rfl
          simp only [Act.put, List.setIfInBounds_toArray, List.set_cons_zero, List.set_cons_succ]
          refine wpAnyH_take (i := 8) (v := ?v23) rfl (by kernel_rfl) (by kernel_rfl) (by kernel_rfl) (fun _ _ _ h => h) (Or.inl ⟨by kernel_rfl, ?h23⟩) hHeld ?r23
          case h23 => intro W hSw; (try dsimp only at hSw); obtain ⟨z1, z2⟩ := hSw; go_simp; try with_reducible rfl
          simp only [Act.put, List.setIfInBounds_toArray, List.set_cons_zero, List.set_cons_succ]
          refine wpAnyH_take (i := 9) (v := ?v24) rfl (by kernel_rfl) (by kernel_rfl) (by kernel_rfl) (fun _ _ _ h => h) (Or.inl ⟨by kernel_rfl, ?h24⟩) hHeld ?r24
          case h24 => intro W hSw; (try dsimp only at hSw); obtain ⟨z1, z2⟩ := hSw; go_simp; try with_reducible rfl
          simp only [Act.put, List.setIfInBounds_toArray, List.set_cons_zero, List.set_cons_succ]
          refine wpAnyH_take (i := 10) (v := ?v25) rfl (by kernel_rfl) (by kernel_rfl) (by kernel_rfl) (fun _ _ _ h => h) (Or.inl ⟨by kernel_rfl, ?h25⟩) hHeld ?r25
          case h25 => intro W hSw; (try dsimp only at hSw); obtain ⟨z1, z2⟩ := hSw; go_simp; try with_reducible rfl
          simp only [Act.put, List.setIfInBounds_toArray, List.set_cons_zero, List.set_cons_succ]
          refine wpAnyH_ready (rs := [11]) (by kernel_rfl) (by simp) ?_
          refine AllReadyH.cons rfl (fun K hK => ?_) AllReadyH.nil
          go_simp
          go_wp2_with (first | (go_at_call 21; refine (C1.out _ _ (RV.out.below hrd.out) (RB.out.below hrd.out)).mono ?_; rintro e w9 ⟨v9, rfl, o9, b9⟩; have R9 : Hid (Below wr.heap.size wr w9) := below_trans hrd.out b9))
          refine hK.out _ _ (HS.out _ R9.out) (fun hHeld => ?_)
          clear hK K
          (try simp only [Act.put, List.setIfInBounds_toArray, List.set_cons_zero, List.set_cons_succ])
          refine wpAnyH_take (i := 12) (v := ?v26) rfl (by kernel_rfl) (by kernel_rfl) (by kernel_rfl) (fun _ _ _ h => h) (Or.inl ⟨by kernel_rfl, ?h26⟩) hHeld ?r26
          case h26 => intro W hSw; (try dsimp only at hSw); obtain ⟨z1, z2⟩ := hSw; go_simp; try with_reducible rfl
          simp only [Act.put, List.setIfInBounds_toArray, List.set_cons_zero, List.set_cons_succ]
          refine wpAnyH_take (i := 13) (v := ?v27) rfl (by kernel_rfl) (by kernel_rfl) (by kernel_rfl) (fun _ _ _ h => h) (Or.inl ⟨by kernel_rfl, ?h27⟩) hHeld ?r27
          case h27 => intro W hSw; (try dsimp only at hSw); obtain ⟨z1, z2⟩ := hSw; go_simp; try with_reducible rfl
          simp only [Act.put, List.setIfInBounds_toArray, List.set_cons_zero, List.set_cons_succ]
          refine wpAnyH_take (i := 14) (v := ?v28) rfl (by kernel_rfl) (by kernel_rfl) (by kernel_rfl) (fun _ _ _ h => h) (Or.inl ⟨by kernel_rfl, ?h28⟩) hHeld ?r28
          case h28 => intro W hSw; (try dsimp only at hSw); obtain ⟨z1, z2⟩ := hSw; go_simp; try with_reducible rfl
          simp only [Act.put, List.setIfInBounds_toArray, List.set_cons_zero, List.set_cons_succ]
          refine wpAnyH_ready (rs := [15]) (by kernel_rfl) (by simp) ?_
          refine AllReadyH.cons rfl (fun K hK => ?_) AllReadyH.nil
          go_simp
          refine hK.out _ _ (HS.out _ R9.out) (fun hHeld => ?_)
          clear hK K
          (try simp only [Act.put, List.setIfInBounds_toArray, List.set_cons_zero, List.set_cons_succ])
          refine wpAnyH_ready (rs := [16]) (by kernel_rfl) (by simp) ?_
          refine AllReadyH.cons rfl (fun K hK => ?_) AllReadyH.nil
          go_simp
          refine hK.out _ _ (HS.out _ R9.out) (fun hHeld => ?_)
          clear hK K
          (try simp only [Act.put, List.setIfInBounds_toArray, List.set_cons_zero, List.set_cons_succ])
          refine wpAnyH_done (by kernel_rfl) ?_ _
          have hg9 := below_trans HG.out R9.out
          have oM9 := own8_below OM.out R9.out
          have oV9 := own8_below OV.out R9.out
          have e09 := E0.out _ hg9
          have e19 := E1.out _ hg9
          have C2' := fun n => C2.out (w9.drewN n) ((Rd_own oM9).1.below (below_drewN (Below.refl _ _) n))
          clear HS hrd RV RB
          go_wp2_with fail
          go_quiet ((go_at_call 23; exact Calls.quiet_of_same (C2' _)))
          go_wp2_with fail
          have hd9 := below_drewN (Below.refl w9.heap.size w9) nq
          go_roundw
          case rel => exact ⟨k + 1, D, by omega, by go_num, hD, DB.out, own8_below oV9 hd9, own8_below oM9 hd9, SP.out, below_trans hg9 hd9⟩
          case measure => simp [intOf]; omega
      · have d0 := below_cell hg cZ0
        have d1 := below_cell hg cZ1
        have cI := fun w h => w_rin20 v3 D p0 p1 w h (by have := hD.out; omega)
        have cG := fun v w h => w_pget20 v D p0 p1 w h (by have := hD.out; omega) n0.1 n0.2 n1.1 n1.2
        have eG : dkGt D p0 p1 = if dkI D.length p0 p1 = true then ((D.drop p0.toNat).take p1.toNat, 0) else ([], 23) := by unfold dkGt; rw [if_pos (HK.out D hD.out)]
        have eI : dkI D.length p0 p1 = decide (0 ≤ p0 ∧ p0 ≤ (D.length : Int) ∧ 0 ≤ p1 ∧ p1 ≤ (D.length : Int) - p0) := rfl
        have hDl : D.length ≤ 3584 := by have := hD.out; omega
        have rM := (Rd_own oM).1
        have rV := (Rd_own oV).1
        rw [eG] at cG
        by_cases hin : dkI D.length p0 p1 = true
        · rw [if_pos hin] at cG
          rw [hin] at cI
          rw [eI, decide_eq_true_eq] at hin
          obtain ⟨j1, j2, j3, j4⟩ := hin
          simp only at cG
          obtain ⟨vc, rc, sc, -, -⟩ := rd_cutI rM uB zB p0 (p0 + p1) j1 (by omega) (by omega)
          rw [show (p0 + p1 - p0).toNat = p1.toNat by omega] at rc
          have hGb : bytesL ((D.drop p0.toNat).take p1.toNat) := bytes_take (bytes_drop hDb _) _
          obtain ⟨G, hG⟩ : ∃ G, (D.drop p0.toNat).take p1.toNat = G := ⟨_, rfl⟩
          rw [hG] at cG rc hGb
          clear hG eG eI hsp oM oV
          go_wp2_with (first
            | (go_at_call 19; refine (cG _ _ rV).mono ?_; rintro e w8 ⟨v8, rfl, o8, b8⟩; have r8 := (Rd_own o8).1; have f0 := below_cell b8 d0; have f1 := below_cell b8 d1)
            | (go_at_call 23; refine (cI _ (rM.below b8)).mono ?_; rintro e w7 ⟨rfl, hw⟩; obtain rfl := hw.symm)
            | (go_at_call_of 14 v8; refine (w_rsame v8 vc G G _ r8 (rc.below b8) hGb hGb).mono ?_; rintro e w7 ⟨rfl, hw⟩; obtain rfl := hw.symm)
            | (go_at_call 14; refine (w_rsame _ v3 D D _ (rV.below b8) (rM.below b8) hDb hDb).mono ?_; rintro e w7 ⟨rfl, hw⟩; obtain rfl := hw.symm))
          go_ret
          exact ⟨ret_b (by simp), below_trans BZ (below_trans hg b8)⟩
        · rw [if_neg hin] at cG
          rw [show dkI D.length p0 p1 = false by simpa using hin] at cI
          simp only at cG
          clear hin eG eI hsp
          go_wp2_with (first
            | (go_at_call 19; refine (cG _ _ rV).mono ?_; rintro e w8 ⟨v8, rfl, o8, b8⟩; have hl8 : ∀ ty w', (Builtin.len_ #[22] ty #[v8]).run Try.prog w' = .ok (.int .i64 0) w' := rd_len (Rd_own o8).1 uB (P := Try.prog); have f0 := below_cell b8 d0; have f1 := below_cell b8 d1)
            | (go_at_call 23; refine (cI _ (rM.below b8)).mono ?_; rintro e w7 ⟨rfl, hw⟩; obtain rfl := hw.symm))
          go_ret
          exact ⟨ret_b (by simp), below_trans BZ (below_trans hg b8)⟩

end Go.Proofs.Ytcffaojpmdhdoaa
