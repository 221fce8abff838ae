/-
  The landed package nvram: Recover and Plan.
-/
import Derived.Test.YtlnlifijnijgmabNvi
namespace Go.Proofs.Ytlnlifijnijgmab
open Go.ChangeShapes Go.WideShapes Go.ChangeAt Go.RowKit
set_option linter.unusedVariables false
set_option linter.unusedSimpArgs false

theorem bkR_len {B : List Int} (h : bkR B = true) : bkN B ≤ 248 := by
  unfold bkR at h
  simp only [Bool.and_eq_true, decide_eq_true_eq] at h
  exact h.1.2
theorem bkat_pair (w : World) (xs : List Int) : BkAt (w.alloc (.cells (BkA xs) 41)) w.heap.size 0 xs := bkat_box w xs 41

set_option maxHeartbeats 4000000 in
theorem w_precover18 (v : Value) (xs : List Int) (w : World) (h : Rd .u8 w v xs) (hb : bytesL xs) (hz : xs.length ≤ 140737488351232) :
    Calls Try.prog 7 #[v] w fun e w' => ∃ v', e = .returned (.tuple #[v', .int .i64 (rcvF xs).2.1, .bool (rcvF xs).2.2]) ∧ Rd .u8 w' v' (rcvF xs).1 ∧ Below w.heap.size w w' := by
  have hlen := rd_len h uB (P := Try.prog)
  by_cases hl : xs.length = 512
  · have z := zeroP.1
    obtain ⟨Z, hZ⟩ : ∃ Z, BkA (List.replicate 512 0) = Z := ⟨_, rfl⟩
    rw [hZ] at z
    have zs : Z.size = 512 := by rw [← hZ, bka_size, List.length_replicate]
    have cb := fun W r => w_pbanks18 v xs W r hl
    have cc := fun W => w_pcounting18 xs W hl hb
    have hsz : (BkA xs).size = 512 := by rw [bka_size, hl]
    have hq : ((xs.length : Int) != 512) = false := by rw [show (xs.length : Int) = 512 by omega]; rfl
    obtain ⟨hc, hr⟩ := cnt_rg xs
    have L0 : (bkF xs 0).length = 256 := bkF_len hl 0 (by omega)
    have L1 : (bkF xs 1).length = 256 := bkF_len hl 1 (by omega)
    have cd0 := fun W hn => w_pdata18 (bkF xs 0) W L0 (bk_bytes hb 0) hn
    have cd1 := fun W hn => w_pdata18 (bkF xs 1) W L1 (bk_bytes hb 1) hn
    have i0 : ∀ b w', (Instr.indexAt 41 (.pointer (some ⟨b, 0, none⟩)) (.int .i64 0)).run Try.prog w' = .ok (.pointer (some ⟨b, 0, none⟩)) w' := fun b w' => pr_ix b 0 .i64 0 rfl (by omega) w'
    have i1 : ∀ b w', (Instr.indexAt 41 (.pointer (some ⟨b, 0, none⟩)) (.int .i64 1)).run Try.prog w' = .ok (.pointer (some ⟨b, 256, none⟩)) w' := fun b w' => pr_ix b 1 .i64 1 rfl (by omega) w'
    have hone := bka_one xs
    have hrun := fun W : World => run_storeCells_new (P := Try.prog) W 41 Z (BkA xs) (by rw [hsz]; exact szP) (by rw [hsz, zs]) hone
    unfold rcvF
    rw [if_pos hl]
    have HB := hid (fun W => bkat_pair W xs)
    have HP0 := hid (fun (W : World) (b : Nat) (h : BkAt W b 0 xs) => bkat_part h hl 0 (by omega))
    have HP1 := hid (fun (W : World) (b : Nat) (h : BkAt W b 0 xs) => bkat_part h hl 1 (by omega))
    clear hZ
    have hl2 := hid hl
    rcases hc with hK | hK | hK
    · rw [hK] at cc ⊢
      rw [if_pos (by omega)]
      clear cd0 cd1 hr hK hl
      go_enter Try.func7, Try.ntmps7
      go_upto_region 4 with (go_at_call 10; refine (cb _ h).mono ?_; rintro e w1 ⟨rfl, b1⟩; have hs1 := hrun w1)
      refine wp_region_lit ?_
      refine wpList_load_pr rfl (.tmp 5) rfl w1.heap.size rfl xs (HB.out w1) hl2.out ?_
      go_wp2_with (go_at_call 15; refine (cc _).mono ?_; rintro e w2 ⟨rfl, b2⟩)
      go_ret3
      exact ⟨_, rfl, Rd_nil, below_trans b1 (below_trans (box_below _ _) b2)⟩
    · have hn := bkR_len (hr (by omega))
      rw [hK] at cc hn ⊢
      rw [if_neg (by omega)]
      have cd := fun W => cd0 W hn
      have hD := bkD_le (bkF xs 0) (by omega)
      obtain ⟨D, hDe⟩ : ∃ D, bkD (bkF xs 0) = D := ⟨_, rfl⟩
      rw [hDe] at cd ⊢
      clear cd0 cd1 hr hK hl hDe hD
      go_enter Try.func7, Try.ntmps7
      go_upto_region 4 with (go_at_call 10; refine (cb _ h).mono ?_; rintro e w1 ⟨rfl, b1⟩; have hs1 := hrun w1)
      refine wp_region_lit ?_
      refine wpList_load_pr rfl (.tmp 5) rfl w1.heap.size rfl xs (HB.out w1) hl2.out ?_
      go_upto_region 7 with (go_at_call 15; refine (cc _).mono ?_; rintro e w2 ⟨rfl, b2⟩)
      refine wp_region_lit ?_
      iterate 6 go_step
      refine wpList_load_bk rfl (.tmp 17) rfl w1.heap.size 0 rfl (bkF xs 0) (HP0.out _ _ ((HB.out w1).below b2)) L0 ?_
      go_wp2_with (go_at_call 16; refine (cd _).mono ?_; rintro e w3 ⟨v3, rfl, o3, b3⟩)
      go_ret3
      exact ⟨_, rfl, (Rd_own o3).1, below_trans b1 (below_trans (box_below _ _) (below_trans b2 b3))⟩
    · have hn := bkR_len (hr (by omega))
      rw [hK] at cc hn ⊢
      rw [if_neg (by omega)]
      have cd := fun W => cd1 W hn
      have hD := bkD_le (bkF xs 1) (by omega)
      obtain ⟨D, hDe⟩ : ∃ D, bkD (bkF xs 1) = D := ⟨_, rfl⟩
      rw [hDe] at cd ⊢
      clear cd0 cd1 hr hK hl hDe hD
      go_enter Try.func7, Try.ntmps7
      go_upto_region 4 with (go_at_call 10; refine (cb _ h).mono ?_; rintro e w1 ⟨rfl, b1⟩; have hs1 := hrun w1)
      refine wp_region_lit ?_
      refine wpList_load_pr rfl (.tmp 5) rfl w1.heap.size rfl xs (HB.out w1) hl2.out ?_
      go_upto_region 7 with (go_at_call 15; refine (cc _).mono ?_; rintro e w2 ⟨rfl, b2⟩)
      refine wp_region_lit ?_
      iterate 6 go_step
      refine wpList_load_bk rfl (.tmp 17) rfl w1.heap.size 256 rfl (bkF xs 1) (HP1.out _ _ ((HB.out w1).below b2)) L1 ?_
      go_wp2_with (go_at_call 16; refine (cd _).mono ?_; rintro e w3 ⟨v3, rfl, o3, b3⟩)
      go_ret3
      exact ⟨_, rfl, (Rd_own o3).1, below_trans b1 (below_trans (box_below _ _) (below_trans b2 b3))⟩
  · have e : rcvF xs = ([], 0, false) := by unfold rcvF; rw [if_neg hl]
    rw [e]
    have hq : ((xs.length : Int) != 512) = true := by simp; omega
    clear e
    go_enter Try.func7, Try.ntmps7
    go_wp2_with fail
    go_ret3
    exact ⟨_, rfl, Rd_nil, Below.refl _ _⟩

theorem fil_len (g : Int) (ds : List Int) (hd : ds.length ≤ 248) : (filB g ds).length = 256 := by
  have : (beB 4 (nsF g ds)).length = 4 := by simp [beB]
  simp only [filB, List.length_append, List.length_cons, List.length_nil, List.length_replicate, this]
  omega
theorem fil_byt {g : Int} {ds : List Int} (g0 : 0 ≤ g) (g1 : g < 256) (hb : bytesL ds) (hd : ds.length ≤ 248) : bytesL (filB g ds) := by
  unfold filB
  have h4 : bytesL (beB 4 (nsF g ds)) := by
    have := ns_bd g ds
    intro x hx
    simp [beB] at hx
    omega
  refine bytes_app (bytes_app (bytes_app ?_ h4) hb) ?_
  · intro x hx
    simp only [List.mem_cons, List.not_mem_nil, or_false] at hx
    omega
  · intro x hx
    simp only [List.mem_replicate] at hx
    omega
theorem fil_n (g : Int) (ds : List Int) : bkN (filB g ds) = ds.length := by
  unfold bkN filB
  simp
theorem fil_hed (g : Int) (ds : List Int) : ((filB g ds).drop 1).take (7 + (ds.length : Int)).toNat = hedF g ds := by
  have : (beB 4 (nsF g ds)).length = 4 := by simp [beB]
  unfold filB hedF
  rw [show [165, g, 0, (ds.length : Int)] ++ beB 4 (nsF g ds) ++ ds ++ List.replicate (248 - ds.length) 0 = 165 :: (([g, 0, (ds.length : Int)] ++ beB 4 (nsF g ds) ++ ds) ++ List.replicate (248 - ds.length) 0) by simp]
  rw [List.drop_succ_cons, List.drop_zero]
  exact List.take_left' (by simp only [List.length_append, List.length_cons, List.length_nil, this]; omega)

set_option maxHeartbeats 4000000 in
theorem w_pplan18 (v vd : Value) (xs ds : List Int) (w : World) (h : Rd .u8 w v xs) (rd : Rd .u8 w vd ds) (hb : bytesL xs) (hd : bytesL ds) :
    Calls Try.prog 5 #[v, vd] w fun e w' => ∃ v', e = .returned (.tuple #[v', .int .i64 (plnF xs ds).2]) ∧ SlR 2 pbR w' v' (plnF xs ds).1 ∧ Below w.heap.size w w' := by
  have hlen := rd_len h uB (P := Try.prog)
  have hld := rd_len rd uB (P := Try.prog)
  by_cases hl : xs.length = 512
  · have hq : ((xs.length : Int) != 512) = false := by rw [show (xs.length : Int) = 512 by omega]; rfl
    by_cases hn : (248 : Int) < ds.length
    · have e : plnF xs ds = ([], 3) := by unfold plnF; rw [if_pos hl, if_pos hn]
      rw [e]
      clear e hl
      go_enter Try.func5, Try.ntmps5
      go_wp2_with fail
      go_ret2
      exact ⟨_, rfl, (owp_nil 0 _).read, Below.refl _ _⟩
    · have e : plnF xs ds = (wrtF (bsF (cntF xs).1) (((cntF xs).2 + 1) % 256) ds, 0) := by unfold plnF; rw [if_pos hl, if_neg hn]
      rw [e]
      have cb := fun W r => w_pbanks18 v xs W r hl
      have cf := fun W => w_pfree18 xs W hl hb
      obtain ⟨K, hK⟩ : ∃ K, bsF (cntF xs).1 = K := ⟨_, rfl⟩
      have hK2 : K = 0 ∨ K = 256 := by rw [← hK]; unfold bsF; split <;> simp
      obtain ⟨G, hG⟩ : ∃ G, ((cntF xs).2 + 1) % 256 = G := ⟨_, rfl⟩
      rw [hK, hG] at cf ⊢
      have g0 : 0 ≤ G := by omega
      have g1 : G < 256 := by omega
      have hw : IntKind.i64.wrap (K / 256 * 256) = K := by rw [IntKind.wrap_i64]; omega
      have hdl : ds.length ≤ 248 := by omega
      have ci := fun W r => w_pfilled18 G vd ds W g0 g1 r hd hdl
      have hB := fil_byt g0 g1 hd hdl
      have hBl := fil_len G ds hdl
      have hBn := fil_n G ds
      have cr := fun W => w_prow18 K (filB G ds) W (by omega) (by omega) hBl hB (by omega)
      have he : Hid ((K, 0) :: (rowF (K + 1) (((filB G ds).drop 1).take (7 + bkN (filB G ds)).toNat) ++ [(K, (filB G ds).getD 0 0)]) = wrtF K G ds) := by
        show _ = _
        rw [hBn, fil_hed]
        rfl
      obtain ⟨R, hR⟩ : ∃ R, (K, (0 : Int)) :: (rowF (K + 1) (((filB G ds).drop 1).take (7 + bkN (filB G ds)).toNat) ++ [(K, (filB G ds).getD 0 0)]) = R := ⟨_, rfl⟩
      rw [hR] at he
      simp only [hR] at cr
      obtain ⟨B, hBe⟩ : ∃ B, filB G ds = B := ⟨_, rfl⟩
      rw [hBe] at ci cr
      clear hR hBe hB hBl hBn hl hdl e hK hG
      go_enter Try.func5, Try.ntmps5
      go_wp2_with (first
        | (go_at_call 10; refine (cb _ h).mono ?_; rintro e w1 ⟨rfl, b1⟩)
        | (go_at_call 11; refine (cf _).mono ?_; rintro e w2 ⟨rfl, b2⟩; have b02 := below_trans b1 b2)
        | (go_at_call 13; refine (ci _ (rd.below b02)).mono ?_; rintro e w3 ⟨rfl, b3⟩; have b03 := below_trans b02 b3)
        | (go_at_call 12; refine (cr _).mono ?_; rintro e w4 ⟨v4, rfl, o4, b4⟩))
      go_ret2
      refine ⟨_, rfl, ?_, below_trans b03 b4⟩
      rw [← he.out]
      exact o4.read
  · have hq : ((xs.length : Int) != 512) = true := by simp; omega
    have e : plnF xs ds = ([], 1) := by unfold plnF; rw [if_neg hl]
    rw [e]
    clear e hl
    go_enter Try.func5, Try.ntmps5
    go_wp2_with fail
    go_ret2
    exact ⟨_, rfl, (owp_nil 0 _).read, Below.refl _ _⟩
end Go.Proofs.Ytlnlifijnijgmab
