/-
  Texts of one proof, laid one behind the other: Nvj Nvp Vaq Pn3 Vct Nbp Flat Vtb.
-/
import Derived.Test.YtaiimfdcbdfbdabDoorB21
import Derived.Test.YtaiimfdcbdfbdabDoorRows
import Derived.ChangeSame
import Derived.WalkKit
import Derived.ProofKit
import Derived.OpenShut
import Derived.SizedLaws
import Derived.Lib.LaidTab
namespace Go.Proofs.YtaiimfdcbdfbdabDoor
open Go.ChangeShapes Go.WideShapes Go.ChangeAt Go.RowKit
set_option linter.unusedVariables false
set_option linter.unusedSimpArgs false

/-
  The landed package nvram: Recover and Plan.
-/
set_option maxRecDepth 100000

theorem bkR_len {B : List Int} (h : bkR B = true) : bkN B ≤ 248 := by
  unfold bkR at h
  simp only [Bool.and_eq_true, decide_eq_true_eq] at h
  exact h.1.2
theorem bkat_pair (w : World) (xs : List Int) : BkAt (w.alloc (.cells (BkA xs) 68)) w.heap.size 0 xs := bkat_box w xs 68

set_option maxHeartbeats 4000000 in
theorem w_precover18 (v : Value) (xs : List Int) (w : World) (h : Rd .u8 w v xs) (hb : bytesL xs) (hz : xs.length ≤ 140737488351232) :
    Calls Tryd.prog 24 #[v] w fun e w' => ∃ v', e = .returned (.tuple #[v', .int .i64 (rcvF xs).2.1, .bool (rcvF xs).2.2]) ∧ Rd .u8 w' v' (rcvF xs).1 ∧ Below w.heap.size w w' := by
  have hlen := rd_len h uB (P := Tryd.prog)
  by_cases hl : xs.length = 512
  · have z := zeroP.1
    obtain ⟨Z, hZ⟩ : ∃ Z, BkA (List.replicate 512 0) = Z := ⟨_, rfl⟩
    rw [hZ] at z
    have zs : Z.size = 512 := by rw [← hZ, bka_size, List.length_replicate]
    have cb := fun W r => w_pbanks18 v xs W r hl
    have cc := fun W => w_pcounting18 xs W hl hb
    have hsz : (BkA xs).size = 512 := by rw [bka_size, hl]
    have hq : ((xs.length : Int) != 512) = false := by rw [show (xs.length : Int) = 512 by omega]; rfl
    obtain ⟨hc, hr⟩ := cnt_rg xs
    have L0 : (bkF xs 0).length = 256 := bkF_len hl 0 (by omega)
    have L1 : (bkF xs 1).length = 256 := bkF_len hl 1 (by omega)
    have cd0 := fun W hn => w_pdata18 (bkF xs 0) W L0 (bk_bytes hb 0) hn
    have cd1 := fun W hn => w_pdata18 (bkF xs 1) W L1 (bk_bytes hb 1) hn
    have i0 : ∀ b w', (Instr.indexAt 68 (.pointer (some ⟨b, 0, none⟩)) (.int .i64 0)).run Tryd.prog w' = .ok (.pointer (some ⟨b, 0, none⟩)) w' := fun b w' => pr_ix b 0 .i64 0 rfl (by omega) w'
    have i1 : ∀ b w', (Instr.indexAt 68 (.pointer (some ⟨b, 0, none⟩)) (.int .i64 1)).run Tryd.prog w' = .ok (.pointer (some ⟨b, 256, none⟩)) w' := fun b w' => pr_ix b 1 .i64 1 rfl (by omega) w'
    have hone := bka_one xs
    have hrun := fun W : World => run_storeCells_new (P := Tryd.prog) W 68 Z (BkA xs) (by rw [hsz]; exact szP) (by rw [hsz, zs]) hone
    unfold rcvF
    rw [if_pos hl]
    have HB := hid (fun W => bkat_pair W xs)
    have HP0 := hid (fun (W : World) (b : Nat) (h : BkAt W b 0 xs) => bkat_part h hl 0 (by omega))
    have HP1 := hid (fun (W : World) (b : Nat) (h : BkAt W b 0 xs) => bkat_part h hl 1 (by omega))
    clear hZ
    have hl2 := hid hl
    rcases hc with hK | hK | hK
    · rw [hK] at cc ⊢
      rw [if_pos (by omega)]
      clear cd0 cd1 hr hK hl
      go_enter Tryd.func24, Tryd.ntmps24
      go_upto_region 4 with (go_at_call 33; refine (cb _ h).mono ?_; rintro e w1 ⟨rfl, b1⟩; have hs1 := hrun w1)
      refine wp_region_lit ?_
      refine wpList_load_pr rfl (.tmp 5) rfl w1.heap.size rfl xs (HB.out w1) hl2.out ?_
      go_wp2_with (go_at_call 42; refine (cc _).mono ?_; rintro e w2 ⟨rfl, b2⟩)
      go_ret3
      exact ⟨_, rfl, Rd_nil, below_trans b1 (below_trans (box_below _ _) b2)⟩
    · have hn := bkR_len (hr (by omega))
      rw [hK] at cc hn ⊢
      rw [if_neg (by omega)]
      have cd := fun W => cd0 W hn
      have hD := bkD_le (bkF xs 0) (by omega)
      obtain ⟨D, hDe⟩ : ∃ D, bkD (bkF xs 0) = D := ⟨_, rfl⟩
      rw [hDe] at cd ⊢
      clear cd0 cd1 hr hK hl hDe hD
      go_enter Tryd.func24, Tryd.ntmps24
      go_upto_region 4 with (go_at_call 33; refine (cb _ h).mono ?_; rintro e w1 ⟨rfl, b1⟩; have hs1 := hrun w1)
      refine wp_region_lit ?_
      refine wpList_load_pr rfl (.tmp 5) rfl w1.heap.size rfl xs (HB.out w1) hl2.out ?_
      go_upto_region 7 with (go_at_call 42; refine (cc _).mono ?_; rintro e w2 ⟨rfl, b2⟩)
      refine wp_region_lit ?_
      iterate 6 go_step
      refine wpList_load_bk rfl (.tmp 17) rfl w1.heap.size 0 rfl (bkF xs 0) (HP0.out _ _ ((HB.out w1).below b2)) L0 ?_
      go_wp2_with (go_at_call 43; refine (cd _).mono ?_; rintro e w3 ⟨v3, rfl, o3, b3⟩)
      go_ret3
      exact ⟨_, rfl, (Rd_own o3).1, below_trans b1 (below_trans (box_below _ _) (below_trans b2 b3))⟩
    · have hn := bkR_len (hr (by omega))
      rw [hK] at cc hn ⊢
      rw [if_neg (by omega)]
      have cd := fun W => cd1 W hn
      have hD := bkD_le (bkF xs 1) (by omega)
      obtain ⟨D, hDe⟩ : ∃ D, bkD (bkF xs 1) = D := ⟨_, rfl⟩
      rw [hDe] at cd ⊢
      clear cd0 cd1 hr hK hl hDe hD
      go_enter Tryd.func24, Tryd.ntmps24
      go_upto_region 4 with (go_at_call 33; refine (cb _ h).mono ?_; rintro e w1 ⟨rfl, b1⟩; have hs1 := hrun w1)
      refine wp_region_lit ?_
      refine wpList_load_pr rfl (.tmp 5) rfl w1.heap.size rfl xs (HB.out w1) hl2.out ?_
      go_upto_region 7 with (go_at_call 42; refine (cc _).mono ?_; rintro e w2 ⟨rfl, b2⟩)
      refine wp_region_lit ?_
      iterate 6 go_step
      refine wpList_load_bk rfl (.tmp 17) rfl w1.heap.size 256 rfl (bkF xs 1) (HP1.out _ _ ((HB.out w1).below b2)) L1 ?_
      go_wp2_with (go_at_call 43; refine (cd _).mono ?_; rintro e w3 ⟨v3, rfl, o3, b3⟩)
      go_ret3
      exact ⟨_, rfl, (Rd_own o3).1, below_trans b1 (below_trans (box_below _ _) (below_trans b2 b3))⟩
  · have e : rcvF xs = ([], 0, false) := by unfold rcvF; rw [if_neg hl]
    rw [e]
    have hq : ((xs.length : Int) != 512) = true := by simp; omega
    clear e
    go_enter Tryd.func24, Tryd.ntmps24
    go_wp2_with fail
    go_ret3
    exact ⟨_, rfl, Rd_nil, Below.refl _ _⟩

theorem fil_len (g : Int) (ds : List Int) (hd : ds.length ≤ 248) : (filB g ds).length = 256 := by
  have : (beB 4 (nsF g ds)).length = 4 := by simp [beB]
  simp only [filB, List.length_append, List.length_cons, List.length_nil, List.length_replicate, this]
  omega
theorem fil_byt {g : Int} {ds : List Int} (g0 : 0 ≤ g) (g1 : g < 256) (hb : bytesL ds) (hd : ds.length ≤ 248) : bytesL (filB g ds) := by
  unfold filB
  have h4 : bytesL (beB 4 (nsF g ds)) := by
    have := ns_bd g ds
    intro x hx
    simp [beB] at hx
    omega
  refine bytes_app (bytes_app (bytes_app ?_ h4) hb) ?_
  · intro x hx
    simp only [List.mem_cons, List.not_mem_nil, or_false] at hx
    omega
  · intro x hx
    simp only [List.mem_replicate] at hx
    omega
theorem fil_n (g : Int) (ds : List Int) : bkN (filB g ds) = ds.length := by
  unfold bkN filB
  simp
theorem fil_hed (g : Int) (ds : List Int) : ((filB g ds).drop 1).take (7 + (ds.length : Int)).toNat = hedF g ds := by
  have : (beB 4 (nsF g ds)).length = 4 := by simp [beB]
  unfold filB hedF
  rw [show [165, g, 0, (ds.length : Int)] ++ beB 4 (nsF g ds) ++ ds ++ List.replicate (248 - ds.length) 0 = 165 :: (([g, 0, (ds.length : Int)] ++ beB 4 (nsF g ds) ++ ds) ++ List.replicate (248 - ds.length) 0) by simp]
  rw [List.drop_succ_cons, List.drop_zero]
  exact List.take_left' (by simp only [List.length_append, List.length_cons, List.length_nil, this]; omega)

set_option maxHeartbeats 4000000 in
theorem w_pplan18 (v vd : Value) (xs ds : List Int) (w : World) (h : Rd .u8 w v xs) (rd : Rd .u8 w vd ds) (hb : bytesL xs) (hd : bytesL ds) :
    Calls Tryd.prog 21 #[v, vd] w fun e w' => ∃ v', e = .returned (.tuple #[v', .int .i64 (plnF xs ds).2]) ∧ SlR 2 pbR w' v' (plnF xs ds).1 ∧ Below w.heap.size w w' := by
  have hlen := rd_len h uB (P := Tryd.prog)
  have hld := rd_len rd uB (P := Tryd.prog)
  by_cases hl : xs.length = 512
  · have hq : ((xs.length : Int) != 512) = false := by rw [show (xs.length : Int) = 512 by omega]; rfl
    by_cases hn : (248 : Int) < ds.length
    · have e : plnF xs ds = ([], 3) := by unfold plnF; rw [if_pos hl, if_pos hn]
      rw [e]
      clear e hl
      go_enter Tryd.func21, Tryd.ntmps21
      go_wp2_with fail
      go_ret2
      exact ⟨_, rfl, (owp_nil 0 _).read, Below.refl _ _⟩
    · have e : plnF xs ds = (wrtF (bsF (cntF xs).1) (((cntF xs).2 + 1) % 256) ds, 0) := by unfold plnF; rw [if_pos hl, if_neg hn]
      rw [e]
      have cb := fun W r => w_pbanks18 v xs W r hl
      have cf := fun W => w_pfree18 xs W hl hb
      obtain ⟨K, hK⟩ : ∃ K, bsF (cntF xs).1 = K := ⟨_, rfl⟩
      have hK2 : K = 0 ∨ K = 256 := by rw [← hK]; unfold bsF; split <;> simp
      obtain ⟨G, hG⟩ : ∃ G, ((cntF xs).2 + 1) % 256 = G := ⟨_, rfl⟩
      rw [hK, hG] at cf ⊢
      have g0 : 0 ≤ G := by omega
      have g1 : G < 256 := by omega
      have hw : IntKind.i64.wrap (K / 256 * 256) = K := by rw [IntKind.wrap_i64]; omega
      have hdl : ds.length ≤ 248 := by omega
      have ci := fun W r => w_pfilled18 G vd ds W g0 g1 r hd hdl
      have hB := fil_byt g0 g1 hd hdl
      have hBl := fil_len G ds hdl
      have hBn := fil_n G ds
      have cr := fun W => w_prow18 K (filB G ds) W (by omega) (by omega) hBl hB (by omega)
      have he : Hid ((K, 0) :: (rowF (K + 1) (((filB G ds).drop 1).take (7 + bkN (filB G ds)).toNat) ++ [(K, (filB G ds).getD 0 0)]) = wrtF K G ds) := by
        show _ = _
        rw [hBn, fil_hed]
        rfl
      obtain ⟨R, hR⟩ : ∃ R, (K, (0 : Int)) :: (rowF (K + 1) (((filB G ds).drop 1).take (7 + bkN (filB G ds)).toNat) ++ [(K, (filB G ds).getD 0 0)]) = R := ⟨_, rfl⟩
      rw [hR] at he
      simp only [hR] at cr
      obtain ⟨B, hBe⟩ : ∃ B, filB G ds = B := ⟨_, rfl⟩
      rw [hBe] at ci cr
      clear hR hBe hB hBl hBn hl hdl e hK hG
      go_enter Tryd.func21, Tryd.ntmps21
      go_wp2_with (first
        | (go_at_call 33; refine (cb _ h).mono ?_; rintro e w1 ⟨rfl, b1⟩)
        | (go_at_call 34; refine (cf _).mono ?_; rintro e w2 ⟨rfl, b2⟩; have b02 := below_trans b1 b2)
        | (go_at_call 36; refine (ci _ (rd.below b02)).mono ?_; rintro e w3 ⟨rfl, b3⟩; have b03 := below_trans b02 b3)
        | (go_at_call 35; refine (cr _).mono ?_; rintro e w4 ⟨v4, rfl, o4, b4⟩))
      go_ret2
      refine ⟨_, rfl, ?_, below_trans b03 b4⟩
      rw [← he.out]
      exact o4.read
  · have hq : ((xs.length : Int) != 512) = true := by simp; omega
    have e : plnF xs ds = ([], 1) := by unfold plnF; rw [if_neg hl]
    rw [e]
    clear e hl
    go_enter Tryd.func21, Tryd.ntmps21
    go_wp2_with fail
    go_ret2
    exact ⟨_, rfl, (owp_nil 0 _).read, Below.refl _ _⟩

/-
  The landed package nvram: Apply; with it the four contracts that the laws take.
-/
set_option maxRecDepth 100000

set_option maxHeartbeats 4000000 in
theorem w_papply18 (v vl : Value) (xs : List Int) (ps : List (Int × Int)) (n : Int) (w : World) (h : Rd .u8 w v xs) (rl : SlR 2 pbR w vl ps) (hz : xs.length ≤ 140737488351232) (n0 : -9223372036854775808 ≤ n) (n1 : n < 9223372036854775808) :
    Calls Tryd.prog 14 #[v, vl, .int .i64 n] w fun e w' => ∃ v', e = .returned v' ∧ Own8 w.heap.size w' v' (aplF xs ps n) ∧ Below w.heap.size w w' := by
  have cc := w_pclo18 v xs w h (by omega)
  have hla := slr_len rl uPb (P := Tryd.prog)
  have hma := slr_max rl
  unfold maxLen at hma
  obtain ⟨M1, hM1⟩ : ∃ M1 : Int, (if (ps.length : Int) < n then (ps.length : Int) else n) = M1 := ⟨_, rfl⟩
  obtain ⟨m, hm⟩ : ∃ m : Nat, (if M1 > 0 then M1 else 0) = (m : Int) := by
    split
    · exact ⟨M1.toNat, by omega⟩
    · exact ⟨0, rfl⟩
  have hmin : ∀ (ts : Array TypeId) (t : TypeId) w', (Builtin.min_ ts t #[.int .i64 n, .int .i64 (ps.length : Int)]).run Tryd.prog w' = .ok (.int .i64 M1) w' := fun ts t w' => by rw [run_min_int2, hM1]
  have hmax : ∀ (ts : Array TypeId) (t : TypeId) w', (Builtin.max_ ts t #[.int .i64 0, .int .i64 M1]).run Tryd.prog w' = .ok (.int .i64 (m : Int)) w' := fun ts t w' => by rw [run_max_int2, hm]
  have hml : m ≤ ps.length := by
    split at hm <;> split at hM1 <;> omega
  have hap : Hid (aplF xs ps n = aplL xs (ps.take m)) := by
    show _ = _
    unfold aplF
    have : ps.take n.toNat = ps.take m := by
      split at hm <;> split at hM1
      · rw [List.take_of_length_le (by omega), List.take_of_length_le (by omega)]
      · congr 1; omega
      · rw [List.take_of_length_le (by omega), List.take_of_length_le (by omega)]
      · congr 1; omega
    rw [this]
  obtain ⟨vs, sl, rs⟩ := slr_first rl uPb zPb m hml
  obtain ⟨qs, hqs⟩ : ∃ qs, ps.take m = qs := ⟨_, rfl⟩
  have hql : qs.length = m := by rw [← hqs, List.length_take]; omega
  rw [hqs] at rs hap
  have hlq := slr_len rs uPb (P := Tryd.prog)
  have hal := fun l => apl_len l xs
  clear hM1 hm hqs
  go_enter Tryd.func14, Tryd.ntmps14
  go_wp2_with (go_at_call 28; refine cc.mono ?_; rintro e w1 ⟨vo, rfl, o1, b1⟩)
  go_loopw [19] (fun I wx => ∃ k : Nat, (k : Int) ≤ qs.length ∧ I = .int .i64 k ∧ Own8 w.heap.size wx vo (aplL xs (qs.take k)) ∧ Below w.heap.size w wx) (fun I _ => (qs.length - intOf I).toNat)
  case atStart => exact ⟨0, by omega, rfl, o1, b1⟩
  case round =>
    obtain ⟨k, hk, rfl, ho, hg⟩ := hrel
    by_cases hlt : (k : Int) < qs.length
    · have hkk : k < qs.length := by omega
      obtain ⟨bb, oo, A, V, ri, e0, e1, hx⟩ := pb_at (rs.below hg pbR_below) k hkk
      have hnx := hid (apl_take xs qs k hkk)
      rw [hx] at hnx
      have hL := hal (qs.take k)
      obtain ⟨M, hM⟩ : ∃ M, aplL xs (qs.take k) = M := ⟨_, rfl⟩
      rw [hM] at ho hnx hL
      have hlo := rd_len (Rd_own ho).1 uB (P := Tryd.prog)
      have HL := hid hL
      have bk := box_below wr (.cells #[.int .i64 A, .int .u8 V] 54)
      have bz := hg.alloc hg.size (.cells #[.int .i64 A, .int .u8 V] 54)
      have hod : Own8 w.heap.size (wr.alloc (.cells #[.int .i64 A, .int .u8 V] 54)) vo M := own_below ho bk
      clear hx hM hal hL
      by_cases hA0 : 0 ≤ A
      · by_cases hA1 : A < M.length
        · have hp : putB M (A, V) = M.set A.toNat V := by unfold putB; rw [if_pos ⟨hA0, hA1⟩]
          obtain ⟨ad, i1, i2, i3, i4, i5⟩ := own_set hod uB zB A hA0 hA1
          have i6 := i5 V
          have bs := bz.setCell i4 (.int .u8 V)
          have HN := hid (hnx.out.trans hp)
          clear hnx hp i5
          go_wp2_with fail
          go_roundw
          case rel => exact ⟨k + 1, by omega, by go_num, by rw [HN.out]; exact i6, bs⟩
          case measure => simp [intOf]; omega
        · have hp : putB M (A, V) = M := by unfold putB; rw [if_neg (by simp; omega)]
          have HN := hid (hnx.out.trans hp)
          clear hnx hp
          go_wp2_with fail
          go_roundw
          case rel => exact ⟨k + 1, by omega, by go_num, by rw [HN.out]; exact hod, bz⟩
          case measure => simp [intOf]; omega
      · have hp : putB M (A, V) = M := by unfold putB; rw [if_neg (by simp; omega)]
        have HN := hid (hnx.out.trans hp)
        clear hnx hp
        go_wp2_with fail
        go_roundw
        case rel => exact ⟨k + 1, by omega, by go_num, by rw [HN.out]; exact hod, bz⟩
        case measure => simp [intOf]; omega
    · have he : qs.take k = qs := List.take_of_length_le (by omega)
      rw [he] at ho
      go_wp2_with fail
      go_ret
      rw [hap.out]
      exact ⟨_, rfl, ho, hg⟩

/-
  Load and Save of the landed package vars, over the landed package nvram.
-/
set_option maxRecDepth 100000

set_option maxHeartbeats 1000000 in
set_option maxRecDepth 100000 in
theorem w_pload19 (v : Value) (nv : List Int) (w : World) (hT : Tab w) (h : Rd .u8 w v nv) (hb : bytesL nv) (hz : nv.length ≤ 140737488351232) :
    Calls Tryd.prog 11 #[v] w fun e w' => ∃ v', e = .returned v' ∧ SlR 2 stR w' v' (vaDe (rcvF nv).1).1 ∧ Below w.heap.size w w' := by
  have cR := w_precover18 v nv w h hb hz
  have hbb := rcv_bytes hb
  have hs := rcv_short nv
  obtain ⟨⟨B, K, O⟩, hE⟩ : ∃ x, rcvF nv = x := ⟨_, rfl⟩
  rw [hE] at cR hbb hs ⊢
  simp only at cR hbb hs ⊢
  clear hE
  have cD := fun v w hT h => w_pdecode19 v B w hT h hbb hs
  go_enter Tryd.func11, Tryd.ntmps11
  go_wp2_with (first
    | (go_at_call 24; refine cR.mono ?_; rintro e q1 ⟨v1, rfl, r1, b1⟩)
    | (go_at_call 25; refine (cD _ _ (hT.below b1) r1).mono ?_; rintro e q2 ⟨v2, rfl, o2, b2⟩))
  go_ret
  exact ⟨_, rfl, o2, below_trans b1 b2⟩

set_option maxHeartbeats 1000000 in
set_option maxRecDepth 100000 in
theorem w_psave19 (v vl : Value) (nv : List Int) (l : List Stt) (w : World) (hT : Tab w) (h : Rd .u8 w v nv) (hb : bytesL nv) (hl : SlR 2 stR w vl l) (hz : nv.length ≤ 140737488351232) :
    Calls Tryd.prog 8 #[v, vl] w fun e w' => ∃ v', e = .returned (.tuple #[v', .int .i64 (vaSv nv l).2]) ∧ SlR 2 pbR w' v' (vaSv nv l).1 ∧ Below w.heap.size w w' := by
  have cE := w_pencode19 vl l w hT hl
  have hbe := vaEn_b l
  unfold vaSv
  obtain ⟨⟨B, E⟩, hX⟩ : ∃ x, vaEn l = x := ⟨_, rfl⟩
  rw [hX] at cE hbe ⊢
  simp only at cE hbe ⊢
  clear hX
  by_cases hE : E = 0
  · rw [if_pos hE]
    subst hE
    have cP := fun vd w h hd => w_pplan18 v vd nv B w h hd hb hbe
    generalize plnF nv B = P at cP ⊢
    go_enter Tryd.func8, Tryd.ntmps8
    go_wp2_with (first
      | (go_at_call 20; refine cE.mono ?_; rintro e q1 ⟨v1, rfl, r1, b1⟩)
      | (go_at_call 21; refine (cP _ _ (h.below b1) r1).mono ?_; rintro e q2 ⟨v2, rfl, o2, b2⟩))
    go_ret2
    exact ⟨_, rfl, o2, below_trans b1 b2⟩
  · rw [if_neg hE]
    go_enter Tryd.func8, Tryd.ntmps8
    go_wp2_with (go_at_call 20; refine cE.mono ?_; rintro e q1 ⟨v1, rfl, r1, b1⟩)
    go_ret2
    exact ⟨.slice none 0 0, rfl, (owp_nil 0 q1).read, b1⟩

/-
  What the laws of layer 18 ask of a writing, in one piece. No Go text in sight.
-/
set_option maxRecDepth 100000

theorem pln_cut (xs ds : List Int) (hl : xs.length = 512) (hb : bytesL xs) (hd : bytesL ds) (hs : ds.length ≤ 248) :
    ∃ R, plnF xs ds = (R, 0) ∧ R.length = 9 + ds.length ∧ (∀ n : Int, (aplF xs R n).length = 512 ∧ bytesL (aplF xs R n)) ∧ (∀ n : Int, (R.length : Int) ≤ n → ∃ k, rcvF (aplF xs R n) = (ds, k, true)) ∧
      ∀ n : Int, n < R.length → (rcvF (aplF xs R n)).1 = (rcvF xs).1 ∧ (rcvF (aplF xs R n)).2.2 = (rcvF xs).2.2 := by
  have hg := cnt_gen hb
  refine ⟨wrtF (bsF (cntF xs).1) (((cntF xs).2 + 1) % 256) ds, ?_, wrt_len _ _ _, fun n => ⟨?_, ?_⟩, fun n hn => ?_, fun n hn => cut_old hl hs n hn⟩
  · unfold plnF; rw [if_pos hl, if_neg (by omega)]
  · unfold aplF; rw [apl_len]; exact hl
  · exact apl_bytes _ _ hb (fun p hp => wrt_bytes (by omega) hd hs p (List.mem_of_mem_take hp))
  · rw [apl_pre _ _ _ hn]; exact cut_new hl hb hs
theorem pln_long (xs ds : List Int) (hl : xs.length = 512) (hs : (248 : Int) < ds.length) : plnF xs ds = ([], 3) := by unfold plnF; rw [if_pos hl, if_pos hs]
theorem pln_arg (xs ds : List Int) (hl : ¬ xs.length = 512) : plnF xs ds = ([], 1) := by unfold plnF; rw [if_neg hl]

/-
  Settings saved, the power going anywhere: what is loaded.
-/
set_option maxRecDepth 100000

theorem pln_512 {nv d : List Int} (h : (plnF nv d).2 = 0) : nv.length = 512 := by
  unfold plnF at h
  split at h
  · assumption
  · exact absurd h (by decide)
/-- all that is asked of settings that were saved -/
theorem sv_cut {nv : List Int} {l : List Stt} (hb : bytesL nv) (h : (vaSv nv l).2 = 0) : ∃ R, vaSv nv l = (R, 0) ∧ (vaG (-1) l = true ∧ R.length ≤ 257 ∧ nv.length = 512) ∧ (∀ n : Int, (aplF nv R n).length = 512 ∧ bytesL (aplF nv R n)) ∧
    (∀ n : Int, (R.length : Int) ≤ n → (vaDe (rcvF (aplF nv R n)).1).1 = l) ∧ ∀ n : Int, n < R.length → (vaDe (rcvF (aplF nv R n)).1).1 = (vaDe (rcvF nv).1).1 := by
  unfold vaSv at h ⊢
  by_cases he : (vaEn l).2 = 0
  · rw [if_pos he] at h ⊢
    obtain ⟨e1, e2, e3⟩ := vaEn_ok he
    rw [e2] at h ⊢
    obtain ⟨R, hR, hRl, hA, hN, hO⟩ := pln_cut nv (vaB l) (pln_512 h) hb (va_bytes l) e3
    refine ⟨R, hR, ⟨e1, by omega, pln_512 h⟩, hA, fun n hn => ?_, fun n hn => ?_⟩
    · obtain ⟨k, hk⟩ := hN n hn
      rw [hk]
      simp only
      rw [va_back e1]
    · rw [(hO n hn).1]
  · rw [if_neg he] at h
    exact absurd h he
theorem bk_wrong {b : List Int} (h : ¬ b.getD 0 0 = 165) : bkR b = false := by unfold bkR; rw [decide_eq_false h]; rfl
/-- an NVRAM neither of whose banks is marked as valid -/
theorem spoilt_rcv {x : List Int} {a b : Int} (hx : bytesL x) (hl : x.length = 512) (ha : 0 ≤ a ∧ a < 256) (hb : 0 ≤ b ∧ b < 256) (h1 : ¬ a = 165) (h2 : ¬ b = 165) :
    ((x.set 0 a).set 256 b).length = 512 ∧ bytesL ((x.set 0 a).set 256 b) ∧ (vaDe (rcvF ((x.set 0 a).set 256 b)).1).1 = [] := by
  have hQl : ((x.set 0 a).set 256 b).length = 512 := by rw [List.length_set, List.length_set, hl]
  refine ⟨hQl, ?_, ?_⟩
  · intro y hy
    rcases List.mem_or_eq_of_mem_set hy with hy | rfl
    · rcases List.mem_or_eq_of_mem_set hy with hy | rfl
      · exact hx y hy
      · exact ha
    · exact hb
  · have e0 := bk_at ((x.set 0 a).set 256 b) 0 0 (by decide)
    have e1 := bk_at ((x.set 0 a).set 256 b) 1 0 (by decide)
    rw [rcv_n (bk_wrong (by
      rw [show bkF ((x.set 0 a).set 256 b) 0 = bkF ((x.set 0 a).set 256 b) ((0 : Nat) : Int) from rfl, e0, List.getD_eq_getElem?_getD, List.getElem?_set_ne (by decide), List.getElem?_set_self (by omega)]
      exact h1)) (bk_wrong (by
      rw [show bkF ((x.set 0 a).set 256 b) 1 = bkF ((x.set 0 a).set 256 b) ((1 : Nat) : Int) from rfl, e1, List.getD_eq_getElem?_getD, List.getElem?_set_self (by rw [List.length_set]; omega)]
      exact h2))]
    rfl
theorem sv_no {nv : List Int} {l : List Stt} (h : ¬ (vaSv nv l).2 = 0) : (vaSv nv l).1 = [] := by
  unfold vaSv at h ⊢
  split
  · rename_i he
    rw [if_pos he] at h
    unfold plnF at h ⊢
    split
    · split
      · rfl
      · rename_i h1 h2
        rw [if_pos h1, if_neg h2] at h
        exact absurd rfl h
    · rfl
  · rfl

/-
  Rows of places and bytes that came in.
-/
set_option maxRecDepth 100000

theorem pbF0 : (Tryd.prog.fieldsOf 54)[0]?.map (fun f => (f.type, f.offset)) = some (3, 0) := by kernel_rfl
theorem pbF1 : (Tryd.prog.fieldsOf 54)[1]?.map (fun f => (f.type, f.offset)) = some (5, 1) := by kernel_rfl
theorem pbFs : (Tryd.prog.fieldsOf 54).size = 2 := by kernel_rfl
theorem pb_trod {H : Type} {enc : TypeId × Value → H} {W : World} {fuel : Nat} {cs : List Value} {y : DataW H × List MemPlace} (h : DataW.trod enc Tryd.prog W 0 (fun _ => true) true fuel 54 cs = some y) :
    ∃ x : Int × Int, cs = pbC x ∧ 0 ≤ x.2 ∧ x.2 < 256 := by
  obtain ⟨xs, n, _, rfl, hl, hlen, hf⟩ := DataW.trod_struct pb_str h
  rw [show Tryd.prog.cellsOf 54 = 2 by kernel_rfl] at hl
  rw [pbFs] at hlen
  match cs, hl with
  | [c0, c1], _ =>
    match xs, hlen with
    | [y0, y1], _ =>
      obtain ⟨f0, g0, e0⟩ := Option.map_eq_some_iff.1 pbF0
      obtain ⟨f1, g1, e1⟩ := Option.map_eq_some_iff.1 pbF1
      obtain ⟨a0, b0⟩ := Prod.mk.inj e0
      obtain ⟨a1, b1⟩ := Prod.mk.inj e1
      have h0 := hf 0 f0 g0
      have h1 := hf 1 f1 g1
      rw [a0, b0, show Tryd.prog.cellsOf 3 = 1 by kernel_rfl] at h0
      rw [a1, b1, show Tryd.prog.cellsOf 5 = 1 by kernel_rfl] at h1
      simp at h0 h1
      obtain ⟨k, k1, k2, k3⟩ := DataW.trod_int Tryd.underlying3 h0
      obtain ⟨n, n1, n2, n3⟩ := DataW.trod_int Tryd.underlying5 h1
      simp at k1 n1
      subst k1 n1 k2 n2
      refine ⟨(k, n), rfl, ?_, ?_⟩ <;> (simp [Lit.wf, IntKind.min, IntKind.max, IntKind.bits, IntKind.signed] at k3 n3; simp only; omega)
theorem pbs_open {H : Type} {enc : TypeId × Value → H} {W : World} {a : Option Addr} {len cap : Nat} {d : DataW H} {ps : List MemPlace} (h : DataW.Trod enc Tryd.prog W 0 (fun _ => true) true 25 (.slice a len cap) d ps) :
    ∃ xs : List (Int × Int), SlR 2 pbR W (.slice a len cap) xs ∧ ∀ x ∈ xs, 0 ≤ x.2 ∧ x.2 < 256 := by
  obtain ⟨fuel, hf⟩ := h
  obtain ⟨rows, h1, h2, h3⟩ := slc_open (e := 54) Tryd.underlying25 (show Tryd.prog.cellsOf 54 = 2 by kernel_rfl) (by omega) (show DataW.trod enc Tryd.prog W 0 (fun _ => true) true fuel 25 [.slice a len cap] = some (d, ps) from hf)
  rcases h3 with ⟨rfl, rfl⟩ | ⟨ds, zs, rfl, hl, h3⟩
  · exact ⟨[], ⟨[], h1, rfl, fun i hi => by simp at hi⟩, fun x hx => by simp at hx⟩
  · obtain ⟨xs, hx1, hx2⟩ := choose_list (rows.zip ds) (fun (r : List Value × DataW H) (x : Int × Int) => r.1 = pbC x ∧ 0 ≤ x.2 ∧ x.2 < 256) (fun r hr => by
      obtain ⟨i, hi, rfl⟩ := List.getElem_of_mem hr
      have hi2 : i < rows.length := by simp at hi; omega
      obtain ⟨n, y, g, g2⟩ := h3 i hi2
      rw [List.getD_eq_getElem?_getD, List.getElem?_eq_getElem hi2] at g
      obtain ⟨x, k1, k2⟩ := pb_trod g
      refine ⟨x, ?_, k2⟩
      rw [List.getElem_zip]; exact k1)
    have hzl : (rows.zip ds).length = rows.length := by simp [hl]
    refine ⟨xs, ⟨rows, h1, by omega, fun i hi => ?_⟩, fun x hx => ?_⟩
    · have := (hx2 i (by omega) hi).1
      rw [List.getElem_zip] at this
      rw [List.getD_eq_getElem?_getD, List.getElem?_eq_getElem (by omega)]
      exact this
    · obtain ⟨i, hi, rfl⟩ := List.getElem_of_mem hx
      exact (hx2 i (by omega) hi).2

/-
  Plain data (numbers, bools, texts; rows and structs of such) tells the cells that hold it. No Go text in sight.
-/
open Go

/-- the cells of plain data, one behind the other -/
def flatCells : DataW Unit → List Value
  | .lit (.int k n) => [.int k n]
  | .lit (.bool b) => [.bool b]
  | .lit (.string l) => [.string ⟨l.toArray⟩]
  | .agg ds => ds.attach.flatMap fun ⟨d, _⟩ => flatCells d
  | _ => []
theorem flat_agg (ds : List (DataW Unit)) : flatCells (.agg ds) = ds.flatMap flatCells := by
  rw [flatCells]
  conv => rhs; rw [← List.attach_map_subtype_val ds]
  rw [List.flatMap_map]

/-- fields that lie one behind the other, from cell o to cell e -/
def contB (P : Program) : List Field → Nat → Nat → Bool
  | [], o, e => o == e
  | f :: fs, o, e => f.offset == o && contB P fs (o + P.cellsOf f.type) e
theorem contB_le (P : Program) : ∀ (fs : List Field) (o e : Nat), contB P fs o e = true → o ≤ e
  | [], o, e, h => by simp [contB] at h; omega
  | f :: fs, o, e, h => by
    simp [contB] at h
    have := contB_le P fs _ e h.2
    omega
/-- a type whose values are plain data -/
def flatB (P : Program) : Nat → TypeId → Bool
  | 0, _ => false
  | m + 1, t => match P.underlying t with
    | some .bool => true
    | some (.int _) => true
    | some .string => true
    | some (.struct fs) => contB P fs.toList 0 (P.cellsOf t) && fs.toList.all fun f => flatB P m f.type
    | some (.array n e) => P.cellsOf t == n * P.cellsOf e && flatB P m e
    | _ => false

theorem flat_fields {P : Program} (cs : List Value) (g : TypeId → List Value → Option (DataW Unit × List MemPlace)) :
    ∀ (fs : List Field) (o e : Nat) (xs : List (DataW Unit × List MemPlace)), contB P fs o e = true → e ≤ cs.length →
      (∀ f ∈ fs, ∀ l d p, g f.type l = some (d, p) → l = flatCells d) →
      fs.mapM (fun f => g f.type ((cs.drop f.offset).take (P.cellsOf f.type))) = some xs → (cs.drop o).take (e - o) = (xs.map (·.1)).flatMap flatCells
  | [], o, e, xs, hc, he, hf, hm => by
    simp [contB] at hc
    subst hc
    simp at hm
    subst hm
    simp
  | f :: fs, o, e, xs, hc, he, hf, hm => by
    simp only [List.mapM_cons, Option.bind_eq_bind, Option.bind_eq_some_iff, Option.pure_def, Option.some.injEq] at hm
    obtain ⟨⟨d, p⟩, hd, r, hr, rfl⟩ := hm
    simp [contB] at hc
    obtain ⟨ho, hc⟩ := hc
    have hle := contB_le P fs _ e hc
    have ih := flat_fields cs g fs _ e r hc he (fun f' h' => hf f' (List.mem_cons_of_mem _ h')) hr
    have h1 := hf f (List.mem_cons_self ..) _ _ _ hd
    rw [ho] at h1
    simp only [List.map_cons, List.flatMap_cons]
    rw [← h1, ← ih, show e - o = P.cellsOf f.type + (e - (o + P.cellsOf f.type)) by omega, List.take_add, List.drop_drop]
theorem flat_rows {P : Program} (cs : List Value) (c : Nat) (g : List Value → Option (DataW Unit × List MemPlace)) (hg : ∀ l d p, g l = some (d, p) → l = flatCells d) :
    ∀ (m s : Nat) (xs : List (DataW Unit × List MemPlace)), (List.range' s m).mapM (fun i => g ((cs.drop (i * c)).take c)) = some xs → (cs.drop (s * c)).take (m * c) = (xs.map (·.1)).flatMap flatCells
  | 0, s, xs, hm => by
    simp at hm
    subst hm
    simp
  | m + 1, s, xs, hm => by
    rw [List.range'_succ] at hm
    simp only [List.mapM_cons, Option.bind_eq_bind, Option.bind_eq_some_iff, Option.pure_def, Option.some.injEq] at hm
    obtain ⟨⟨d, p⟩, hd, r, hr, rfl⟩ := hm
    have ih := flat_rows (P := P) cs c g hg m (s + 1) r hr
    have h1 := hg _ _ _ hd
    simp only [List.map_cons, List.flatMap_cons]
    rw [← h1, ← ih, Nat.succ_mul, Nat.add_comm (m * c) c, List.take_add, List.drop_drop, Nat.succ_mul]
/-- what reads as plain data holds just its cells -/
theorem flat_of_trod {enc : TypeId × Value → Unit} {P : Program} {w : World} {base : Nat} {sp : Nat → Bool} {held : Bool} : ∀ (m fuel : Nat) (t : TypeId) (cs : List Value) (d : DataW Unit) (p : List MemPlace), flatB P m t = true →
    DataW.trod enc P w base sp held fuel t cs = some (d, p) → cs = flatCells d
  | 0, _, _, _, _, _, hf, _ => by simp [flatB] at hf
  | m + 1, 0, _, _, _, _, _, h => by simp [DataW.trod] at h
  | m + 1, fuel + 1, t, cs, d, p, hf, h => by
    unfold flatB at hf
    cases hu : P.underlying t with
    | none => rw [hu] at hf; simp at hf
    | some u =>
      rw [hu] at hf
      cases u <;> simp only [] at hf
      case bool =>
        obtain ⟨z, hc, hx⟩ := DataW.trod_bool hu h
        obtain ⟨rfl, _⟩ := Prod.mk.inj hx
        simp [hc, flatCells]
      case int k =>
        obtain ⟨z, hc, hx, _⟩ := DataW.trod_int hu h
        obtain ⟨rfl, _⟩ := Prod.mk.inj hx
        simp [hc, flatCells]
      case string =>
        obtain ⟨z, hc, hx, _⟩ := DataW.trod_string hu h
        obtain ⟨rfl, _⟩ := Prod.mk.inj hx
        simp [hc, flatCells]
      case struct fs =>
        simp only [DataW.trod, hu] at h
        split at h
        · rename_i hl
          obtain ⟨xs, hm, hx⟩ := Option.map_eq_some_iff.1 h
          rw [Bool.and_eq_true] at hf
          obtain ⟨rfl, _⟩ : .agg (xs.map (·.1)) = d ∧ _ := by simpa using hx
          rw [flat_agg]
          have := flat_fields (P := P) cs (fun t l => DataW.trod enc P w base sp held fuel t l) fs.toList 0 (P.cellsOf t) xs hf.1 (by omega) (fun f hf' l d p hd => flat_of_trod m fuel f.type l d p (List.all_eq_true.1 hf.2 f hf') hd) hm
          rw [← this, List.drop_zero, Nat.sub_zero, List.take_of_length_le (by omega)]
        · cases h
      case array n e =>
        simp only [DataW.trod, hu] at h
        split at h
        · rename_i hl
          obtain ⟨xs, hm, hx⟩ := Option.map_eq_some_iff.1 h
          rw [Bool.and_eq_true, beq_iff_eq] at hf
          obtain ⟨rfl, _⟩ : .agg (xs.map (·.1)) = d ∧ _ := by simpa using hx
          rw [flat_agg]
          rw [List.range_eq_range'] at hm
          have := flat_rows (P := P) cs (P.cellsOf e) (fun l => DataW.trod enc P w base sp held fuel e l) (fun l d p hd => flat_of_trod m fuel e l d p hf.2 hd) n 0 xs hm
          rw [← this, Nat.zero_mul, List.drop_zero, List.take_of_length_le (by omega)]
        · cases h
      all_goals exact absurd hf (by decide)
/-- a listed variable of plain data, the first on its list, holds its cells -/
theorem flat_laid {P : Program} {W : World} {name : String} {d : DataW Unit} {rest : List (String × DataW Unit)} {g : Nat} {t : TypeId} (m : Nat) (hg : P.globalNamed name = some g) (hty : (P.globals[g]?).map (·.type) = some t) (hf : flatB P m t = true)
    (h : laidMet P ((name, d) :: rest) W) : ∀ j v, (flatCells d)[j]? = some v → W.cell? ⟨g, j, none⟩ = some v := by
  obtain ⟨ps, ⟨g', t', cs, fuel, p, q, hg', ht', hvar, hd, _, _⟩, _⟩ := h
  obtain rfl := Option.some.inj (hg.symm.trans hg')
  obtain rfl := Option.some.inj (hty.symm.trans ht')
  have e := flat_of_trod m fuel t cs.toList d p hf hd
  intro j v hv
  rw [World.var?_cell hg hvar j, ← Array.getElem?_toList, e, hv]

/-
  The table of package vars: that it is listed says that it lies in the world as its text lays it.
-/
set_option maxRecDepth 100000
open Go

theorem gTab : Tryd.prog.globalNamed "tinder/vars.table" = some 0 := by kernel_rfl
theorem gTabType : (Tryd.prog.globals[0]?).map (·.type) = some 61 := by kernel_rfl
theorem gFlat : flatB Tryd.prog 5 61 = true := by kernel_rfl
theorem flat_tab : flatCells Rows.laid_tinder_vars_table = tabV := by
  simp [Rows.laid_tinder_vars_table, flat_agg, flatCells, tabV, rowV, List.range_succ, vaT, vaR, kdF]
theorem tab_of_laid {W : World} (h : laidMetH Tryd.prog [("tinder/vars.table", Rows.laid_tinder_vars_table)] W) : Tab W := by
  have h : laidMet Tryd.prog [("tinder/vars.table", Rows.laid_tinder_vars_table)] W := h
  have := flat_laid 5 gTab gTabType gFlat h
  rw [flat_tab] at this
  exact this
/-- the listed blocks, for a witness -/
def laidBlocks : List (Nat × Array Value) := [(0, tabV.toArray)]

end Go.Proofs.YtaiimfdcbdfbdabDoor
