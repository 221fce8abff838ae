/-
  lay, leadHere and newestCase of the landed package code.
-/
import Derived.Test.YtfmpeminfcehaaaCk5
namespace Go.Proofs.Ytfmpeminfcehaaa
open Go.ChangeShapes Go.WideShapes Go.ChangeAt Go.RowKit
set_option linter.unusedVariables false
set_option linter.unusedSimpArgs false

set_option maxHeartbeats 1000000 in
theorem w_layF (q base : Nat) (x0 x1 x2 x3 x4 : Value) (c : List Opd) (K N : Int) (w : World) (st : Stands w q #[x0, x1, x2, x3, x4] 52) (oc : OwC base w x0 c) (hl : c.length = 256) :
    Calls Try.prog 34 #[.pointer (some ⟨q, 0, none⟩), .agg #[.int .i64 K, .int .u32 N]] w fun e w' => e = .returned (.tuple #[.int .i64 0, .int .i64 3]) ∧ Below w.heap.size w w' := by
  have hla : ∀ ty w', (Builtin.len_ #[22] ty #[x0]).run Try.prog w' = .ok (.int .i64 256) w' := by
    have := slr_len (OwnR.read (R := opR) (by decide) oc (fun _ _ q => q)) uO (P := Try.prog)
    rw [hl] at this
    exact this
  have bw := box_below w (.cells #[.int .i64 K, .int .u32 N] 37)
  have f0 := (st.below bw).cell 0 _ rfl
  clear st oc hl
  go_enter Try.func34, Try.ntmps34
  go_wp2_with fail
  go_ret2
  exact ⟨rfl, bw⟩

set_option maxHeartbeats 4000000 in
set_option maxRecDepth 100000 in
theorem w_layR (q base : Nat) (x0 x1 x2 x3 x4 : Value) (c : List Opd) (K N : Int) (w : World) (st : Stands w q #[x0, x1, x2, x3, x4] 52) (oc : OwC base w x0 c) (hl : c.length < 256) (hb : base ≤ w.heap.size) (hq : base ≤ q) :
    Calls Try.prog 34 #[.pointer (some ⟨q, 0, none⟩), .agg #[.int .i64 K, .int .u32 N]] w fun e w' => ∃ a9 c9, e = .returned (.tuple #[.int .i64 c.length, .int .i64 0]) ∧ Stands w' q #[.slice a9 (c.length + 1) c9, x1, x2, x3, x4] 52 ∧ OwC base w' (.slice a9 (c.length + 1) c9) (c ++ [(K, N)]) ∧ Out 0 0 w w' ∧ Below base w w' := by
  have hla := slr_len (OwnR.read (R := opR) (by decide) oc (fun _ _ q => q)) uO (P := Try.prog)
  have hne : ((c.length : Int) == 256) = false := by rw [beq_eq_false_iff_ne]; omega
  obtain ⟨i9, hi9, hz9, hz8, hz7⟩ := info_parts infoOp10
  have bw := box_below w (.cells #[.int .i64 K, .int .u32 N] 37)
  have sp := stands_new w #[.int .i64 K, .int .u32 N] 37
  go_enter Try.func34, Try.ntmps34
  go_upto_region 1 with fail
  generalize w.alloc (.cells #[.int .i64 K, .int .u32 N] 37) = W0 at bw sp ⊢
  have st0 := st.below bw
  have f0 := st0.cell 0 _ rfl
  have y0 := sp.cell 0 _ rfl
  have y1 := sp.cell 1 _ rfl
  have bX := box_below W0 (.cells #[.int .i64 K, .int .u32 N] 37)
  have bd : Below (W0.alloc (.cells #[.int .i64 K, .int .u32 N] 37)).heap.size (W0.alloc (.cells #[.int .i64 K, .int .u32 N] 37)) (W0.alloc (.cells #[.int .i64 K, .int .u32 N] 37)).drew := below_drewN (Below.refl _ _) 1
  have b3 := below_trans bw (below_trans bX bd)
  have stX := st.below b3
  have f1 := (st0.below bX).cell 0 _ rfl
  have y2 := (sp.below bX).cell 0 _ rfl
  have y3 := (sp.below bX).cell 1 _ rfl
  have ocX : OwC base _ x0 c := OwnR.below oc b3 (fun _ _ q => q)
  have sl := SlC.below (slc_one W0 [Value.int .i64 K, .int .u32 N] 37 2 rfl) bd
  have one : ∀ r ∈ [[Value.int .i64 K, .int .u32 N]], ∀ u ∈ r, u.oneCell' = true := fun r hr u hu => by rw [List.mem_singleton] at hr; subst hr; simp at hu; rcases hu with rfl | rfl <;> rfl
  obtain ⟨rows, p1, p2, p3, p4⟩ := ocX
  have hsX := Nat.le_trans hb b3.size
  have P1 := hid p1
  have P2 := hid p2
  have P4 := hid p4
  have SL := hid sl
  have B3 := hid b3
  have hlI : (c.length : Int) < 256 := by omega
  clear p1 p2 p4 sl b3 bX bd oc st sp st0
  go_wp2_with fail
  go_region_law (refine step_append_rows rfl (.tmp 20) (.tmp 22) 22 rfl base 37 i9 _ 2 16 Try.underlying22 hi9 hz9 hz8 hz7 rfl (by decide) x0 c.length _ (by simp [Act.eval, Act.put]) p3 (.slice (some ⟨W0.heap.size, 0, none⟩) 1 1) [[.int .i64 K, .int .u32 N]] (by simp [Act.eval, Act.put]) SL.out one (by unfold maxLen; simp only [List.length_singleton]; omega) (by simp only [List.length_singleton]; omega) hsX ?_; intro v9 w9 ho9 hg9; have ho9 : w9.ownsRow base 37 2 v9 (c.length + 1) (rows.flatten ++ [.int .i64 K, .int .u32 N]) := (by simpa using ho9); obtain ⟨a9, c9, rfl⟩ := own_form ho9; have so9 := Stands.grown stX hg9 (stands_apart stX p3 (by decide)); have u0 := so9.cell 0 _ rfl; have uf := so9.free 0; have HO := hid ho9; clear ho9)
  all_goals (
    have kW := Kept.own p3 hg9
    have oC9 : OwC base w9 (.slice a9 (c.length + 1) c9) (c ++ [(K, N)]) := OwnR.snoc (e := 37) (O := opR) opR_apt10 P1.out P2.out p3 P4.out rfl (x := (K, N)) rfl HO.out hg9
    have kS := set_kept so9 0 (.slice a9 (c.length + 1) c9)
    have soF : Stands _ q #[.slice a9 (c.length + 1) c9, x1, x2, x3, x4] 52 := so9.set 0 (.slice a9 (c.length + 1) c9)
    have oCF : OwC base _ _ _ := OwnR.kept oC9 kS (by decide) opR_apt10
    have uF := (Out.below (lo := 0) (hi := 0) B3.out).trans ((Out.kept kW (by decide) (by decide)).trans (Out.kept kS (by decide) (by decide)))
    have bF := bset (bgrown (below_base B3.out hb) hg9 hsX (fun k hk => (p3.lt k hk).1)) q 0 (.slice a9 (c.length + 1) c9) hq
    go_wp2_with fail
    go_ret2
    exact ⟨a9, c9, rfl, soF, oCF, uF, bF⟩)

set_option maxHeartbeats 4000000 in
set_option maxRecDepth 100000 in
theorem w_lead (q base g cap : Nat) (x1 x2 x3 x4 vl : Value) (c : List Opd) (l : List Int) (w : World) (st : Stands w q #[.slice (some ⟨g, 0, none⟩) c.length cap, x1, x2, x3, x4] 52) (oc : OwC base w (.slice (some ⟨g, 0, none⟩) c.length cap) c) (hl : ∀ W, Kept 37 w W → Rd .i64 W vl l) (hr : ∀ n ∈ l, 0 ≤ n ∧ n < c.length) (hc : c.length ≤ 256) :
    Calls Try.prog 51 #[.pointer (some ⟨q, 0, none⟩), vl] w fun e w' => e = .returned (.tuple #[]) ∧ OwC base w' (.slice (some ⟨g, 0, none⟩) c.length cap) (aimF c l c.length) ∧ w.grownBy w' (some g) := by
  obtain ⟨csr, rC⟩ := OwnR.row oc
  have hqg : q ≠ g := fun e => stands_apart st rC (by decide) (by rw [e]; rfl)
  have hl' : ∀ W, w.grownBy W (some g) → Rd .i64 W vl l := fun W hg => hl W (Kept.own rC hg)
  have hla := rd_len (hl' w (gb_refl w _)) uJ (P := Try.prog)
  have hm := rd_maxI (hl' w (gb_refl w _))
  unfold maxLen at hm
  have hwr := wrap32 (c.length : Int) (by omega) (by omega)
  have hlc : ∀ ty w', (Builtin.len_ #[22] ty #[.slice (some ⟨g, 0, none⟩) c.length cap]).run Try.prog w' = .ok (.int .i64 c.length) w' := slr_len (OwnR.read (R := opR) (by decide) oc (fun _ _ q => q)) uO (P := Try.prog)
  have HL := hid hl'
  have HR := hid hr
  have ST := hid st
  clear hl hl' hr st rC
  go_enter Try.func51, Try.ntmps51
  go_wp2_with fail
  go_loopw [8] (fun I wx => ∃ k : Nat, (k : Int) ≤ l.length ∧ I = .int .i64 k ∧ OwC base wx (.slice (some ⟨g, 0, none⟩) c.length cap) (aimF c (l.take k) c.length) ∧ w.grownBy wx (some g)) (fun I _ => (l.length - intOf I).toNat)
  case atStart => exact ⟨0, by omega, rfl, oc, gb_refl _ _⟩
  case round =>
    clear oc
    obtain ⟨k, hk, rfl, oC, hg⟩ := hrel
    by_cases hlt : (k : Int) < l.length
    · have hkl : k < l.length := by omega
      have st : Stands wr q #[.slice (some ⟨g, 0, none⟩) c.length cap, x1, x2, x3, x4] 52 := Stands.grown ST.out hg (fun e => hqg (by cases e; rfl))
      have f0 := st.cell 0 _ rfl
      obtain ⟨a1, i1, c1⟩ := rd_idx (HL.out wr hg) uJ zJ k (by omega) hlt
      simp only [Int.toNat_natCast] at c1
      rw [show l.getD k 0 = l[k] by rw [List.getD_eq_getElem?_getD, List.getElem?_eq_getElem hkl]; rfl] at c1
      have hx := HR.out _ (List.getElem_mem hkl)
      have htk : aimF c (l.take (k + 1)) c.length = setN (aimF c (l.take k) c.length) l[k] c.length := by
        rw [List.take_succ_eq_append_getElem hkl]
        unfold aimF
        rw [List.foldl_append]
        rfl
      obtain ⟨X, hX⟩ : ∃ X, l[k] = X := ⟨_, rfl⟩
      rw [hX] at c1 hx htk
      obtain ⟨j, rfl⟩ : ∃ j : Nat, X = (j : Int) := ⟨X.toNat, by omega⟩
      have hj : j < c.length := by omega
      have hC : (aimF c (l.take k) c.length).length = c.length := aim_len _ _ _
      obtain ⟨C, hCe⟩ : ∃ C, aimF c (l.take k) c.length = C := ⟨_, rfl⟩
      rw [hCe] at oC hC htk
      have hix := idx_op g c.length cap j hj
      have oC2 : OwC base wr (.slice (some ⟨g, 0, none⟩) C.length cap) C := by rw [hC]; exact oC
      have oCd := OwnR.below oC2 (below_drewN (Below.refl _ wr) 1) (fun _ _ q => q)
      obtain ⟨s1, ⟨u, s2⟩, s3⟩ := OwC.put oCd j (by omega) c.length
      obtain ⟨_, ⟨u', y1⟩, y2⟩ := OwC.put oC2 j (by omega) c.length
      have S1 := hid s1
      have HT := hid htk
      have HC := hid hC
      have HG := hid hg
      have hjc : (j : Int) < c.length := by omega
      clear hx htk hX hCe hC oC oC2 oCd s1 hg
      go_wp2_with fail
      go_region
      all_goals (
        go_wp2_with fail
        have b9 : w.grownBy _ (some g) := gb_set (gb_below HG.out (below_drewN (Below.refl _ wr) 1)) (j * 2 + 1) (.int .u32 c.length)
        go_roundw
        case rel => exact ⟨k + 1, by omega, by go_num, by rw [HT.out]; have := S1.out; rw [HC.out] at this; exact this, b9⟩
        case measure => simp [intOf]; omega)
    · have hfull : l.take k = l := List.take_of_length_le (by omega)
      rw [hfull] at oC
      go_wp2_with fail
      go_end0
      exact ⟨rfl, oC, hg⟩

set_option maxHeartbeats 4000000 in
set_option maxRecDepth 100000 in
theorem w_ncase0 (q : Nat) (x0 x1 x2 x3 x4 : Value) (b : Bool) (w : World) (st : Stands w q #[x0, x1, x2, x3, x4] 52) (h : RdN w x4 []) :
    Calls Try.prog 53 #[.pointer (some ⟨q, 0, none⟩), .bool b] w fun e w' => e = .returned (.tuple #[.agg #[.int .i64 0, .slice none 0 0], .slice none 0 0, .int .i64 13]) ∧ Below w.heap.size w w' := by
  have cn := fun W (b : Below w.heap.size w W) => w_newN0 x4 W (RdN.below h b)
  go_enter Try.func53, Try.ntmps53
  go_upto_region 1 with fail
  have sr := stands_new w #[.int .i64 0, .slice none 0 0] 58
  have bw := box_below w (.cells #[.int .i64 0, .slice none 0 0] 58)
  generalize w.alloc (.cells #[.int .i64 0, .slice none 0 0] 58) = W0 at sr bw ⊢
  have f4 := (st.below bw).cell 4 _ rfl
  go_upto_region 2 with (go_at_call 52; refine (cn _ bw).mono ?_; rintro e w2 ⟨rfl, d2⟩; clear cn)
  have b2 := box_below w2 (.cells #[.int .i64 0, .slice none 0 0] 58)
  have B := below_trans d2 b2
  generalize w2.alloc (.cells #[.int .i64 0, .slice none 0 0] 58) = W2 at b2 B ⊢
  have sr2 := sr.below B
  have s0 := sr2.cell 0 _ rfl
  have s1 := sr2.cell 1 _ rfl
  have sf := sr2.free
  have g1 : Stands _ w.heap.size #[.int .i64 0, .slice none 0 0] 58 := (sr2.set 0 (.int .i64 0)).set 1 (.slice none 0 0)
  have J := below_set (below_set (below_trans bw B) w.heap.size 0 (.int .i64 0) (Nat.le_refl _)) w.heap.size 1 (.slice none 0 0) (Nat.le_refl _)
  go_wp2_with fail
  (try simp only [Exit.inBlock, Exit.then])
  refine bodyPost_ret (res_row3 rfl _ _ w.heap.size 58 _ (0, 0) _ rfl g1 Try.underlying58 rfl (show _ = some 2 by kernel_rfl)) rfl ?_
  exact ⟨rfl, J⟩

set_option maxHeartbeats 4000000 in
set_option maxRecDepth 100000 in
theorem w_ncaseY (lo hi q g cap : Nat) (x0 x1 x2 x3 : Value) (l : List Opn) (rows : List (List Value)) (vo : Value) (b : Bool) (w : World) (st : Stands w q #[x0, x1, x2, x3, .slice (some ⟨g, 0, none⟩) l.length cap] 52) (hl : 0 < l.length) (N : Nwst lo hi w (.slice (some ⟨g, 0, none⟩) l.length cap) l g cap rows vo) (hA1 : ((nwO l).1 != -1) = b) :
    Calls Try.prog 53 #[.pointer (some ⟨q, 0, none⟩), .bool b] w fun e w' => e = .returned (.tuple #[.agg #[.int .i64 (nwO l).1, vo], .slice (some ⟨g, 0, none⟩) (l.length - 1) cap, .int .i64 0]) ∧ Below w.heap.size w w' := by
  have cn := fun W (b : Below w.heap.size w W) => w_newN lo hi g cap l rows vo W hl (N.kept hl (Kept.below (T := 35) b) (by decide) (by decide))
  obtain ⟨va, vq, rfl⟩ := own_form N.outs
  clear N
  obtain ⟨A, hA⟩ : ∃ A, (nwO l).1 = A := ⟨_, rfl⟩
  obtain ⟨n5, hn5⟩ : ∃ A, (nwO l).2.length = A := ⟨_, rfl⟩
  (try rw [hA, hn5])
  rw [hA] at hA1
  simp only [hA, hn5] at cn
  clear hA hn5
  cases b <;> (try simp only [Bool.not_true, Bool.not_false] at hA1)
  all_goals (
    go_enter Try.func53, Try.ntmps53
    go_upto_region 1 with fail
    have sr := stands_new w #[.int .i64 0, .slice none 0 0] 58
    have bw := box_below w (.cells #[.int .i64 0, .slice none 0 0] 58)
    generalize w.alloc (.cells #[.int .i64 0, .slice none 0 0] 58) = W0 at sr bw ⊢
    have f4 := (st.below bw).cell 4 _ rfl
    go_upto_region 2 with (go_at_call 52; refine (cn _ bw).mono ?_; rintro e w2 ⟨rfl, d2⟩; clear cn)
    have b2 := box_below w2 (.cells #[.int .i64 A, .slice va n5 vq] 58)
    have sb := stands_new w2 #[.int .i64 A, .slice va n5 vq] 58
    have B := below_trans d2 b2
    generalize w2.alloc (.cells #[.int .i64 A, .slice va n5 vq] 58) = W2 at b2 B sb ⊢
    have sr2 := sr.below B
    have s0 := sr2.cell 0 _ rfl
    have s1 := sr2.cell 1 _ rfl
    have sf := sr2.free
    have v0 := sb.cell 0 _ rfl
    have v1 := sb.cell 1 _ rfl
    have g1 : Stands _ w.heap.size #[.int .i64 A, .slice va n5 vq] 58 := (sr2.set 0 (.int .i64 A)).set 1 (.slice va n5 vq)
    have J := below_set (below_set (below_trans bw B) w.heap.size 0 (.int .i64 A) (Nat.le_refl _)) w.heap.size 1 (.slice va n5 vq) (Nat.le_refl _)
    go_wp2_with fail
    (try simp only [Exit.inBlock, Exit.then])
    refine bodyPost_ret (res_row3 rfl _ _ w.heap.size 58 _ (0, 0) _ rfl g1 Try.underlying58 rfl (show _ = some 2 by kernel_rfl)) rfl ?_
    exact ⟨rfl, J⟩)

set_option maxHeartbeats 4000000 in
set_option maxRecDepth 100000 in
theorem w_ncaseN (lo hi q g cap : Nat) (x0 x1 x2 x3 : Value) (l : List Opn) (rows : List (List Value)) (vo : Value) (b : Bool) (w : World) (st : Stands w q #[x0, x1, x2, x3, .slice (some ⟨g, 0, none⟩) l.length cap] 52) (hl : 0 < l.length) (N : Nwst lo hi w (.slice (some ⟨g, 0, none⟩) l.length cap) l g cap rows vo) (hA1 : ((nwO l).1 != -1) = !b) :
    Calls Try.prog 53 #[.pointer (some ⟨q, 0, none⟩), .bool b] w fun e w' => e = .returned (.tuple #[.agg #[.int .i64 0, .slice none 0 0], .slice none 0 0, .int .i64 13]) ∧ Below w.heap.size w w' := by
  have cn := fun W (b : Below w.heap.size w W) => w_newN lo hi g cap l rows vo W hl (N.kept hl (Kept.below (T := 35) b) (by decide) (by decide))
  obtain ⟨va, vq, rfl⟩ := own_form N.outs
  clear N
  obtain ⟨A, hA⟩ : ∃ A, (nwO l).1 = A := ⟨_, rfl⟩
  obtain ⟨n5, hn5⟩ : ∃ A, (nwO l).2.length = A := ⟨_, rfl⟩
  (try rw [hA, hn5])
  rw [hA] at hA1
  simp only [hA, hn5] at cn
  clear hA hn5
  cases b <;> (try simp only [Bool.not_true, Bool.not_false] at hA1)
  all_goals (
    go_enter Try.func53, Try.ntmps53
    go_upto_region 1 with fail
    have sr := stands_new w #[.int .i64 0, .slice none 0 0] 58
    have bw := box_below w (.cells #[.int .i64 0, .slice none 0 0] 58)
    generalize w.alloc (.cells #[.int .i64 0, .slice none 0 0] 58) = W0 at sr bw ⊢
    have f4 := (st.below bw).cell 4 _ rfl
    go_upto_region 2 with (go_at_call 52; refine (cn _ bw).mono ?_; rintro e w2 ⟨rfl, d2⟩; clear cn)
    have b2 := box_below w2 (.cells #[.int .i64 A, .slice va n5 vq] 58)
    have sb := stands_new w2 #[.int .i64 A, .slice va n5 vq] 58
    have B := below_trans d2 b2
    generalize w2.alloc (.cells #[.int .i64 A, .slice va n5 vq] 58) = W2 at b2 B sb ⊢
    have sr2 := sr.below B
    have s0 := sr2.cell 0 _ rfl
    have s1 := sr2.cell 1 _ rfl
    have sf := sr2.free
    have v0 := sb.cell 0 _ rfl
    have v1 := sb.cell 1 _ rfl
    have g1 : Stands _ w.heap.size #[.int .i64 0, .slice none 0 0] 58 := (sr2.set 0 (.int .i64 0)).set 1 (.slice none 0 0)
    have J := below_set (below_set (below_trans bw B) w.heap.size 0 (.int .i64 0) (Nat.le_refl _)) w.heap.size 1 (.slice none 0 0) (Nat.le_refl _)
    go_wp2_with fail
    (try simp only [Exit.inBlock, Exit.then])
    refine bodyPost_ret (res_row3 rfl _ _ w.heap.size 58 _ (0, 0) _ rfl g1 Try.underlying58 rfl (show _ = some 2 by kernel_rfl)) rfl ?_
    exact ⟨rfl, J⟩)

end Go.Proofs.Ytfmpeminfcehaaa
