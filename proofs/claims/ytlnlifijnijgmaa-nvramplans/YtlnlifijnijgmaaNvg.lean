/-
  The landed package nvram: a bank that is filled.
-/
import Derived.Test.YtlnlifijnijgmaaNvf
namespace Go.Proofs.Ytlnlifijnijgmaa
open Go.ChangeShapes Go.WideShapes Go.ChangeAt Go.RowKit
set_option linter.unusedVariables false
set_option linter.unusedSimpArgs false

/-- the bank that has these data -/
def filB (g : Int) (ds : List Int) : List Int := [165, g, 0, (ds.length : Int)] ++ beB 4 (nsF g ds) ++ ds ++ List.replicate (248 - ds.length) 0
theorem bk_from (b o : Nat) (lo : Nat) (h : lo < 256) (w : World) : (Instr.sliceAt 47 (.pointer (some ⟨b, o, none⟩)) (some (.int .i64 (lo : Int))) none none).run Try.prog w = .ok (.slice (some ⟨b, o + lo, none⟩) (256 - lo) (256 - lo)) w := by
  rw [run_sliceAt_array_l w 47 ⟨b, o, none⟩ arrB' .i64 (lo : Int) (by omega) (by rw [lenB]; omega), elB, Try.sizeOf5, lenB]
  simp only [Result.andThen, slicedAt, Int.toNat_natCast, Nat.mul_one, Addr.add_lit]
  rw [if_neg (by omega)]
theorem fil_sum (g n : Int) (E : List Int) (hE : E.length = 4) : (([165, g, 0, n] ++ List.replicate 252 0).take 4 ++ E.take 252 ++ ([165, g, 0, n] ++ List.replicate 252 (0 : Int)).drop (4 + (E.take 252).length)) = [165, g, 0, n] ++ E ++ List.replicate 248 0 := by
  rw [splice_tail _ _ _ 4 rfl, List.take_of_length_le (by omega), hE, List.drop_replicate]
theorem fil_data (g n : Int) (E ds : List Int) (hE : E.length = 4) (hd : ds.length ≤ 248) : (([165, g, 0, n] ++ E ++ List.replicate 248 0).take 8 ++ ds.take 248 ++ ([165, g, 0, n] ++ E ++ List.replicate 248 (0 : Int)).drop (8 + (ds.take 248).length)) = [165, g, 0, n] ++ E ++ ds ++ List.replicate (248 - ds.length) 0 := by
  rw [splice_tail ([165, g, 0, n] ++ E) _ _ 8 (by simp [hE]), List.take_of_length_le (by omega), List.drop_replicate]

set_option maxHeartbeats 4000000 in
theorem w_pfilled18 (g : Int) (vd : Value) (ds : List Int) (w : World) (g0 : 0 ≤ g) (g1 : g < 256) (h : Rd .u8 w vd ds) (hb : bytesL ds) (hd : ds.length ≤ 248) :
    Calls Try.prog 29 #[.int .u8 g, vd] w fun e w' => e = .returned (.agg (BkA (filB g ds))) ∧ Below w.heap.size w w' := by
  have z := zeroB.1
  obtain ⟨Z, hZ⟩ : ∃ Z, BkA (List.replicate 256 0) = Z := ⟨_, rfl⟩
  rw [hZ] at z
  have HZ := hid hZ
  have hlen := rd_len h uB (P := Try.prog)
  have cS := fun W r => w_psum18 g vd ds W g0 g1 r hb (by omega)
  have hs := ns_bd g ds
  have hEl : (beB 4 (nsF g ds)).length = 4 := by simp [beB]
  have hfil : Hid (filB g ds = [165, g, 0, (ds.length : Int)] ++ beB 4 (nsF g ds) ++ ds ++ List.replicate (248 - ds.length) 0) := rfl
  obtain ⟨S, hS⟩ : ∃ S, nsF g ds = S := ⟨_, rfl⟩
  rw [hS] at cS hs hEl hfil
  have cE := fun W => w_pencint18 S W hs.1 hs.2
  obtain ⟨E, hE⟩ : ∃ E, beB 4 S = E := ⟨_, rfl⟩
  rw [hE] at cE hEl hfil
  obtain ⟨L, hL⟩ : ∃ L : Int, (ds.length : Int) = L := ⟨_, rfl⟩
  rw [hL] at hlen hfil
  have hL0 : 0 ≤ L := by omega
  have hL1 : L ≤ 248 := by omega
  have w1 : IntKind.u8.wrap (L / 256) = 0 := by rw [IntKind.wrap_u8]; omega
  have w2 : IntKind.u8.wrap L = L := by rw [IntKind.wrap_u8]; omega
  have k0 : ∀ w', (Instr.sliceAt 47 (.pointer (some ⟨w.heap.size + 1, 0, none⟩)) (some (.int .i64 4)) none none).run Try.prog w' = .ok (.slice (some ⟨w.heap.size + 1, 4, none⟩) 252 252) w' := fun w' => bk_from (w.heap.size + 1) 0 4 (by omega) w'
  have k1 : ∀ w', (Instr.sliceAt 47 (.pointer (some ⟨w.heap.size + 1, 0, none⟩)) (some (.int .i64 8)) none none).run Try.prog w' = .ok (.slice (some ⟨w.heap.size + 1, 8, none⟩) 248 248) w' := fun w' => bk_from (w.heap.size + 1) 0 8 (by omega) w'
  have i0 : ∀ w', (Instr.indexAt 47 (.pointer (some ⟨w.heap.size + 1, 0, none⟩)) (.int .i64 0)).run Try.prog w' = .ok (.pointer (some ⟨w.heap.size + 1, 0, none⟩)) w' := fun w' => bk_ix (w.heap.size + 1) 0 0 .i64 0 rfl (by omega) w'
  have i1 : ∀ w', (Instr.indexAt 47 (.pointer (some ⟨w.heap.size + 1, 0, none⟩)) (.int .i64 1)).run Try.prog w' = .ok (.pointer (some ⟨w.heap.size + 1, 1, none⟩)) w' := fun w' => bk_ix (w.heap.size + 1) 0 1 .i64 1 rfl (by omega) w'
  have i2 : ∀ w', (Instr.indexAt 47 (.pointer (some ⟨w.heap.size + 1, 0, none⟩)) (.int .i64 2)).run Try.prog w' = .ok (.pointer (some ⟨w.heap.size + 1, 2, none⟩)) w' := fun w' => bk_ix (w.heap.size + 1) 0 2 .i64 2 rfl (by omega) w'
  have i3 : ∀ w', (Instr.indexAt 47 (.pointer (some ⟨w.heap.size + 1, 0, none⟩)) (.int .i64 3)).run Try.prog w' = .ok (.pointer (some ⟨w.heap.size + 1, 3, none⟩)) w' := fun w' => bk_ix (w.heap.size + 1) 0 3 .i64 3 rfl (by omega) w'
  have HL := hid hL
  clear hZ hS hE hL
  go_enter Try.func29, Try.ntmps29
  go_upto_region 2 with fail
  have s0 := (stands_new w Z 47).below (box_below _ (.cells Z 47))
  have s1 := stands_new (w.alloc (.cells Z 47)) Z 47
  rw [size_al] at s1
  have b1 := below_trans (box_below w (.cells Z 47)) (box_below _ (.cells Z 47))
  generalize (w.alloc (.cells Z 47)).alloc (.cells Z 47) = W1 at s0 s1 b1 ⊢
  have hz : ∀ i, i < 256 → Z[i]? = some (.int .u8 0) := fun i hi => by
    rw [← HZ.out, bka_at i (by rw [List.length_replicate]; exact hi), List.getD_eq_getElem?_getD, List.getElem?_replicate, if_pos hi]
    rfl
  have f0 := s1.cell 0 _ (hz 0 (by omega))
  have f1 := s1.cell 1 _ (hz 1 (by omega))
  have f2 := s1.cell 2 _ (hz 2 (by omega))
  have f3 := s1.cell 3 _ (hz 3 (by omega))
  have fr := s1.free
  have u1 := (((s1.set 0 (.int .u8 165)).set 1 (.int .u8 g)).set 2 (.int .u8 0)).set 3 (.int .u8 L)
  have u0 := (((s0.other (b' := w.heap.size + 1) 0 (.int .u8 165) (by omega)).other (b' := w.heap.size + 1) 1 (.int .u8 g) (by omega)).other (b' := w.heap.size + 1) 2 (.int .u8 0) (by omega)).other (b' := w.heap.size + 1) 3 (.int .u8 L) (by omega)
  have ub := below_set (below_set (below_set (below_set b1 (w.heap.size + 1) 0 (.int .u8 165) (by omega)) (w.heap.size + 1) 1 (.int .u8 g) (by omega)) (w.heap.size + 1) 2 (.int .u8 0) (by omega)) (w.heap.size + 1) 3 (.int .u8 L) (by omega)
  have e1 : ((((Z.setIfInBounds 0 (.int .u8 165)).setIfInBounds 1 (.int .u8 g)).setIfInBounds 2 (.int .u8 0)).setIfInBounds 3 (.int .u8 L)) = BkA ([165, g, 0, L] ++ List.replicate 252 0) := by
    rw [← HZ.out, bk_set, bk_set, bk_set, bk_set]
    rfl
  rw [e1] at u1
  have H1 := hid u1
  have H0 := hid u0
  have HB := hid ub
  have CS := hid cS
  have CE := hid cE
  clear u1 u0 ub e1 s0 s1 b1 hz cS cE
  go_upto_region 5 with fail
  generalize (((W1.setCell ⟨w.heap.size + 1, 0, none⟩ (.int .u8 165)).setCell ⟨w.heap.size + 1, 1, none⟩ (.int .u8 g)).setCell ⟨w.heap.size + 1, 2, none⟩ (.int .u8 0)).setCell ⟨w.heap.size + 1, 3, none⟩ (.int .u8 L) = W2 at H0 H1 HB ⊢
  clear f0 f1 f2 f3 fr
  have cS := fun r => CS.out W2.drew r
  refine wp_region_held_drew (S := fun W => True) (by kernel_rfl) (trivial) (fun hHeld => ?_)
  refine wpAnyH_take (i := 0) (v := ?v1) rfl (by kernel_rfl) (by kernel_rfl) (by kernel_rfl) (fun _ _ _ h => h) (Or.inl ⟨by kernel_rfl, ?h1⟩) hHeld ?r1
  case h1 => intro W hSw; (try dsimp only at hSw); obtain _ := hSw; go_simp; try with_reducible rfl
  simp only [Act.put, List.setIfInBounds_toArray, List.set_cons_zero, List.set_cons_succ]
  refine wpAnyH_take (i := 1) (v := ?v2) rfl (by kernel_rfl) (by kernel_rfl) (by kernel_rfl) (fun _ _ _ h => h) (Or.inl ⟨by kernel_rfl, ?h2⟩) hHeld ?r2
  case h2 => intro W hSw; (try dsimp only at hSw); obtain _ := hSw; go_simp; try with_reducible rfl
  simp only [Act.put, List.setIfInBounds_toArray, List.set_cons_zero, List.set_cons_succ]
  refine wpAnyH_take (i := 2) (v := ?v3) rfl (by kernel_rfl) (by kernel_rfl) (by kernel_rfl) (fun _ _ _ h => h) (Or.inl ⟨by kernel_rfl, ?h3⟩) hHeld ?r3
  case h3 => intro W hSw; (try dsimp only at hSw); obtain _ := hSw; go_simp; try with_reducible rfl
  simp only [Act.put, List.setIfInBounds_toArray, List.set_cons_zero, List.set_cons_succ]
  refine wpAnyH_ready (rs := [3]) (by kernel_rfl) (by simp) ?_
  refine AllReadyH.cons rfl (fun K hK => ?_) AllReadyH.nil
  go_simp
  go_wp2_with (first | (go_at_call 10; refine (cS (h.below (below_drewN HB.out 1))).mono ?_; rintro e w3 ⟨rfl, b3⟩))
  refine hK.out _ _ (trivial) (fun hHeld => ?_)
  clear hK K
  (try simp only [Act.put, List.setIfInBounds_toArray, List.set_cons_zero, List.set_cons_succ])
  refine wpAnyH_ready (rs := [4]) (by kernel_rfl) (by simp) ?_
  refine AllReadyH.cons rfl (fun K hK => ?_) AllReadyH.nil
  go_simp
  go_wp2_with (first | (go_at_call 36; refine (CE.out w3).mono ?_; rintro e w4 ⟨v4, rfl, r4, b4⟩; have b24 : Below W2.heap.size W2 w4 := below_trans (below_drewN (Below.refl _ _) 1) (below_trans b3 b4); have h4 := H1.out.below b24; obtain ⟨w5, r5, s5, q5, z5, o5⟩ := run_copy_bk (off := 4) (n := 252) h4 r4 (by omega) (by simp only [List.length_append, List.length_replicate, List.length_cons, List.length_nil]; omega); have hz5 : ∀ (ty : TypeId), (Builtin.copy_ #[22, 22] ty #[.slice (some ⟨w.heap.size + 1, 4, none⟩) 252 252, v4]).run Try.prog w4 = .ok (.int .i64 ((E.length.min 252 : Nat) : Int)) w5 := r5))
  refine hK.out _ _ (trivial) (fun hHeld => ?_)
  clear hK K
  (try simp only [Act.put, List.setIfInBounds_toArray, List.set_cons_zero, List.set_cons_succ])
  refine wpAnyH_ready (rs := [5]) (by kernel_rfl) (by simp) ?_
  refine AllReadyH.cons rfl (fun K hK => ?_) AllReadyH.nil
  go_simp
  refine hK.out _ _ (trivial) (fun hHeld => ?_)
  clear hK K
  (try simp only [Act.put, List.setIfInBounds_toArray, List.set_cons_zero, List.set_cons_succ])
  refine wpAnyH_done (by kernel_rfl) ?_ _
  have hzl : (ds.length.min 248 : Nat) = ds.length := Nat.min_eq_left hd
  rw [fil_sum g L E hEl] at s5
  have c5 : Below w.heap.size w w5 := q5 _ _ (HB.out.trans (b24.mono HB.out.size)) (by omega)
  obtain ⟨w6, r6, s6, q6, z6, o6⟩ := run_copy_bk (off := 8) (n := 248) s5 (h.below c5) (by omega) (by simp only [List.length_append, List.length_replicate, List.length_cons, List.length_nil, hEl]; omega)
  have hz6 : ∀ (ty : TypeId), (Builtin.copy_ #[22, 22] ty #[.slice (some ⟨w.heap.size + 1, 8, none⟩) 248 248, vd]).run Try.prog w5 = .ok (.int .i64 ((ds.length.min 248 : Nat) : Int)) w6 := r6
  have c6 : Below w.heap.size w w6 := q6 _ _ c5 (by omega)
  have t6 : Stands w6 w.heap.size Z 47 := by
    show w6.heap[w.heap.size]? = _
    rw [o6 _ (by omega), o5 _ (by omega)]
    exact H0.out.below b24
  rw [fil_data g L E ds hEl hd, ← hfil.out] at s6
  have hfl : (filB g ds).length = 256 := by rw [hfil.out]; simp only [List.length_append, List.length_replicate, List.length_cons, List.length_nil, hEl]; omega
  clear hz5 r5 s5 q5 o5 r6 q6 o6 h4 cS
  have T6 := hid t6
  have S6 := hid s6
  clear t6 s6
  go_upto_region 7 with fail
  refine wp_region_lit ?_
  refine wpList_load_row rfl 47 (.tmp 5) rfl (w.heap.size + 1) rfl 47 _ (0, 0) _ S6.out arrB rfl (by rw [bka_size, hfl]; exact szB) ?_
  refine wpList_store_row rfl 47 (.tmp 4) (.tmp 27) rfl w.heap.size (BkA (filB g ds)) rfl rfl 47 _ T6.out (by rw [bka_size, hfl]; exact szB) (by rw [← HZ.out, bka_size, bka_size, hfl, List.length_replicate]) (bka_one _) ?_
  have u0 := setRow_heap w6 w.heap.size _ (BkA (filB g ds)) 47 (0, 0) T6.out
  have bb := below_setRow c6 (Nat.le_refl _) (BkA (filB g ds))
  generalize w6.setRow w.heap.size (BkA (filB g ds)) = W9 at u0 bb ⊢
  iterate 4 go_step
  (try simp only [Exit.inBlock, Exit.then])
  refine bodyPost_ret (v := .agg (BkA (filB g ds))) ?_ rfl ⟨rfl, bb⟩
  exact results_cell_row rfl _ W9 w.heap.size _ (BkA (filB g ds)) (0, 0) _ rfl u0 arrB rfl (by rw [bka_size, hfl]; exact szB)
end Go.Proofs.Ytlnlifijnijgmaa
