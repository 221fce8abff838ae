/-
  Texts of one proof, laid one behind the other: Nvg Nvh Nvi.
-/
import Derived.Test.YtaiimfdcbdfbdabDoorB20
namespace Go.Proofs.YtaiimfdcbdfbdabDoor
open Go.ChangeShapes Go.WideShapes Go.ChangeAt Go.RowKit
set_option linter.unusedVariables false
set_option linter.unusedSimpArgs false

/-
  The landed package nvram: a bank that is filled.
-/
set_option maxRecDepth 100000

/-- the bank that has these data -/
def filB (g : Int) (ds : List Int) : List Int := [165, g, 0, (ds.length : Int)] ++ beB 4 (nsF g ds) ++ ds ++ List.replicate (248 - ds.length) 0
theorem bk_from (b o : Nat) (lo : Nat) (h : lo < 256) (w : World) : (Instr.sliceAt 66 (.pointer (some ⟨b, o, none⟩)) (some (.int .i64 (lo : Int))) none none).run Tryd.prog w = .ok (.slice (some ⟨b, o + lo, none⟩) (256 - lo) (256 - lo)) w := by
  rw [run_sliceAt_array_l w 66 ⟨b, o, none⟩ arrB' .i64 (lo : Int) (by omega) (by rw [lenB]; omega), elB, Tryd.sizeOf5, lenB]
  simp only [Result.andThen, slicedAt, Int.toNat_natCast, Nat.mul_one, Addr.add_lit]
  rw [if_neg (by omega)]
theorem fil_sum (g n : Int) (E : List Int) (hE : E.length = 4) : (([165, g, 0, n] ++ List.replicate 252 0).take 4 ++ E.take 252 ++ ([165, g, 0, n] ++ List.replicate 252 (0 : Int)).drop (4 + (E.take 252).length)) = [165, g, 0, n] ++ E ++ List.replicate 248 0 := by
  rw [splice_tail _ _ _ 4 rfl, List.take_of_length_le (by omega), hE, List.drop_replicate]
theorem fil_data (g n : Int) (E ds : List Int) (hE : E.length = 4) (hd : ds.length ≤ 248) : (([165, g, 0, n] ++ E ++ List.replicate 248 0).take 8 ++ ds.take 248 ++ ([165, g, 0, n] ++ E ++ List.replicate 248 (0 : Int)).drop (8 + (ds.take 248).length)) = [165, g, 0, n] ++ E ++ ds ++ List.replicate (248 - ds.length) 0 := by
  rw [splice_tail ([165, g, 0, n] ++ E) _ _ 8 (by simp [hE]), List.take_of_length_le (by omega), List.drop_replicate]

set_option maxHeartbeats 4000000 in
theorem w_pfilled18 (g : Int) (vd : Value) (ds : List Int) (w : World) (g0 : 0 ≤ g) (g1 : g < 256) (h : Rd .u8 w vd ds) (hb : bytesL ds) (hd : ds.length ≤ 248) :
    Calls Tryd.prog 36 #[.int .u8 g, vd] w fun e w' => e = .returned (.agg (BkA (filB g ds))) ∧ Below w.heap.size w w' := by
  have z := zeroB.1
  obtain ⟨Z, hZ⟩ : ∃ Z, BkA (List.replicate 256 0) = Z := ⟨_, rfl⟩
  rw [hZ] at z
  have HZ := hid hZ
  have hlen := rd_len h uB (P := Tryd.prog)
  have cS := fun W r => w_psum18 g vd ds W g0 g1 r hb (by omega)
  have hs := ns_bd g ds
  have hEl : (beB 4 (nsF g ds)).length = 4 := by simp [beB]
  have hfil : Hid (filB g ds = [165, g, 0, (ds.length : Int)] ++ beB 4 (nsF g ds) ++ ds ++ List.replicate (248 - ds.length) 0) := rfl
  obtain ⟨S, hS⟩ : ∃ S, nsF g ds = S := ⟨_, rfl⟩
  rw [hS] at cS hs hEl hfil
  have cE := fun W => w_pencint18 S W hs.1 hs.2
  obtain ⟨E, hE⟩ : ∃ E, beB 4 S = E := ⟨_, rfl⟩
  rw [hE] at cE hEl hfil
  obtain ⟨L, hL⟩ : ∃ L : Int, (ds.length : Int) = L := ⟨_, rfl⟩
  rw [hL] at hlen hfil
  have hL0 : 0 ≤ L := by omega
  have hL1 : L ≤ 248 := by omega
  have w1 : IntKind.u8.wrap (L / 256) = 0 := by rw [IntKind.wrap_u8]; omega
  have w2 : IntKind.u8.wrap L = L := by rw [IntKind.wrap_u8]; omega
  have k0 : ∀ w', (Instr.sliceAt 66 (.pointer (some ⟨w.heap.size + 1, 0, none⟩)) (some (.int .i64 4)) none none).run Tryd.prog w' = .ok (.slice (some ⟨w.heap.size + 1, 4, none⟩) 252 252) w' := fun w' => bk_from (w.heap.size + 1) 0 4 (by omega) w'
  have k1 : ∀ w', (Instr.sliceAt 66 (.pointer (some ⟨w.heap.size + 1, 0, none⟩)) (some (.int .i64 8)) none none).run Tryd.prog w' = .ok (.slice (some ⟨w.heap.size + 1, 8, none⟩) 248 248) w' := fun w' => bk_from (w.heap.size + 1) 0 8 (by omega) w'
  have i0 : ∀ w', (Instr.indexAt 66 (.pointer (some ⟨w.heap.size + 1, 0, none⟩)) (.int .i64 0)).run Tryd.prog w' = .ok (.pointer (some ⟨w.heap.size + 1, 0, none⟩)) w' := fun w' => bk_ix (w.heap.size + 1) 0 0 .i64 0 rfl (by omega) w'
  have i1 : ∀ w', (Instr.indexAt 66 (.pointer (some ⟨w.heap.size + 1, 0, none⟩)) (.int .i64 1)).run Tryd.prog w' = .ok (.pointer (some ⟨w.heap.size + 1, 1, none⟩)) w' := fun w' => bk_ix (w.heap.size + 1) 0 1 .i64 1 rfl (by omega) w'
  have i2 : ∀ w', (Instr.indexAt 66 (.pointer (some ⟨w.heap.size + 1, 0, none⟩)) (.int .i64 2)).run Tryd.prog w' = .ok (.pointer (some ⟨w.heap.size + 1, 2, none⟩)) w' := fun w' => bk_ix (w.heap.size + 1) 0 2 .i64 2 rfl (by omega) w'
  have i3 : ∀ w', (Instr.indexAt 66 (.pointer (some ⟨w.heap.size + 1, 0, none⟩)) (.int .i64 3)).run Tryd.prog w' = .ok (.pointer (some ⟨w.heap.size + 1, 3, none⟩)) w' := fun w' => bk_ix (w.heap.size + 1) 0 3 .i64 3 rfl (by omega) w'
  have HL := hid hL
  clear hZ hS hE hL
  go_enter Tryd.func36, Tryd.ntmps36
  go_upto_region 2 with fail
  have s0 := (stands_new w Z 66).below (box_below _ (.cells Z 66))
  have s1 := stands_new (w.alloc (.cells Z 66)) Z 66
  rw [size_al] at s1
  have b1 := below_trans (box_below w (.cells Z 66)) (box_below _ (.cells Z 66))
  generalize (w.alloc (.cells Z 66)).alloc (.cells Z 66) = W1 at s0 s1 b1 ⊢
  have hz : ∀ i, i < 256 → Z[i]? = some (.int .u8 0) := fun i hi => by
    rw [← HZ.out, bka_at i (by rw [List.length_replicate]; exact hi), List.getD_eq_getElem?_getD, List.getElem?_replicate, if_pos hi]
    rfl
  have f0 := s1.cell 0 _ (hz 0 (by omega))
  have f1 := s1.cell 1 _ (hz 1 (by omega))
  have f2 := s1.cell 2 _ (hz 2 (by omega))
  have f3 := s1.cell 3 _ (hz 3 (by omega))
  have fr := s1.free
  have u1 := (((s1.set 0 (.int .u8 165)).set 1 (.int .u8 g)).set 2 (.int .u8 0)).set 3 (.int .u8 L)
  have u0 := (((s0.other (b' := w.heap.size + 1) 0 (.int .u8 165) (by omega)).other (b' := w.heap.size + 1) 1 (.int .u8 g) (by omega)).other (b' := w.heap.size + 1) 2 (.int .u8 0) (by omega)).other (b' := w.heap.size + 1) 3 (.int .u8 L) (by omega)
  have ub := below_set (below_set (below_set (below_set b1 (w.heap.size + 1) 0 (.int .u8 165) (by omega)) (w.heap.size + 1) 1 (.int .u8 g) (by omega)) (w.heap.size + 1) 2 (.int .u8 0) (by omega)) (w.heap.size + 1) 3 (.int .u8 L) (by omega)
  have e1 : ((((Z.setIfInBounds 0 (.int .u8 165)).setIfInBounds 1 (.int .u8 g)).setIfInBounds 2 (.int .u8 0)).setIfInBounds 3 (.int .u8 L)) = BkA ([165, g, 0, L] ++ List.replicate 252 0) := by
    rw [← HZ.out, bk_set, bk_set, bk_set, bk_set]
    rfl
  rw [e1] at u1
  have H1 := hid u1
  have H0 := hid u0
  have HB := hid ub
  have CS := hid cS
  have CE := hid cE
  clear u1 u0 ub e1 s0 s1 b1 hz cS cE
  go_upto_region 5 with fail
  generalize (((W1.setCell ⟨w.heap.size + 1, 0, none⟩ (.int .u8 165)).setCell ⟨w.heap.size + 1, 1, none⟩ (.int .u8 g)).setCell ⟨w.heap.size + 1, 2, none⟩ (.int .u8 0)).setCell ⟨w.heap.size + 1, 3, none⟩ (.int .u8 L) = W2 at H0 H1 HB ⊢
  clear f0 f1 f2 f3 fr
  have cS := fun r => CS.out W2.drew r
  refine wp_region_held_drew (S := fun W => True) (by kernel_rfl) (trivial) (fun hHeld => ?_)
  refine wpAnyH_take (i := 0) (v := ?v1) rfl (by kernel_rfl) (by kernel_rfl) (by kernel_rfl) (fun _ _ _ h => h) (Or.inl ⟨by kernel_rfl, ?h1⟩) hHeld ?r1
  case h1 => intro W hSw; (try dsimp only at hSw); obtain _ := hSw; go_simp; try with_reducible rfl
  simp only [Act.put, List.setIfInBounds_toArray, List.set_cons_zero, List.set_cons_succ]
  refine wpAnyH_take (i := 1) (v := ?v2) rfl (by kernel_rfl) (by kernel_rfl) (by kernel_rfl) (fun _ _ _ h => h) (Or.inl ⟨by kernel_rfl, ?h2⟩) hHeld ?r2
  case h2 => intro W hSw; (try dsimp only at hSw); obtain _ := hSw; go_simp; try with_reducible rfl
  simp only [Act.put, List.setIfInBounds_toArray, List.set_cons_zero, List.set_cons_succ]
  refine wpAnyH_take (i := 2) (v := ?v3) rfl (by kernel_rfl) (by kernel_rfl) (by kernel_rfl) (fun _ _ _ h => h) (Or.inl ⟨by kernel_rfl, ?h3⟩) hHeld ?r3
  case h3 => intro W hSw; (try dsimp only at hSw); obtain _ := hSw; go_simp; try with_reducible rfl
  simp only [Act.put, List.setIfInBounds_toArray, List.set_cons_zero, List.set_cons_succ]
  refine wpAnyH_ready (rs := [3]) (by kernel_rfl) (by simp) ?_
  refine AllReadyH.cons rfl (fun K hK => ?_) AllReadyH.nil
  go_simp
  go_wp2_with (first | (go_at_call 57; refine (cS (h.below (below_drewN HB.out 1))).mono ?_; rintro e w3 ⟨rfl, b3⟩))
  refine hK.out _ _ (trivial) (fun hHeld => ?_)
  clear hK K
  (try simp only [Act.put, List.setIfInBounds_toArray, List.set_cons_zero, List.set_cons_succ])
  refine wpAnyH_ready (rs := [4]) (by kernel_rfl) (by simp) ?_
  refine AllReadyH.cons rfl (fun K hK => ?_) AllReadyH.nil
  go_simp
  go_wp2_with (first | (go_at_call 56; refine (CE.out w3).mono ?_; rintro e w4 ⟨v4, rfl, r4, b4⟩; have b24 : Below W2.heap.size W2 w4 := below_trans (below_drewN (Below.refl _ _) 1) (below_trans b3 b4); have h4 := H1.out.below b24; obtain ⟨w5, r5, s5, q5, z5, o5⟩ := run_copy_bk (off := 4) (n := 252) h4 r4 (by omega) (by simp only [List.length_append, List.length_replicate, List.length_cons, List.length_nil]; omega); have hz5 : ∀ (ty : TypeId), (Builtin.copy_ #[22, 22] ty #[.slice (some ⟨w.heap.size + 1, 4, none⟩) 252 252, v4]).run Tryd.prog w4 = .ok (.int .i64 ((E.length.min 252 : Nat) : Int)) w5 := r5))
  refine hK.out _ _ (trivial) (fun hHeld => ?_)
  clear hK K
  (try simp only [Act.put, List.setIfInBounds_toArray, List.set_cons_zero, List.set_cons_succ])
  refine wpAnyH_ready (rs := [5]) (by kernel_rfl) (by simp) ?_
  refine AllReadyH.cons rfl (fun K hK => ?_) AllReadyH.nil
  go_simp
  refine hK.out _ _ (trivial) (fun hHeld => ?_)
  clear hK K
  (try simp only [Act.put, List.setIfInBounds_toArray, List.set_cons_zero, List.set_cons_succ])
  refine wpAnyH_done (by kernel_rfl) ?_ _
  have hzl : (ds.length.min 248 : Nat) = ds.length := Nat.min_eq_left hd
  rw [fil_sum g L E hEl] at s5
  have c5 : Below w.heap.size w w5 := q5 _ _ (HB.out.trans (b24.mono HB.out.size)) (by omega)
  obtain ⟨w6, r6, s6, q6, z6, o6⟩ := run_copy_bk (off := 8) (n := 248) s5 (h.below c5) (by omega) (by simp only [List.length_append, List.length_replicate, List.length_cons, List.length_nil, hEl]; omega)
  have hz6 : ∀ (ty : TypeId), (Builtin.copy_ #[22, 22] ty #[.slice (some ⟨w.heap.size + 1, 8, none⟩) 248 248, vd]).run Tryd.prog w5 = .ok (.int .i64 ((ds.length.min 248 : Nat) : Int)) w6 := r6
  have c6 : Below w.heap.size w w6 := q6 _ _ c5 (by omega)
  have t6 : Stands w6 w.heap.size Z 66 := by
    show w6.heap[w.heap.size]? = _
    rw [o6 _ (by omega), o5 _ (by omega)]
    exact H0.out.below b24
  rw [fil_data g L E ds hEl hd, ← hfil.out] at s6
  have hfl : (filB g ds).length = 256 := by rw [hfil.out]; simp only [List.length_append, List.length_replicate, List.length_cons, List.length_nil, hEl]; omega
  clear hz5 r5 s5 q5 o5 r6 q6 o6 h4 cS
  have T6 := hid t6
  have S6 := hid s6
  clear t6 s6
  go_upto_region 7 with fail
  refine wp_region_lit ?_
  refine wpList_load_row rfl 66 (.tmp 5) rfl (w.heap.size + 1) rfl 66 _ (0, 0) _ S6.out arrB rfl (by rw [bka_size, hfl]; exact szB) ?_
  refine wpList_store_row rfl 66 (.tmp 4) (.tmp 27) rfl w.heap.size (BkA (filB g ds)) rfl rfl 66 _ T6.out (by rw [bka_size, hfl]; exact szB) (by rw [← HZ.out, bka_size, bka_size, hfl, List.length_replicate]) (bka_one _) ?_
  have u0 := setRow_heap w6 w.heap.size _ (BkA (filB g ds)) 66 (0, 0) T6.out
  have bb := below_setRow c6 (Nat.le_refl _) (BkA (filB g ds))
  generalize w6.setRow w.heap.size (BkA (filB g ds)) = W9 at u0 bb ⊢
  iterate 4 go_step
  (try simp only [Exit.inBlock, Exit.then])
  refine bodyPost_ret (v := .agg (BkA (filB g ds))) ?_ rfl ⟨rfl, bb⟩
  exact results_cell_row rfl _ W9 w.heap.size _ (BkA (filB g ds)) (0, 0) _ rfl u0 arrB rfl (by rw [bka_size, hfl]; exact szB)

/-
  The landed package nvram: the row of bytes that makes what begins somewhere a bank; the closure that lays one of them.
-/
set_option maxRecDepth 100000

/-- the boxes that the closure works on, and the row so far -/
def LayS (base : Nat) (W : World) (gl gs : Nat) (st : Int) (out : List (Int × Int)) : Prop :=
  ∃ vl, Stands W gl #[vl] 25 ∧ Stands W gs #[.int .i64 st] 3 ∧ OwP base W vl out
theorem own_set2 {w : World} {b : Nat} {e : TypeId} {sz : Nat} {v : Value} {n : Nat} {cs : List Value} (o : w.ownsRow b e sz v n cs) (g : Nat) (j : Nat) (u : Value) (hg : g < b) : (w.setCell ⟨g, j, none⟩ u).ownsRow b e sz v n cs := by
  obtain ⟨hl, o⟩ := o
  refine ⟨hl, ?_⟩
  rcases o with o | ⟨g', cap, cur, rfl, hb, h1, o⟩
  · exact Or.inl o
  · refine Or.inr ⟨g', cap, cur, rfl, hb, ?_, o⟩
    simp only [World.setCell]
    rw [Array.getElem?_modify, if_neg (by omega)]
    exact h1

set_option maxHeartbeats 2000000 in
theorem w_play18 (A V st : Int) (gl gs base : Nat) (out : List (Int × Int)) (W : World) (hne : ¬ gs = gl) (hgl : gl < base) (hgs : gs < base) (hbs : base ≤ W.heap.size) (s : LayS base W gl gs st out) (ho : out.length ≤ 300) (hA : IntKind.i64.wrap (st + A) = st + A) :
    Calls Tryd.prog 54 #[.int .i64 A, .int .u8 V, .pointer (some ⟨gl, 0, none⟩), .pointer (some ⟨gs, 0, none⟩)] W fun e W' => e = .returned (.tuple #[]) ∧ LayS base W' gl gs st (out ++ [(st + A, V)]) ∧ (∀ (B : Nat) (w0 : World), Below B w0 W → B ≤ gl → B ≤ base → Below B w0 W') ∧ (∀ g : Nat, ¬ g = gl → g < base → W'.heap[g]? = W.heap[g]?) ∧ W.heap.size ≤ W'.heap.size := by
  obtain ⟨i4, hi4, hz4, hs4, hb4⟩ := info_pb
  obtain ⟨vl, s0, s1, o⟩ := s
  obtain ⟨ao, cap, rfl⟩ := own_form o
  have c0 : W.cell? ⟨gl, 0, none⟩ = some (.slice ao out.length cap) := s0.cell 0 _ rfl
  have c1 : W.cell? ⟨gs, 0, none⟩ = some (.int .i64 st) := s1.cell 0 _ rfl
  have bk := box_below W (.cells #[.int .i64 (st + A), .int .u8 V] 54)
  have oo := own_belowP o bk
  have S0 := hid (s0.below bk)
  have S1 := hid (s1.below bk)
  have OO := hid oo
  have fr := s0.free 0
  have hsz : Hid ((W.alloc (.cells #[.int .i64 (st + A), .int .u8 V] 54)).heap.size = W.heap.size + 1) := size_al _ _
  go_enter Tryd.func54, Tryd.ntmps54
  go_wp2_with (at_builtin; refine wpList_append_row rfl _ _ 25 rfl base 54 i4 _ 2 16 Tryd.underlying25 hi4 hz4 hs4 hb4 rfl (by decide) _ out.length _ rfl oo W.heap.size (pbC (st + A, V)) rfl rfl (alloc_row W (pbC (st + A, V)) 54) (pb_one _) (by unfold maxLen; omega) (by omega) (by rw [size_al]; omega) ?_; intro v7 w7 o7 g7; obtain ⟨a7, q7, rfl⟩ := own_form o7; have a0 := S0.out.grown g7 (fun hh => by have := (oo.lt gl hh.symm).1; omega); have a1 := S1.out.grown g7 (fun hh => by have := (oo.lt gs hh.symm).1; omega); have d0 : w7.cell? ⟨gl, 0, none⟩ = some (.slice ao out.length cap) := a0.cell 0 _ rfl; have d1 := a0.free 0)
  have hz := bk.size
  refine bodyPost_end (v := .tuple #[]) (results_none rfl _ _ _) rfl ⟨rfl, ⟨_, a0.set 0 _, a1.other 0 _ hne, own_set2 (by simpa [OwP] using o7) gl 0 _ hgl⟩, fun B w0 hB h1 h2 => ?_, fun g h1 h2 => ?_, ?_⟩
  · have hq := (Below.trans hB (bk.mono (by omega))).grown g7 (by omega) (fun k hk => Nat.le_trans h2 (oo.lt k hk).1)
    exact hq.setCell h1 _
  · simp only [World.setCell]
    rw [Array.getElem?_modify, if_neg (by omega), g7.block g (by omega) (fun hh => by have := (oo.lt g hh.symm).1; omega), bk.block g (by omega)]
  · have := g7.size
    simp only [World.setCell, Array.size_modify]
    omega

/-
  The landed package nvram: row.
-/
set_option maxRecDepth 100000

theorem LayS.below {base : Nat} {W W' : World} {gl gs : Nat} {st : Int} {out : List (Int × Int)} (h : LayS base W gl gs st out) (g : Below W.heap.size W W') : LayS base W' gl gs st out := by
  obtain ⟨vl, a, b, c⟩ := h
  exact ⟨vl, a.below g, b.below g, own_belowP c g⟩
theorem BkAt.heap {w w' : World} {b : Nat} {B : List Int} (h : BkAt w b 0 B) (g : w'.heap[b]? = w.heap[b]?) : BkAt w' b 0 B := fun i hi => by
  have := h i hi
  unfold World.cell? at this ⊢
  rw [g]
  exact this

set_option maxHeartbeats 4000000 in
theorem w_prow18 (st : Int) (B : List Int) (w : World) (s0 : 0 ≤ st) (s1 : st ≤ 1000) (hl : B.length = 256) (hb : bytesL B) (hn : bkN B ≤ 248) :
    Calls Tryd.prog 35 #[.int .i64 st, .agg (BkA B)] w fun e w' => ∃ v, e = .returned v ∧ OwP w.heap.size w' v ((st, 0) :: (rowF (st + 1) ((B.drop 1).take (7 + bkN B).toNat) ++ [(st, B.getD 0 0)])) ∧ Below w.heap.size w w' := by
  have hmf : ∀ (fn : Fn) (first cap : Array Value) (w : World), (Instr.makeFunc fn first cap).run Tryd.prog w = .ok (.func fn first cap) w := fun _ _ _ _ => rfl
  have eg : ∀ args w, (callFunc 54 args).run Tryd.prog w = .ok (.enter 54 args) w := enters_of Tryd.func54 (by kernel_rfl) rfl
  have x2 := getD_byte hb 2
  have x3 := getD_byte hb 3
  have hn0 : 0 ≤ bkN B := by unfold bkN; omega
  have cl := fun W => w_plen18 B W hl hb
  obtain ⟨N, hN⟩ : ∃ N, bkN B = N := ⟨_, rfl⟩
  rw [hN] at cl hn hn0 ⊢
  have HI := hid (fun (k : Nat) (hk : k < 256) (w' : World) => bk_ix (w.heap.size + 1) 0 k .i64 (k : Int) rfl hk w')
  have HW := hid (fun (k : Int) (h0 : 0 ≤ k) (h1 : k ≤ 1000) => (show IntKind.i64.wrap (st + k) = st + k by rw [IntKind.wrap_i64]; omega))
  have hw8 : IntKind.i64.wrap (8 + N) = 8 + N := by rw [IntKind.wrap_i64]; omega
  clear hN x2 x3
  go_enter Tryd.func35, Tryd.ntmps35
  go_upto_region 3 with fail
  have d1 := stands_new w #[.int .i64 st] 3
  have d2 := bkat_box (w.alloc (.cells #[.int .i64 st] 3)) B 66
  have d3 := stands_new ((w.alloc (.cells #[.int .i64 st] 3)).alloc (.cells (BkA B) 66)) #[.slice none 0 0] 25
  have e1 := box_below w (.cells #[.int .i64 st] 3)
  have e2 := box_below (w.alloc (.cells #[.int .i64 st] 3)) (.cells (BkA B) 66)
  have e3 := box_below ((w.alloc (.cells #[.int .i64 st] 3)).alloc (.cells (BkA B) 66)) (.cells #[.slice none 0 0] 25)
  have d1 := (d1.below e2).below e3
  have d2 := d2.below e3
  have bb := below_trans e1 (below_trans e2 e3)
  have hz : (((w.alloc (.cells #[.int .i64 st] 3)).alloc (.cells (BkA B) 66)).alloc (.cells #[.slice none 0 0] 25)).heap.size = w.heap.size + 3 := by rw [size_al, size_al, size_al]
  rw [size_al] at d2
  rw [size_al, size_al] at d3
  generalize ((w.alloc (.cells #[.int .i64 st] 3)).alloc (.cells (BkA B) 66)).alloc (.cells #[.slice none 0 0] 25) = W3 at d1 d2 d3 bb hz ⊢
  have L0 : LayS (w.heap.size + 3) W3 (w.heap.size + 1 + 1) w.heap.size st [] := ⟨_, d3, d1, owp_nil _ _⟩
  have CP := hid (fun A V out W hb s ho hA => w_play18 A V st (w.heap.size + 1 + 1) w.heap.size (w.heap.size + 3) out W (by omega) (by omega) (by omega) hb s ho hA)
  clear d1 d3 e1 e2 e3
  go_upto_region 4 with (go_at_fn 54; refine (CP.out 0 0 [] W3 (by omega) L0 (by simp) (HW.out 0 (by omega) (by omega))).mono ?_; rintro e W4 ⟨rfl, y4, z4, u4, v4⟩)
  have ba4 := d2.heap (u4 _ (by omega) (by omega))
  have bb4 := z4 _ _ bb (by omega) (by omega)
  rw [Int.add_zero, List.nil_append] at y4
  clear d2 bb L0 z4 u4
  go_wp2_with fail
  go_loopw [7] (fun I wx => ∃ k : Nat, 1 ≤ k ∧ (k : Int) ≤ 8 + N ∧ I = .int .i64 k ∧ LayS (w.heap.size + 3) wx (w.heap.size + 1 + 1) w.heap.size st ((st, 0) :: rowF (st + 1) ((B.drop 1).take (k - 1))) ∧ BkAt wx (w.heap.size + 1) 0 B ∧ Below w.heap.size w wx ∧ w.heap.size + 3 ≤ wx.heap.size) (fun I _ => (8 + N - intOf I).toNat)
  case atStart => exact ⟨1, by omega, by omega, rfl, by simpa [rowF] using y4, ba4, bb4, by omega⟩
  case round =>
    obtain ⟨k, hk1, hk, rfl, hL, hA, hg, hz5⟩ := hrel
    clear y4 ba4 bb4
    have hR : ((st, (0 : Int)) :: rowF (st + 1) ((B.drop 1).take (k - 1))).length ≤ 300 := by rw [List.length_cons, row_len, List.length_take, List.length_drop]; omega
    by_cases hlt : (k : Int) < 8 + N
    · have hkk : k - 1 < (B.drop 1).length := by rw [List.length_drop]; omega
      have hnx : Hid ((st, 0) :: rowF (st + 1) ((B.drop 1).take (k + 1 - 1)) = ((st, 0) :: rowF (st + 1) ((B.drop 1).take (k - 1))) ++ [(st + (k : Int), B.getD k 0)]) := by
        show _ = _
        rw [show k + 1 - 1 = k - 1 + 1 by omega, List.take_succ_eq_append_getElem hkk, row_snoc, List.cons_append]
        congr 3
        rw [Prod.mk.injEq]
        constructor
        · rw [List.length_take]; omega
        · rw [List.getElem_drop, List.getD_eq_getElem?_getD]
          have : 1 + (k - 1) = k := by omega
          simp [this, show k < B.length by omega]
      obtain ⟨R, hRe⟩ : ∃ R, (st, (0 : Int)) :: rowF (st + 1) ((B.drop 1).take (k - 1)) = R := ⟨_, rfl⟩
      rw [hRe] at hL hR hnx
      obtain ⟨X, hX⟩ : ∃ X, B.getD k 0 = X := ⟨_, rfl⟩
      have fk : ∀ W, BkAt W (w.heap.size + 1) 0 B → W.cell? ⟨w.heap.size + 1, k, none⟩ = some (.int .u8 X) := fun W h => by have := h k (by omega); rw [hX] at this; simpa using this
      rw [hX] at hnx
      have ik : ∀ w', (Instr.indexAt 66 (.pointer (some ⟨w.heap.size + 1, 0, none⟩)) (.int .i64 (k : Int))).run Tryd.prog w' = .ok (.pointer (some ⟨w.heap.size + 1, k, none⟩)) w' := fun w' => by simpa using HI.out k (by omega) w'
      clear hX hRe hkk
      have HA := hid hA
      have HL := hid hL
      clear hA hL
      go_upto_region 5 with fail
      refine wp_region_lit ?_
      iterate 3 go_step
      refine wpList_load_bk rfl (.tmp 3) rfl (w.heap.size + 1) 0 rfl B HA.out hl ?_
      go_wp2_with (first
        | (go_at_call 55; refine (cl _).mono ?_; rintro e w1 ⟨rfl, b1⟩; have f1 := fk w1 (HA.out.below b1))
        | (go_at_fn 54; refine (CP.out (k : Int) X R w1 (by have := b1.size; omega) (HL.out.below b1) hR (HW.out (k : Int) (by omega) (by omega))).mono ?_; rintro e W5 ⟨rfl, y5, z5, u5, v5⟩))
      go_roundw
      case rel => exact ⟨k + 1, by omega, by omega, by go_num, by rw [hnx.out]; exact y5, (HA.out.below b1).heap (u5 _ (by omega) (by omega)), z5 _ _ (below_trans hg b1) (by omega) (by omega), by have := b1.size; omega⟩
      case measure => simp [intOf]; omega
    · have hkN : k - 1 = (7 + N).toNat := by omega
      rw [hkN] at hL hR
      obtain ⟨R, hRe⟩ : ∃ R, (st, (0 : Int)) :: rowF (st + 1) ((B.drop 1).take (7 + N).toNat) = R := ⟨_, rfl⟩
      have hnx : Hid ((st, 0) :: (rowF (st + 1) ((B.drop 1).take (7 + N).toNat) ++ [(st, B.getD 0 0)]) = R ++ [(st, B.getD 0 0)]) := by show _ = _; rw [← hRe]; rfl
      rw [hRe] at hL hR
      obtain ⟨X, hX⟩ : ∃ X, B.getD 0 0 = X := ⟨_, rfl⟩
      have fk : ∀ W, BkAt W (w.heap.size + 1) 0 B → W.cell? ⟨w.heap.size + 1, 0, none⟩ = some (.int .u8 X) := fun W h => by have := h 0 (by omega); rw [hX] at this; simpa using this
      rw [hX] at hnx
      have ik : ∀ w', (Instr.indexAt 66 (.pointer (some ⟨w.heap.size + 1, 0, none⟩)) (.int .i64 0)).run Tryd.prog w' = .ok (.pointer (some ⟨w.heap.size + 1, 0, none⟩)) w' := fun w' => by simpa using HI.out 0 (by omega) w'
      have HX := hid hX
      clear hX hRe
      have HA := hid hA
      have HL := hid hL
      clear hA hL
      go_upto_region 5 with fail
      refine wp_region_lit ?_
      iterate 3 go_step
      refine wpList_load_bk rfl (.tmp 3) rfl (w.heap.size + 1) 0 rfl B HA.out hl ?_
      go_wp2_with (first
        | (go_at_call 55; refine (cl _).mono ?_; rintro e w1 ⟨rfl, b1⟩; have f1 := fk w1 (HA.out.below b1))
        | (go_at_fn 54; refine (CP.out 0 X R w1 (by have := b1.size; omega) (HL.out.below b1) hR (HW.out 0 (by omega) (by omega))).mono ?_; rintro e W5 ⟨rfl, ⟨v5, y5, y6, y7⟩, z5, u5, v5'⟩; obtain ⟨a7, q7, rfl⟩ := own_form y7; have f5 : W5.cell? ⟨w.heap.size + 1 + 1, 0, none⟩ = some (.slice a7 (R ++ [(st + 0, X)]).length q7) := y5.cell 0 _ rfl))
      have c5 := z5 _ _ (below_trans hg b1) (by omega) (by omega)
      go_ret
      refine ⟨_, rfl, ?_, c5⟩
      rw [HX.out, hnx.out]
      rw [Int.add_zero] at y7
      exact own_base (by simpa [OwP] using y7) (by omega)

end Go.Proofs.YtaiimfdcbdfbdabDoor
