/-
  Plan of the document's answer for layer 18.
-/
import Derived.Test.YtlnlifijnijgmaaNr3
namespace Go.Proofs.Ytlnlifijnijgmaa
open Go.ChangeShapes Go.WideShapes Go.ChangeAt Go.RowKit
set_option linter.unusedVariables false
set_option linter.unusedSimpArgs false

theorem row_snoc : ∀ (l : List Int) (a x : Int), rowF a (l ++ [x]) = rowF a l ++ [(a + l.length, x)]
  | [], a, x => by simp [rowF]
  | y :: l, a, x => by
    simp only [List.cons_append, rowF, row_snoc l (a + 1) x, List.length_cons]
    congr 4
    omega
theorem owp_nil (base : Nat) (w : World) : OwP base w (.slice none 0 0) [] := World.ownsRow_nil _ _ _ _
theorem own_base {base base' : Nat} {w : World} {v : Value} {out : List (Int × Int)} (h : OwP base w v out) (hb : base' ≤ base) : OwP base' w v out := by
  obtain ⟨hl, h⟩ := h
  refine ⟨hl, ?_⟩
  rcases h with h | ⟨b, cap, cur, rfl, hb2, hg, hc, hm, hs, ht⟩
  · exact Or.inl h
  · exact Or.inr ⟨b, cap, cur, rfl, Nat.le_trans hb hb2, hg, hc, hm, hs, ht⟩
theorem info_pb : ∃ i, Try.prog.info? 62 = some i ∧ i.zero = some (.agg #[.int .i64 0, .int .u8 0]) ∧ i.size = 2 ∧ i.bytes = 16 := by
  obtain ⟨i, h1, h2⟩ := Option.map_eq_some_iff.1 infoPb
  injection h2 with h2 h3
  injection h3 with h3 h4
  exact ⟨i, h1, h2, h3, h4⟩

set_option maxHeartbeats 4000000 in
set_option maxRecDepth 100000 in
theorem w_rplan18 (v vd : Value) (xs ds : List Int) (w : World) (h : Rd .u8 w v xs) (rd : Rd .u8 w vd ds) (hb : bytesL xs) (hd : bytesL ds) :
    Calls Try.prog 17 #[v, vd] w fun e w' => ∃ v', e = .returned (.tuple #[v', .int .i64 (plnF xs ds).2]) ∧ OwP w.heap.size w' v' (plnF xs ds).1 ∧ Below w.heap.size w w' := by
  have hlen := rd_len h uB (P := Try.prog)
  have hlend := rd_len rd uB (P := Try.prog)
  by_cases hl : xs.length = 512
  · have hq : ((xs.length : Int) != 512) = false := by rw [show (xs.length : Int) = 512 by omega]; rfl
    by_cases hbig : (248 : Int) < ds.length
    · have e : plnF xs ds = ([], 3) := by unfold plnF; rw [if_pos hl, if_pos hbig]
      rw [e]
      clear e hl
      go_enter Try.func17, Try.ntmps17
      go_wp2_with fail
      go_ret2
      exact ⟨_, rfl, owp_nil _ _, Below.refl _ _⟩
    · have e : plnF xs ds = (wrtF (bsF (cntF xs).1) (((cntF xs).2 + 1) % 256) ds, 0) := by unfold plnF; rw [if_pos hl, if_neg hbig]
      rw [e]
      have hz : ds.length ≤ 248 := by omega
      obtain ⟨i0, hi, hz0, hz1, hz2⟩ := info_parts infoU8
      obtain ⟨i4, hi4, hz4, hs4, hb4⟩ := info_pb
      have cC := w_rcounts18 v xs w h hb hl
      have hg := cnt_gen hb
      obtain ⟨⟨K, g⟩, hc⟩ : ∃ x, cntF xs = x := ⟨_, rfl⟩
      rw [hc] at cC hg ⊢
      simp only at cC hg ⊢
      clear hc e hl
      have hg1 : IntKind.u8.wrap (g + 1) = (g + 1) % 256 := by rw [IntKind.wrap_u8]
      obtain ⟨G, hG⟩ : ∃ G, (g + 1) % 256 = G := ⟨_, rfl⟩
      have hG0 : 0 ≤ G ∧ G < 256 := by omega
      rw [hG] at hg1 ⊢
      clear hG
      obtain ⟨G0, G1⟩ := hG0
      have cS := fun w r => w_rsum18 G vd ds w G0 G1 r hd (by omega)
      have hsb := ns_bd G ds
      have cE := fun w => w_rencint (nsF G ds) w hsb.1 hsb.2
      have hE4 := beB_len 4 (nsF G ds)
      have hH : Hid (hedF G ds = [G, 0, (ds.length : Int)] ++ beB 4 (nsF G ds) ++ ds) := rfl
      have hHb := hed_bytes ⟨G0, G1⟩ hd (by omega)
      have hHl := hed_len G ds
      obtain ⟨S, hS⟩ : ∃ S, nsF G ds = S := ⟨_, rfl⟩
      rw [hS] at cS cE hE4 hsb hH
      obtain ⟨E, hE⟩ : ∃ E, beB 4 S = E := ⟨_, rfl⟩
      rw [hE] at cE hE4 hH
      obtain ⟨L, hL⟩ : ∃ L : Int, (ds.length : Int) = L := ⟨_, rfl⟩
      rw [hL] at hH hlend hbig
      have HL := hid hL
      have hL0 : 0 ≤ L := by omega
      unfold wrtF
      obtain ⟨H, hHe⟩ : ∃ H, hedF G ds = H := ⟨_, rfl⟩
      rw [hHe] at hH hHb hHl ⊢
      have hHi : (H.length : Int) = 7 + L := by omega
      have HHi := hid hHi
      have hHm : (H.length : Int) ≤ 255 := by omega
      clear hHe hL hE hS hHl hHi
      have w8 : IntKind.u8.wrap L = L := by rw [IntKind.wrap_u8]; omega
      have o0 : ∀ W : World, Own8 W.heap.size (W.alloc (.cells #[.int .u8 G, .int .u8 0, .int .u8 L] 5)) (.slice (some ⟨W.heap.size, 0, none⟩) 3 3) [G, 0, L] := fun W => ⟨by simp, .inr ⟨W.heap.size, 3, _, rfl, Nat.le_refl _, heap_alloc_new W _, by simp, by decide, rfl, rfl⟩⟩
      have bx := fun W : World => box_below W (.cells #[.int .u8 G, .int .u8 0, .int .u8 L] 5)
      have key : ∀ (B : Int), (B = 0 ∨ B = 256) → bsF K = B → (K == 0) = decide (B = 256) → Calls Try.prog 17 #[v, vd] w fun e w' => ∃ v', e = .returned (.tuple #[v', .int .i64 0]) ∧ OwP w.heap.size w' v' ((B, 0) :: (rowF (B + 1) H ++ [(B, 165)])) ∧ Below w.heap.size w w' := by
        intro B hB hbs hKB
        clear hbs
        have hrun : ∀ (W : World), OwP W.heap.size (W.alloc (.cells #[.int .i64 B, .int .u8 0] 62)) (.slice (some ⟨W.heap.size, 0, none⟩) 1 1) [(B, 0)] := fun W => ⟨by simp [pbC], .inr ⟨W.heap.size, 1, _, rfl, Nat.le_refl _, heap_alloc_new W _, by simp, by decide, rfl, rfl⟩⟩
        have bp := fun (W : World) (A V : Int) => box_below W (.cells #[.int .i64 A, .int .u8 V] 62)
        rcases hB with rfl | rfl
        · rw [show decide ((0 : Int) = 256) = false from rfl] at hKB
          rw [show (0 : Int) + 1 = 1 from rfl]
          go_enter Try.func17, Try.ntmps17
          go_upto_region 13 with (first
            | (go_at_call 25; refine cC.mono ?_; rintro e w1 ⟨rfl, b1⟩; have c1 := below_trans b1 (bx w1); have p0 := o0 w1)
            | (go_at_call 11; refine (cS _ (rd.below c1)).mono ?_; rintro e w2 ⟨rfl, b2⟩; have c2 := below_trans c1 b2)
            | (go_at_call 30; refine (cE _).mono ?_; rintro e w3 ⟨v3, rfl, o3, b3⟩; have c3 := below_trans c2 b3; have p1 : Own8 w1.heap.size w3 _ [G, 0, L] := own_below (own_below p0 b2) b3; have s1 := below_trans (bx w1) (below_trans b2 b3))
            | (at_builtin; refine wpList_append_rd (k := .u8) rfl _ _ 22 rfl w1.heap.size 5 i0 1 Try.underlying22 hi hz0 hz1 hz2 v4 ([G, 0, L] ++ E) rfl o4 vd ds rfl (rd.below c4) (by unfold maxLen; simp only [List.length_append, List.length_cons, List.length_nil]; omega) (by simp only [List.length_append, List.length_cons, List.length_nil]; omega) s4.size ?_; intro v5 w5 o5 g5; have s5 := below_grown s4 g5 (fun k hk => (o4.lt k hk).1); have c5 := below_trans b1 s5)
            | (at_builtin; refine wpList_append_rd (k := .u8) rfl _ _ 22 rfl w1.heap.size 5 i0 1 Try.underlying22 hi hz0 hz1 hz2 _ [G, 0, L] rfl p1 v3 E rfl (Rd_own o3).1 (by unfold maxLen; simp only [List.length_append, List.length_cons, List.length_nil]; omega) (by simp only [List.length_append, List.length_cons, List.length_nil]; omega) s1.size ?_; intro v4 w4 o4 g4; have s4 := below_grown s1 g4 (fun k hk => (p1.lt k hk).1); have c4 := below_trans b1 s4)
            | fail)
          have r5 : Rd .u8 w5 v5 H := by rw [hH.out]; exact (Rd_own o5).1
          have q0 := hrun w5
          have bq := box_below w5 (.cells #[.int .i64 0, .int .u8 0] 62)
          have hl6 := rd_len r5 uB (P := Try.prog)
          go_upto_region 15 with fail
          generalize (w5.alloc (.cells #[.int .i64 0, .int .u8 0] 62)) = W6 at q0 bq ⊢
          clear o5 s5 g5 o4 s4 g4 c4 p1 s1 p0 c1 c2 c3 b1 b2 b3
          go_loopw [10, 11] (fun O I wx => ∃ k : Nat, (k : Int) ≤ H.length ∧ I = .int .i64 k ∧ OwP w5.heap.size wx O ((0, 0) :: rowF 1 (H.take k)) ∧ Below w5.heap.size w5 wx) (fun _ I _ => (H.length - intOf I).toNat)
          case atStart => exact ⟨0, by omega, rfl, q0, bq⟩
          case round =>
            obtain ⟨k, hk, rfl, ho, hg⟩ := hrel
            by_cases hlt : (k : Int) < H.length
            · obtain ⟨ad, X, q1, q2, q3, q4, q5⟩ := mem_at (r5.below hg) hHb k (by omega) (by omega)
              have hkk : k < H.length := by omega
              have hnx : Hid (rowF 1 (H.take (k + 1)) = rowF 1 (H.take k) ++ [(1 + (k : Int), X)]) := by
                show _ = _
                rw [List.take_succ_eq_append_getElem hkk, row_snoc]
                congr 3
                · rw [List.length_take]; congr 1; omega
                · rw [← q5, List.getD_eq_getElem?_getD]; simp [hkk]
              have hrl : ((0, 0) :: rowF 1 (H.take k)).length = k + 1 := by rw [List.length_cons, row_len, List.length_take]; omega
              obtain ⟨R, hR⟩ : ∃ R, (0, 0) :: rowF 1 (H.take k) = R := ⟨_, rfl⟩
              have hnR : Hid ((0, 0) :: rowF 1 (H.take (k + 1)) = R ++ [(1 + (k : Int), X)]) := by show _ = _; rw [hnx.out, ← hR]; rfl
              rw [hR] at ho hrl
              have HR := hid hrl
              have hr1 : R.length ≤ 300 := by omega
              clear hR hnx q5 hrl
              have bk := bp wr (1 + (k : Int)) X
              have oo := own_belowP ho bk
              go_wp2_with (at_builtin; refine wpList_append_row rfl _ _ 32 rfl w5.heap.size 62 i4 _ 2 16 Try.underlying32 hi4 hz4 hs4 hb4 rfl (by decide) _ R.length _ rfl oo wr.heap.size (pbC (1 + (k : Int), X)) rfl rfl (alloc_row wr (pbC (1 + (k : Int), X)) 62) (pb_one _) (by unfold maxLen; omega) (by omega) (by rw [size_al]; have := hg.size; omega) ?_; intro v7 w7 o7 g7; have h7 := below_grown (below_trans hg bk) g7 (fun k hk => (oo.lt k hk).1))
              go_roundw
              case rel => exact ⟨k + 1, by omega, by go_num, by rw [hnR.out]; simpa [OwP] using o7, h7⟩
              case measure => simp [intOf]; omega
            · have hT : H.take k = H := List.take_of_length_le (by omega)
              rw [hT] at ho
              have hrl : ((0, 0) :: rowF 1 H).length ≤ 300 := by rw [List.length_cons, row_len]; omega
              obtain ⟨R, hR⟩ : ∃ R, (0, 0) :: rowF 1 H = R := ⟨_, rfl⟩
              have hnR : Hid ((0, 0) :: (rowF 1 H ++ [(0, 165)]) = R ++ [(0, 165)]) := by show _ = _; rw [← hR]; rfl
              rw [hR] at ho hrl
              clear hR hT
              have bk := bp wr 0 165
              have oo := own_belowP ho bk
              go_wp2_with (at_builtin; refine wpList_append_row rfl _ _ 32 rfl w5.heap.size 62 i4 _ 2 16 Try.underlying32 hi4 hz4 hs4 hb4 rfl (by decide) _ R.length _ rfl oo wr.heap.size (pbC (0, 165)) rfl rfl (alloc_row wr (pbC (0, 165)) 62) (pb_one _) (by unfold maxLen; omega) (by omega) (by rw [size_al]; have := hg.size; omega) ?_; intro v7 w7 o7 g7; have h7 := below_grown (below_trans hg bk) g7 (fun k hk => (oo.lt k hk).1))
              go_ret2
              refine ⟨_, rfl, ?_, below_trans c5 h7⟩
              rw [hnR.out]
              exact own_base (by simpa [OwP] using o7) c5.size
        · rw [show decide ((256 : Int) = 256) = true from rfl] at hKB
          rw [show (256 : Int) + 1 = 257 from rfl]
          go_enter Try.func17, Try.ntmps17
          go_upto_region 13 with (first
            | (go_at_call 25; refine cC.mono ?_; rintro e w1 ⟨rfl, b1⟩; have c1 := below_trans b1 (bx w1); have p0 := o0 w1)
            | (go_at_call 11; refine (cS _ (rd.below c1)).mono ?_; rintro e w2 ⟨rfl, b2⟩; have c2 := below_trans c1 b2)
            | (go_at_call 30; refine (cE _).mono ?_; rintro e w3 ⟨v3, rfl, o3, b3⟩; have c3 := below_trans c2 b3; have p1 : Own8 w1.heap.size w3 _ [G, 0, L] := own_below (own_below p0 b2) b3; have s1 := below_trans (bx w1) (below_trans b2 b3))
            | (at_builtin; refine wpList_append_rd (k := .u8) rfl _ _ 22 rfl w1.heap.size 5 i0 1 Try.underlying22 hi hz0 hz1 hz2 v4 ([G, 0, L] ++ E) rfl o4 vd ds rfl (rd.below c4) (by unfold maxLen; simp only [List.length_append, List.length_cons, List.length_nil]; omega) (by simp only [List.length_append, List.length_cons, List.length_nil]; omega) s4.size ?_; intro v5 w5 o5 g5; have s5 := below_grown s4 g5 (fun k hk => (o4.lt k hk).1); have c5 := below_trans b1 s5)
            | (at_builtin; refine wpList_append_rd (k := .u8) rfl _ _ 22 rfl w1.heap.size 5 i0 1 Try.underlying22 hi hz0 hz1 hz2 _ [G, 0, L] rfl p1 v3 E rfl (Rd_own o3).1 (by unfold maxLen; simp only [List.length_append, List.length_cons, List.length_nil]; omega) (by simp only [List.length_append, List.length_cons, List.length_nil]; omega) s1.size ?_; intro v4 w4 o4 g4; have s4 := below_grown s1 g4 (fun k hk => (p1.lt k hk).1); have c4 := below_trans b1 s4)
            | fail)
          have r5 : Rd .u8 w5 v5 H := by rw [hH.out]; exact (Rd_own o5).1
          have q0 := hrun w5
          have bq := box_below w5 (.cells #[.int .i64 256, .int .u8 0] 62)
          have hl6 := rd_len r5 uB (P := Try.prog)
          go_upto_region 15 with fail
          generalize (w5.alloc (.cells #[.int .i64 256, .int .u8 0] 62)) = W6 at q0 bq ⊢
          clear o5 s5 g5 o4 s4 g4 c4 p1 s1 p0 c1 c2 c3 b1 b2 b3
          go_loopw [10, 11] (fun O I wx => ∃ k : Nat, (k : Int) ≤ H.length ∧ I = .int .i64 k ∧ OwP w5.heap.size wx O ((256, 0) :: rowF 257 (H.take k)) ∧ Below w5.heap.size w5 wx) (fun _ I _ => (H.length - intOf I).toNat)
          case atStart => exact ⟨0, by omega, rfl, q0, bq⟩
          case round =>
            obtain ⟨k, hk, rfl, ho, hg⟩ := hrel
            by_cases hlt : (k : Int) < H.length
            · obtain ⟨ad, X, q1, q2, q3, q4, q5⟩ := mem_at (r5.below hg) hHb k (by omega) (by omega)
              have hkk : k < H.length := by omega
              have hnx : Hid (rowF 257 (H.take (k + 1)) = rowF 257 (H.take k) ++ [(257 + (k : Int), X)]) := by
                show _ = _
                rw [List.take_succ_eq_append_getElem hkk, row_snoc]
                congr 3
                · rw [List.length_take]; congr 1; omega
                · rw [← q5, List.getD_eq_getElem?_getD]; simp [hkk]
              have hrl : ((256, 0) :: rowF 257 (H.take k)).length = k + 1 := by rw [List.length_cons, row_len, List.length_take]; omega
              obtain ⟨R, hR⟩ : ∃ R, (256, 0) :: rowF 257 (H.take k) = R := ⟨_, rfl⟩
              have hnR : Hid ((256, 0) :: rowF 257 (H.take (k + 1)) = R ++ [(257 + (k : Int), X)]) := by show _ = _; rw [hnx.out, ← hR]; rfl
              rw [hR] at ho hrl
              have HR := hid hrl
              have hr1 : R.length ≤ 300 := by omega
              clear hR hnx q5 hrl
              have bk := bp wr (257 + (k : Int)) X
              have oo := own_belowP ho bk
              go_wp2_with (at_builtin; refine wpList_append_row rfl _ _ 32 rfl w5.heap.size 62 i4 _ 2 16 Try.underlying32 hi4 hz4 hs4 hb4 rfl (by decide) _ R.length _ rfl oo wr.heap.size (pbC (257 + (k : Int), X)) rfl rfl (alloc_row wr (pbC (257 + (k : Int), X)) 62) (pb_one _) (by unfold maxLen; omega) (by omega) (by rw [size_al]; have := hg.size; omega) ?_; intro v7 w7 o7 g7; have h7 := below_grown (below_trans hg bk) g7 (fun k hk => (oo.lt k hk).1))
              go_roundw
              case rel => exact ⟨k + 1, by omega, by go_num, by rw [hnR.out]; simpa [OwP] using o7, h7⟩
              case measure => simp [intOf]; omega
            · have hT : H.take k = H := List.take_of_length_le (by omega)
              rw [hT] at ho
              have hrl : ((256, 0) :: rowF 257 H).length ≤ 300 := by rw [List.length_cons, row_len]; omega
              obtain ⟨R, hR⟩ : ∃ R, (256, 0) :: rowF 257 H = R := ⟨_, rfl⟩
              have hnR : Hid ((256, 0) :: (rowF 257 H ++ [(256, 165)]) = R ++ [(256, 165)]) := by show _ = _; rw [← hR]; rfl
              rw [hR] at ho hrl
              clear hR hT
              have bk := bp wr 256 165
              have oo := own_belowP ho bk
              go_wp2_with (at_builtin; refine wpList_append_row rfl _ _ 32 rfl w5.heap.size 62 i4 _ 2 16 Try.underlying32 hi4 hz4 hs4 hb4 rfl (by decide) _ R.length _ rfl oo wr.heap.size (pbC (256, 165)) rfl rfl (alloc_row wr (pbC (256, 165)) 62) (pb_one _) (by unfold maxLen; omega) (by omega) (by rw [size_al]; have := hg.size; omega) ?_; intro v7 w7 o7 g7; have h7 := below_grown (below_trans hg bk) g7 (fun k hk => (oo.lt k hk).1))
              go_ret2
              refine ⟨_, rfl, ?_, below_trans c5 h7⟩
              rw [hnR.out]
              exact own_base (by simpa [OwP] using o7) c5.size
      by_cases hK : K = 0
      · have e : bsF K = 256 := by unfold bsF; rw [if_pos hK]
        rw [e]
        exact key 256 (Or.inr rfl) e (by rw [hK]; rfl)
      · have e : bsF K = 0 := by unfold bsF; rw [if_neg hK]
        rw [e]
        exact key 0 (Or.inl rfl) e (by simpa using hK)
  · have hq : ((xs.length : Int) != 512) = true := by simp; omega
    have e : plnF xs ds = ([], 1) := by unfold plnF; rw [if_neg hl]
    rw [e]
    clear e hl
    go_enter Try.func17, Try.ntmps17
    go_wp2_with fail
    go_ret2
    exact ⟨_, rfl, owp_nil _ _, Below.refl _ _⟩
end Go.Proofs.Ytlnlifijnijgmaa
