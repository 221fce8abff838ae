/-
  Texts of one proof, laid one behind the other: Nr4 Rv9 Cp.
-/
import Derived.Test.YtaiimfdcbdfbdabDoorB17
import Derived.Laws.CopyOwn
import Derived.Lib.BufferWrite
import Derived.Deep.OwnRows
namespace Go.Proofs.YtaiimfdcbdfbdabDoor
open Go.ChangeShapes Go.WideShapes Go.ChangeAt Go.RowKit
set_option linter.unusedVariables false
set_option linter.unusedSimpArgs false

/-
  Plan of the document's answer for layer 18.
-/
set_option maxRecDepth 100000

theorem row_snoc : ∀ (l : List Int) (a x : Int), rowF a (l ++ [x]) = rowF a l ++ [(a + l.length, x)]
  | [], a, x => by simp [rowF]
  | y :: l, a, x => by
    simp only [List.cons_append, rowF, row_snoc l (a + 1) x, List.length_cons]
    congr 4
    omega
theorem owp_nil (base : Nat) (w : World) : OwP base w (.slice none 0 0) [] := World.ownsRow_nil _ _ _ _
theorem own_base {base base' : Nat} {w : World} {v : Value} {out : List (Int × Int)} (h : OwP base w v out) (hb : base' ≤ base) : OwP base' w v out := by
  obtain ⟨hl, h⟩ := h
  refine ⟨hl, ?_⟩
  rcases h with h | ⟨b, cap, cur, rfl, hb2, hg, hc, hm, hs, ht⟩
  · exact Or.inl h
  · exact Or.inr ⟨b, cap, cur, rfl, Nat.le_trans hb hb2, hg, hc, hm, hs, ht⟩
theorem info_pb : ∃ i, Tryd.prog.info? 54 = some i ∧ i.zero = some (.agg #[.int .i64 0, .int .u8 0]) ∧ i.size = 2 ∧ i.bytes = 16 := by
  obtain ⟨i, h1, h2⟩ := Option.map_eq_some_iff.1 infoPb
  injection h2 with h2 h3
  injection h3 with h3 h4
  exact ⟨i, h1, h2, h3, h4⟩

set_option maxHeartbeats 4000000 in
set_option maxRecDepth 100000 in
theorem w_rplan18 (v vd : Value) (xs ds : List Int) (w : World) (h : Rd .u8 w v xs) (rd : Rd .u8 w vd ds) (hb : bytesL xs) (hd : bytesL ds) :
    Calls Tryd.prog 23 #[v, vd] w fun e w' => ∃ v', e = .returned (.tuple #[v', .int .i64 (plnF xs ds).2]) ∧ OwP w.heap.size w' v' (plnF xs ds).1 ∧ Below w.heap.size w w' := by
  have hlen := rd_len h uB (P := Tryd.prog)
  have hlend := rd_len rd uB (P := Tryd.prog)
  by_cases hl : xs.length = 512
  · have hq : ((xs.length : Int) != 512) = false := by rw [show (xs.length : Int) = 512 by omega]; rfl
    by_cases hbig : (248 : Int) < ds.length
    · have e : plnF xs ds = ([], 3) := by unfold plnF; rw [if_pos hl, if_pos hbig]
      rw [e]
      clear e hl
      go_enter Tryd.func23, Tryd.ntmps23
      go_wp2_with fail
      go_ret2
      exact ⟨_, rfl, owp_nil _ _, Below.refl _ _⟩
    · have e : plnF xs ds = (wrtF (bsF (cntF xs).1) (((cntF xs).2 + 1) % 256) ds, 0) := by unfold plnF; rw [if_pos hl, if_neg hbig]
      rw [e]
      have hz : ds.length ≤ 248 := by omega
      obtain ⟨i0, hi, hz0, hz1, hz2⟩ := info_parts infoU8
      obtain ⟨i4, hi4, hz4, hs4, hb4⟩ := info_pb
      have cC := w_rcounts18 v xs w h hb hl
      have hg := cnt_gen hb
      obtain ⟨⟨K, g⟩, hc⟩ : ∃ x, cntF xs = x := ⟨_, rfl⟩
      rw [hc] at cC hg ⊢
      simp only at cC hg ⊢
      clear hc e hl
      have hg1 : IntKind.u8.wrap (g + 1) = (g + 1) % 256 := by rw [IntKind.wrap_u8]
      obtain ⟨G, hG⟩ : ∃ G, (g + 1) % 256 = G := ⟨_, rfl⟩
      have hG0 : 0 ≤ G ∧ G < 256 := by omega
      rw [hG] at hg1 ⊢
      clear hG
      obtain ⟨G0, G1⟩ := hG0
      have cS := fun w r => w_rsum18 G vd ds w G0 G1 r hd (by omega)
      have hsb := ns_bd G ds
      have cE := fun w => w_rencint (nsF G ds) w hsb.1 hsb.2
      have hE4 := beB_len 4 (nsF G ds)
      have hH : Hid (hedF G ds = [G, 0, (ds.length : Int)] ++ beB 4 (nsF G ds) ++ ds) := rfl
      have hHb := hed_bytes ⟨G0, G1⟩ hd (by omega)
      have hHl := hed_len G ds
      obtain ⟨S, hS⟩ : ∃ S, nsF G ds = S := ⟨_, rfl⟩
      rw [hS] at cS cE hE4 hsb hH
      obtain ⟨E, hE⟩ : ∃ E, beB 4 S = E := ⟨_, rfl⟩
      rw [hE] at cE hE4 hH
      obtain ⟨L, hL⟩ : ∃ L : Int, (ds.length : Int) = L := ⟨_, rfl⟩
      rw [hL] at hH hlend hbig
      have HL := hid hL
      have hL0 : 0 ≤ L := by omega
      unfold wrtF
      obtain ⟨H, hHe⟩ : ∃ H, hedF G ds = H := ⟨_, rfl⟩
      rw [hHe] at hH hHb hHl ⊢
      have hHi : (H.length : Int) = 7 + L := by omega
      have HHi := hid hHi
      have hHm : (H.length : Int) ≤ 255 := by omega
      clear hHe hL hE hS hHl hHi
      have w8 : IntKind.u8.wrap L = L := by rw [IntKind.wrap_u8]; omega
      have o0 : ∀ W : World, Own8 W.heap.size (W.alloc (.cells #[.int .u8 G, .int .u8 0, .int .u8 L] 5)) (.slice (some ⟨W.heap.size, 0, none⟩) 3 3) [G, 0, L] := fun W => ⟨by simp, .inr ⟨W.heap.size, 3, _, rfl, Nat.le_refl _, heap_alloc_new W _, by simp, by decide, rfl, rfl⟩⟩
      have bx := fun W : World => box_below W (.cells #[.int .u8 G, .int .u8 0, .int .u8 L] 5)
      have key : ∀ (B : Int), (B = 0 ∨ B = 256) → bsF K = B → (K == 0) = decide (B = 256) → Calls Tryd.prog 23 #[v, vd] w fun e w' => ∃ v', e = .returned (.tuple #[v', .int .i64 0]) ∧ OwP w.heap.size w' v' ((B, 0) :: (rowF (B + 1) H ++ [(B, 165)])) ∧ Below w.heap.size w w' := by
        intro B hB hbs hKB
        clear hbs
        have hrun : ∀ (W : World), OwP W.heap.size (W.alloc (.cells #[.int .i64 B, .int .u8 0] 54)) (.slice (some ⟨W.heap.size, 0, none⟩) 1 1) [(B, 0)] := fun W => ⟨by simp [pbC], .inr ⟨W.heap.size, 1, _, rfl, Nat.le_refl _, heap_alloc_new W _, by simp, by decide, rfl, rfl⟩⟩
        have bp := fun (W : World) (A V : Int) => box_below W (.cells #[.int .i64 A, .int .u8 V] 54)
        rcases hB with rfl | rfl
        · rw [show decide ((0 : Int) = 256) = false from rfl] at hKB
          rw [show (0 : Int) + 1 = 1 from rfl]
          go_enter Tryd.func23, Tryd.ntmps23
          go_upto_region 13 with (first
            | (go_at_call 39; refine cC.mono ?_; rintro e w1 ⟨rfl, b1⟩; have c1 := below_trans b1 (bx w1); have p0 := o0 w1)
            | (go_at_call 41; refine (cS _ (rd.below c1)).mono ?_; rintro e w2 ⟨rfl, b2⟩; have c2 := below_trans c1 b2)
            | (go_at_call 40; refine (cE _).mono ?_; rintro e w3 ⟨v3, rfl, o3, b3⟩; have c3 := below_trans c2 b3; have p1 : Own8 w1.heap.size w3 _ [G, 0, L] := own_below (own_below p0 b2) b3; have s1 := below_trans (bx w1) (below_trans b2 b3))
            | (at_builtin; refine wpList_append_rd (k := .u8) rfl _ _ 22 rfl w1.heap.size 5 i0 1 Tryd.underlying22 hi hz0 hz1 hz2 v4 ([G, 0, L] ++ E) rfl o4 vd ds rfl (rd.below c4) (by unfold maxLen; simp only [List.length_append, List.length_cons, List.length_nil]; omega) (by simp only [List.length_append, List.length_cons, List.length_nil]; omega) s4.size ?_; intro v5 w5 o5 g5; have s5 := below_grown s4 g5 (fun k hk => (o4.lt k hk).1); have c5 := below_trans b1 s5)
            | (at_builtin; refine wpList_append_rd (k := .u8) rfl _ _ 22 rfl w1.heap.size 5 i0 1 Tryd.underlying22 hi hz0 hz1 hz2 _ [G, 0, L] rfl p1 v3 E rfl (Rd_own o3).1 (by unfold maxLen; simp only [List.length_append, List.length_cons, List.length_nil]; omega) (by simp only [List.length_append, List.length_cons, List.length_nil]; omega) s1.size ?_; intro v4 w4 o4 g4; have s4 := below_grown s1 g4 (fun k hk => (p1.lt k hk).1); have c4 := below_trans b1 s4)
            | fail)
          have r5 : Rd .u8 w5 v5 H := by rw [hH.out]; exact (Rd_own o5).1
          have q0 := hrun w5
          have bq := box_below w5 (.cells #[.int .i64 0, .int .u8 0] 54)
          have hl6 := rd_len r5 uB (P := Tryd.prog)
          go_upto_region 15 with fail
          generalize (w5.alloc (.cells #[.int .i64 0, .int .u8 0] 54)) = W6 at q0 bq ⊢
          clear o5 s5 g5 o4 s4 g4 c4 p1 s1 p0 c1 c2 c3 b1 b2 b3
          go_loopw [10, 11] (fun O I wx => ∃ k : Nat, (k : Int) ≤ H.length ∧ I = .int .i64 k ∧ OwP w5.heap.size wx O ((0, 0) :: rowF 1 (H.take k)) ∧ Below w5.heap.size w5 wx) (fun _ I _ => (H.length - intOf I).toNat)
          case atStart => exact ⟨0, by omega, rfl, q0, bq⟩
          case round =>
            obtain ⟨k, hk, rfl, ho, hg⟩ := hrel
            by_cases hlt : (k : Int) < H.length
            · obtain ⟨ad, X, q1, q2, q3, q4, q5⟩ := mem_at (r5.below hg) hHb k (by omega) (by omega)
              have hkk : k < H.length := by omega
              have hnx : Hid (rowF 1 (H.take (k + 1)) = rowF 1 (H.take k) ++ [(1 + (k : Int), X)]) := by
                show _ = _
                rw [List.take_succ_eq_append_getElem hkk, row_snoc]
                congr 3
                · rw [List.length_take]; congr 1; omega
                · rw [← q5, List.getD_eq_getElem?_getD]; simp [hkk]
              have hrl : ((0, 0) :: rowF 1 (H.take k)).length = k + 1 := by rw [List.length_cons, row_len, List.length_take]; omega
              obtain ⟨R, hR⟩ : ∃ R, (0, 0) :: rowF 1 (H.take k) = R := ⟨_, rfl⟩
              have hnR : Hid ((0, 0) :: rowF 1 (H.take (k + 1)) = R ++ [(1 + (k : Int), X)]) := by show _ = _; rw [hnx.out, ← hR]; rfl
              rw [hR] at ho hrl
              have HR := hid hrl
              have hr1 : R.length ≤ 300 := by omega
              clear hR hnx q5 hrl
              have bk := bp wr (1 + (k : Int)) X
              have oo := own_belowP ho bk
              go_wp2_with (at_builtin; refine wpList_append_row rfl _ _ 25 rfl w5.heap.size 54 i4 _ 2 16 Tryd.underlying25 hi4 hz4 hs4 hb4 rfl (by decide) _ R.length _ rfl oo wr.heap.size (pbC (1 + (k : Int), X)) rfl rfl (alloc_row wr (pbC (1 + (k : Int), X)) 54) (pb_one _) (by unfold maxLen; omega) (by omega) (by rw [size_al]; have := hg.size; omega) ?_; intro v7 w7 o7 g7; have h7 := below_grown (below_trans hg bk) g7 (fun k hk => (oo.lt k hk).1))
              go_roundw
              case rel => exact ⟨k + 1, by omega, by go_num, by rw [hnR.out]; simpa [OwP] using o7, h7⟩
              case measure => simp [intOf]; omega
            · have hT : H.take k = H := List.take_of_length_le (by omega)
              rw [hT] at ho
              have hrl : ((0, 0) :: rowF 1 H).length ≤ 300 := by rw [List.length_cons, row_len]; omega
              obtain ⟨R, hR⟩ : ∃ R, (0, 0) :: rowF 1 H = R := ⟨_, rfl⟩
              have hnR : Hid ((0, 0) :: (rowF 1 H ++ [(0, 165)]) = R ++ [(0, 165)]) := by show _ = _; rw [← hR]; rfl
              rw [hR] at ho hrl
              clear hR hT
              have bk := bp wr 0 165
              have oo := own_belowP ho bk
              go_wp2_with (at_builtin; refine wpList_append_row rfl _ _ 25 rfl w5.heap.size 54 i4 _ 2 16 Tryd.underlying25 hi4 hz4 hs4 hb4 rfl (by decide) _ R.length _ rfl oo wr.heap.size (pbC (0, 165)) rfl rfl (alloc_row wr (pbC (0, 165)) 54) (pb_one _) (by unfold maxLen; omega) (by omega) (by rw [size_al]; have := hg.size; omega) ?_; intro v7 w7 o7 g7; have h7 := below_grown (below_trans hg bk) g7 (fun k hk => (oo.lt k hk).1))
              go_ret2
              refine ⟨_, rfl, ?_, below_trans c5 h7⟩
              rw [hnR.out]
              exact own_base (by simpa [OwP] using o7) c5.size
        · rw [show decide ((256 : Int) = 256) = true from rfl] at hKB
          rw [show (256 : Int) + 1 = 257 from rfl]
          go_enter Tryd.func23, Tryd.ntmps23
          go_upto_region 13 with (first
            | (go_at_call 39; refine cC.mono ?_; rintro e w1 ⟨rfl, b1⟩; have c1 := below_trans b1 (bx w1); have p0 := o0 w1)
            | (go_at_call 41; refine (cS _ (rd.below c1)).mono ?_; rintro e w2 ⟨rfl, b2⟩; have c2 := below_trans c1 b2)
            | (go_at_call 40; refine (cE _).mono ?_; rintro e w3 ⟨v3, rfl, o3, b3⟩; have c3 := below_trans c2 b3; have p1 : Own8 w1.heap.size w3 _ [G, 0, L] := own_below (own_below p0 b2) b3; have s1 := below_trans (bx w1) (below_trans b2 b3))
            | (at_builtin; refine wpList_append_rd (k := .u8) rfl _ _ 22 rfl w1.heap.size 5 i0 1 Tryd.underlying22 hi hz0 hz1 hz2 v4 ([G, 0, L] ++ E) rfl o4 vd ds rfl (rd.below c4) (by unfold maxLen; simp only [List.length_append, List.length_cons, List.length_nil]; omega) (by simp only [List.length_append, List.length_cons, List.length_nil]; omega) s4.size ?_; intro v5 w5 o5 g5; have s5 := below_grown s4 g5 (fun k hk => (o4.lt k hk).1); have c5 := below_trans b1 s5)
            | (at_builtin; refine wpList_append_rd (k := .u8) rfl _ _ 22 rfl w1.heap.size 5 i0 1 Tryd.underlying22 hi hz0 hz1 hz2 _ [G, 0, L] rfl p1 v3 E rfl (Rd_own o3).1 (by unfold maxLen; simp only [List.length_append, List.length_cons, List.length_nil]; omega) (by simp only [List.length_append, List.length_cons, List.length_nil]; omega) s1.size ?_; intro v4 w4 o4 g4; have s4 := below_grown s1 g4 (fun k hk => (p1.lt k hk).1); have c4 := below_trans b1 s4)
            | fail)
          have r5 : Rd .u8 w5 v5 H := by rw [hH.out]; exact (Rd_own o5).1
          have q0 := hrun w5
          have bq := box_below w5 (.cells #[.int .i64 256, .int .u8 0] 54)
          have hl6 := rd_len r5 uB (P := Tryd.prog)
          go_upto_region 15 with fail
          generalize (w5.alloc (.cells #[.int .i64 256, .int .u8 0] 54)) = W6 at q0 bq ⊢
          clear o5 s5 g5 o4 s4 g4 c4 p1 s1 p0 c1 c2 c3 b1 b2 b3
          go_loopw [10, 11] (fun O I wx => ∃ k : Nat, (k : Int) ≤ H.length ∧ I = .int .i64 k ∧ OwP w5.heap.size wx O ((256, 0) :: rowF 257 (H.take k)) ∧ Below w5.heap.size w5 wx) (fun _ I _ => (H.length - intOf I).toNat)
          case atStart => exact ⟨0, by omega, rfl, q0, bq⟩
          case round =>
            obtain ⟨k, hk, rfl, ho, hg⟩ := hrel
            by_cases hlt : (k : Int) < H.length
            · obtain ⟨ad, X, q1, q2, q3, q4, q5⟩ := mem_at (r5.below hg) hHb k (by omega) (by omega)
              have hkk : k < H.length := by omega
              have hnx : Hid (rowF 257 (H.take (k + 1)) = rowF 257 (H.take k) ++ [(257 + (k : Int), X)]) := by
                show _ = _
                rw [List.take_succ_eq_append_getElem hkk, row_snoc]
                congr 3
                · rw [List.length_take]; congr 1; omega
                · rw [← q5, List.getD_eq_getElem?_getD]; simp [hkk]
              have hrl : ((256, 0) :: rowF 257 (H.take k)).length = k + 1 := by rw [List.length_cons, row_len, List.length_take]; omega
              obtain ⟨R, hR⟩ : ∃ R, (256, 0) :: rowF 257 (H.take k) = R := ⟨_, rfl⟩
              have hnR : Hid ((256, 0) :: rowF 257 (H.take (k + 1)) = R ++ [(257 + (k : Int), X)]) := by show _ = _; rw [hnx.out, ← hR]; rfl
              rw [hR] at ho hrl
              have HR := hid hrl
              have hr1 : R.length ≤ 300 := by omega
              clear hR hnx q5 hrl
              have bk := bp wr (257 + (k : Int)) X
              have oo := own_belowP ho bk
              go_wp2_with (at_builtin; refine wpList_append_row rfl _ _ 25 rfl w5.heap.size 54 i4 _ 2 16 Tryd.underlying25 hi4 hz4 hs4 hb4 rfl (by decide) _ R.length _ rfl oo wr.heap.size (pbC (257 + (k : Int), X)) rfl rfl (alloc_row wr (pbC (257 + (k : Int), X)) 54) (pb_one _) (by unfold maxLen; omega) (by omega) (by rw [size_al]; have := hg.size; omega) ?_; intro v7 w7 o7 g7; have h7 := below_grown (below_trans hg bk) g7 (fun k hk => (oo.lt k hk).1))
              go_roundw
              case rel => exact ⟨k + 1, by omega, by go_num, by rw [hnR.out]; simpa [OwP] using o7, h7⟩
              case measure => simp [intOf]; omega
            · have hT : H.take k = H := List.take_of_length_le (by omega)
              rw [hT] at ho
              have hrl : ((256, 0) :: rowF 257 H).length ≤ 300 := by rw [List.length_cons, row_len]; omega
              obtain ⟨R, hR⟩ : ∃ R, (256, 0) :: rowF 257 H = R := ⟨_, rfl⟩
              have hnR : Hid ((256, 0) :: (rowF 257 H ++ [(256, 165)]) = R ++ [(256, 165)]) := by show _ = _; rw [← hR]; rfl
              rw [hR] at ho hrl
              clear hR hT
              have bk := bp wr 256 165
              have oo := own_belowP ho bk
              go_wp2_with (at_builtin; refine wpList_append_row rfl _ _ 25 rfl w5.heap.size 54 i4 _ 2 16 Tryd.underlying25 hi4 hz4 hs4 hb4 rfl (by decide) _ R.length _ rfl oo wr.heap.size (pbC (256, 165)) rfl rfl (alloc_row wr (pbC (256, 165)) 54) (pb_one _) (by unfold maxLen; omega) (by omega) (by rw [size_al]; have := hg.size; omega) ?_; intro v7 w7 o7 g7; have h7 := below_grown (below_trans hg bk) g7 (fun k hk => (oo.lt k hk).1))
              go_ret2
              refine ⟨_, rfl, ?_, below_trans c5 h7⟩
              rw [hnR.out]
              exact own_base (by simpa [OwP] using o7) c5.size
      by_cases hK : K = 0
      · have e : bsF K = 256 := by unfold bsF; rw [if_pos hK]
        rw [e]
        exact key 256 (Or.inr rfl) e (by rw [hK]; rfl)
      · have e : bsF K = 0 := by unfold bsF; rw [if_neg hK]
        rw [e]
        exact key 0 (Or.inl rfl) e (by simpa using hK)
  · have hq : ((xs.length : Int) != 512) = true := by simp; omega
    have e : plnF xs ds = ([], 1) := by unfold plnF; rw [if_neg hl]
    rw [e]
    clear e hl
    go_enter Tryd.func23, Tryd.ntmps23
    go_wp2_with fail
    go_ret2
    exact ⟨_, rfl, owp_nil _ _, Below.refl _ _⟩

/-
  Load, Save of the document's answer for layer 19.
-/
def vaSv (nv : List Int) (l : List Stt) : List (Int × Int) × Int := if (vaEn l).2 = 0 then plnF nv (vaEn l).1 else ([], (vaEn l).2)
theorem vaEn_b (l : List Stt) : bytesL (vaEn l).1 := by
  unfold vaEn
  split
  · split
    · intro x hx; cases hx
    · exact va_bytes l
  · intro x hx; cases hx
theorem bkD_len (nv : List Int) (k : Int) : (bkD (bkF nv k)).length ≤ 248 := by
  unfold bkD bkF
  rw [List.length_take, List.length_drop, List.length_take]
  omega
theorem rcv_short (nv : List Int) : (rcvF nv).1.length ≤ 1048576 := by
  have h0 := bkD_len nv 0
  have h1 := bkD_len nv 1
  have h2 := bkD_len nv (cntF nv).1
  unfold rcvF
  repeat' split
  all_goals (try simp only)
  all_goals first | omega | simp | (have := bkD_len nv 0; have := bkD_len nv 1; omega)

set_option maxHeartbeats 1000000 in
theorem w_rload19 (v : Value) (nv : List Int) (w : World) (h : Rd .u8 w v nv) (hb : bytesL nv) :
    Calls Tryd.prog 12 #[v] w fun e w' => ∃ v', e = .returned v' ∧ OwT w.heap.size w' v' (vaDe (rcvF nv).1).1 ∧ Below w.heap.size w w' := by
  have cR := w_rrecover18 v nv w h hb
  have hbb := rcv_bytes hb
  have hs := rcv_short nv
  obtain ⟨⟨B, K, O⟩, hE⟩ : ∃ x, rcvF nv = x := ⟨_, rfl⟩
  rw [hE] at cR hbb hs ⊢
  simp only at cR hbb hs ⊢
  clear hE
  have cD := fun v w h => w_rdecode19 v B w h hbb hs
  go_enter Tryd.func12, Tryd.ntmps12
  go_wp2_with (first
    | (go_at_call 26; refine cR.mono ?_; rintro e q1 ⟨v1, rfl, r1, b1⟩)
    | (go_at_call 27; refine (cD _ _ r1).mono ?_; rintro e q2 ⟨v2, rfl, o2, b2⟩))
  go_ret
  exact ⟨_, rfl, own_baseT o2 b1.size, below_trans b1 b2⟩

set_option maxHeartbeats 1000000 in
theorem w_rsave19 (v vl : Value) (nv : List Int) (l : List Stt) (w : World) (h : Rd .u8 w v nv) (hb : bytesL nv) (hl : SlR 2 stR w vl l) :
    Calls Tryd.prog 9 #[v, vl] w fun e w' => ∃ v', e = .returned (.tuple #[v', .int .i64 (vaSv nv l).2]) ∧ OwP w.heap.size w' v' (vaSv nv l).1 ∧ Below w.heap.size w w' := by
  have cE := w_rencode19 vl l w hl
  have hbe := vaEn_b l
  unfold vaSv
  obtain ⟨⟨B, E⟩, hX⟩ : ∃ x, vaEn l = x := ⟨_, rfl⟩
  rw [hX] at cE hbe ⊢
  simp only at cE hbe ⊢
  clear hX
  by_cases hE : E = 0
  · rw [if_pos hE]
    subst hE
    have cP := fun vd w h hd => w_rplan18 v vd nv B w h hd hb hbe
    generalize plnF nv B = P at cP ⊢
    go_enter Tryd.func9, Tryd.ntmps9
    go_wp2_with (first
      | (go_at_call 22; refine cE.mono ?_; rintro e q1 ⟨v1, rfl, o1, b1⟩)
      | (go_at_call 23; refine (cP _ _ (h.below b1) (Rd_own o1).1).mono ?_; rintro e q2 ⟨v2, rfl, o2, b2⟩))
    go_ret2
    exact ⟨_, rfl, own_base o2 b1.size, below_trans b1 b2⟩
  · rw [if_neg hE]
    go_enter Tryd.func9, Tryd.ntmps9
    go_wp2_with (go_at_call 22; refine cE.mono ?_; rintro e q1 ⟨v1, rfl, o1, b1⟩)
    go_ret2
    exact ⟨_, rfl, owp_nil _ _, b1⟩

/-
  Blocks of a call's own as lists of integers: cut with three indexes, written cell by cell, copied into. No Go text in sight.
-/
/-- block g holds the integers xs and no other cell -/
def Blk (k : IntKind) (e : TypeId) (w : World) (g : Nat) (xs : List Int) : Prop := w.heap[g]? = some (.cells (xs.map (Value.int k)).toArray e (0, 0))
theorem Blk.rd {k : IntKind} {e : TypeId} {w : World} {g : Nat} {xs : List Int} (h : Blk k e w g xs) (hm : xs.length ≤ maxLen) : Rd k w (.slice (some ⟨g, 0, none⟩) xs.length xs.length) xs := by
  rcases Nat.eq_zero_or_pos xs.length with h0 | h0
  · obtain rfl := List.eq_nil_of_length_eq_zero h0
    exact Or.inl ⟨_, _, rfl, (fun h => by cases h), rfl⟩
  · refine Or.inr ⟨g, 0, xs.length, rfl, h0, Nat.le_refl _, hm, fun i hi => ?_⟩
    unfold Blk at h
    simp [World.cell?, h, List.getD_eq_getElem?_getD, List.getElem?_eq_getElem hi]
theorem Blk.below {k : IntKind} {e : TypeId} {w w' : World} {g : Nat} {xs : List Int} (h : Blk k e w g xs) (hb : Below w.heap.size w w') : Blk k e w' g xs := by
  unfold Blk at h ⊢
  rw [hb.block g (Array.getElem?_eq_some_iff.1 h).1, h]
/-- the stretch of n cells of block g from place a on -/
def Plc (v : Value) (g a n : Nat) : Prop := ∃ dp, v = .slice dp n n ∧ (0 < n → dp = some ⟨g, a, none⟩)
theorem plc_all (g n : Nat) : Plc (.slice (some ⟨g, 0, none⟩) n n) g 0 n := ⟨_, rfl, fun _ => rfl⟩
theorem plc_len {P : Program} {v : Value} {g a n : Nat} (h : Plc v g a n) {t e : TypeId} (ht : P.underlying t = some (.slice e)) (ty : TypeId) (w' : World) :
    (Builtin.len_ #[t] ty #[v]).run P w' = .ok (.int .i64 n) w' := by
  obtain ⟨dp, rfl, _⟩ := h
  simp [Builtin.len_, run_underlying ht, goInt]
/-- a cell of such a stretch: its address, and what the block holds once it is written -/
theorem plc_set {P : Program} {k : IntKind} {w : World} {e : TypeId} {v : Value} {g a n : Nat} {xs : List Int} (h : Plc v g a n) (hg : Blk k e w g xs) {t : TypeId} (ht : P.underlying t = some (.slice (P.elem t))) (hs : ∀ w, (sizeOf (P.elem t)).run P w = .ok 1 w)
    (hl : a + n ≤ xs.length) (i : Int) (h0 : 0 ≤ i) (h1 : i < n) :
    ∃ ad : Addr, (∀ w', (Instr.indexAt t v (.int .i64 i)).run P w' = .ok (.pointer (some ad)) w') ∧ w.cell? ad = some (.int k (xs.getD (a + i.toNat) 0)) ∧ w.frozen? ad = false ∧ g ≤ ad.block ∧
      ∀ y, Blk k e (w.setCell ad (.int k y)) g (xs.set (a + i.toNat) y) := by
  obtain ⟨dp, rfl, hd⟩ := h
  obtain rfl := hd (by omega)
  unfold Blk at hg
  have hi : a + i.toNat < xs.length := by omega
  refine ⟨⟨g, a + i.toNat, none⟩, fun w' => ?_, ?_, ?_, Nat.le_refl _, fun y => ?_⟩
  · rw [run_indexAt_slice (h := ht), if_pos ⟨h0, h1⟩, hs]
    simp only [Result.andThen, Nat.mul_one]
    congr 3
    unfold Addr.add
    split
    · rename_i hz; rw [hz]; rfl
    · rfl
  · simp [World.cell?, hg, List.getD_eq_getElem?_getD, List.getElem?_eq_getElem hi]
  · simp [World.frozen?, hg]
  · unfold Blk
    rw [Lib.heap_setCell_same (i := a + i.toNat) hg]
    simp [List.map_set]

/-- what v[a : a+n : a+n] is -/
def cut3 (v : Value) (a n : Nat) : Value := match v with
  | .slice ao _ _ => .slice (if a + n = a then ao else ao.map (·.add (a * 1))) n n
  | x => x
theorem plc_cut3 (g L a n : Nat) : Plc (cut3 (.slice (some ⟨g, 0, none⟩) L L) a n) g a n := by
  refine ⟨_, rfl, fun h => ?_⟩
  rw [if_neg (by omega)]
  simp [Addr.add]
  intro h; rw [h]
theorem rd_cut3 {P : Program} {k : IntKind} {w : World} {v : Value} {xs : List Int} (h : Rd k w v xs) {t : TypeId} (ht : P.underlying t = some (.slice (P.elem t))) (hs : ∀ w, (sizeOf (P.elem t)).run P w = .ok 1 w) (a n : Int) (a0 : 0 ≤ a) (n0 : 0 ≤ n) (hl : a + n ≤ xs.length) :
    Rd k w (cut3 v a.toNat n.toNat) ((xs.drop a.toNat).take n.toNat) ∧ ∀ (kl kh km : IntKind) w', (Instr.slice t v (some (.int kl a)) (some (.int kh (a + n))) (some (.int km (a + n)))).run P w' = .ok (cut3 v a.toNat n.toNat) w' := by
  obtain ⟨ao, cap, rfl, hc, hn, hx⟩ := rd_form h
  have hle : ((xs.drop a.toNat).take n.toNat).length = n.toNat := by simp; omega
  refine ⟨?_, fun kl kh km w' => ?_⟩
  · rcases Nat.eq_zero_or_pos n.toNat with hz | hz
    · refine Or.inl ⟨ao, 0, by simp [cut3, hz], fun _ => rfl, by rw [hz]; simp⟩
    · obtain ⟨hm, b, off, rfl, hcell⟩ := hx (by omega)
      refine Or.inr ⟨b, off + a.toNat, n.toNat, ?_, by omega, by omega, by omega, fun i hi2 => ?_⟩
      · rw [hle]
        simp only [cut3]
        rw [if_neg (by omega)]
        simp [Addr.add]
      · rw [hle] at hi2
        have := hcell (a.toNat + i) (by omega)
        rw [show off + a.toNat + i = off + (a.toNat + i) by omega, this]
        simp only [List.getD_eq_getElem?_getD, List.getElem?_take, List.getElem?_drop]
        rw [if_pos hi2]
  · rw [run_slice_lhm w' t ao xs.length cap ht kl kh km a (a + n) (a + n) a0 (by omega) (by omega) (by omega), hs]
    simp only [Result.andThen, sliced, cut3]
    rw [show (a + n).toNat = a.toNat + n.toNat by omega, show a.toNat + n.toNat - a.toNat = n.toNat by omega]

/-- a block made: noughts -/
theorem blk_made {k : IntKind} (w : World) (e : TypeId) (n : Nat) : Blk k e (w.alloc (.cells (madeCells #[.int k 0] n) e)) w.heap.size (List.replicate n 0) := by
  unfold Blk
  rw [heap_alloc_new]
  congr 2
  apply Array.ext
  · simp [madeCells]
  · intro i h1 h2
    simp [madeCells, Nat.mod_one]

/-- copy(dst, src): dst a stretch of a known block, src any slice of as many integers or fewer -/
theorem run_copy_rd {P : Program} {k : IntKind} {w : World} (dT sT : TypeId) (elem : TypeId) (hu : P.underlying dT = some (.slice elem)) (hsz : (P.info? elem).map (·.size) = some 1)
    {vd vs : Value} {g off n : Nat} (hp : Plc vd g off n) {xs cur : List Int} (hr : Rd k w vs xs) (hle : xs.length ≤ n) (hg : Blk k elem w g cur) (hfit : off + n ≤ cur.length)
    {B : Nat} {w0 : World} (hb : Below B w0 w) (hBg : B ≤ g) :
    ∃ w', (∀ ty, (Builtin.copy_ #[dT, sT] ty #[vd, vs]).run P w = .ok (.int .i64 xs.length) w') ∧ Blk k elem w' g (cur.take off ++ xs ++ cur.drop (off + xs.length)) ∧ Below B w0 w' := by
  obtain ⟨dp, rfl, hdp⟩ := hp
  obtain ⟨ao, cap, rfl, hc, hn, hx⟩ := rd_form hr
  have hlen : (xs.map (Value.int k)).length = xs.length := by simp
  rcases Nat.eq_zero_or_pos xs.length with h0 | h0
  · have hx0 : xs = [] := List.eq_nil_of_length_eq_zero h0
    subst hx0
    refine ⟨w, fun ty => ?_, by simpa using hg, hb⟩
    have := run_copy_none (P := P) w dT sT ty elem dp ao n n 0 cap hu hsz (Nat.zero_min n)
    simpa [goInt] using this
  · obtain ⟨hm, b, o2, rfl, hcell⟩ := hx h0
    obtain rfl := hdp (by omega)
    unfold Blk at hg
    have hrun := fun ty => run_copy_row (P := P) w dT sT ty elem g off n n ⟨b, o2, none⟩ xs.length cap (cur.map (Value.int k)).toArray elem (xs.map (Value.int k)) hu hsz hg (by rw [hlen]; exact (Nat.min_eq_left hle).symm) ?_ (by simp; omega) ?_
    · rw [hlen] at hrun
      refine ⟨_, hrun, ?_, below_setRow hb hBg _⟩
      · unfold Blk
        rw [setRow_heap w g _ _ elem _ hg]
        congr 2
        simp
    · intro j v hj
      rw [List.getElem?_map] at hj
      cases hq : xs[j]? with
      | none => rw [hq] at hj; cases hj
      | some y =>
        rw [hq] at hj
        simp at hj
        subst hj
        have hj2 : j < xs.length := by
          rcases Nat.lt_or_ge j xs.length with h | h
          · exact h
          · rw [List.getElem?_eq_none h] at hq; cases hq
        have := hcell j hj2
        rw [List.getD_eq_getElem?_getD, hq] at this
        simp at this
        by_cases hz : j = 0
        · subst hz; simpa [Addr.add] using this
        · simpa [Addr.add, hz] using this
    · intro v hv
      simp only [List.mem_map] at hv
      obtain ⟨y, _, rfl⟩ := hv
      rfl
/-- copy into no slice -/
theorem run_copy_nowhere {P : Program} (w : World) (dT sT ty elem : TypeId) (hu : P.underlying dT = some (.slice elem)) (hsz : (P.info? elem).map (·.size) = some 1) (S : ByteArray) :
    (Builtin.copy_ #[dT, sT] ty #[.slice none 0 0, .string S]).run P w = .ok (.int .i64 0) w := by
  cases hq : P.info? elem with
  | none => simp [hq] at hsz
  | some i => simp [Builtin.copy_, run_underlying hu, Builtin.lenOf, Builtin.firstCells, sizeOf, typeInfo, hq, storeCells, goInt]
theorem run_copy_nowhere_rd {P : Program} {k : IntKind} {v : Value} {xs : List Int} {w : World} (h : Rd k w v xs) (w' : World) (dT sT ty elem : TypeId) (hu : P.underlying dT = some (.slice elem)) (hsz : (P.info? elem).map (·.size) = some 1) :
    (Builtin.copy_ #[dT, sT] ty #[.slice none 0 0, v]).run P w' = .ok (.int .i64 0) w' := by
  obtain ⟨ao, cap, rfl, _⟩ := rd_form h
  exact run_copy_none (P := P) w' dT sT ty elem none ao 0 0 xs.length cap hu hsz (Nat.min_zero _)
/-- copy(dst, s): the same of a text -/
theorem run_copy_str {P : Program} {w : World} (dT sT : TypeId) (elem : TypeId) (hu : P.underlying dT = some (.slice elem)) (hsz : (P.info? elem).map (·.size) = some 1)
    {vd : Value} {g off n : Nat} (hp : Plc vd g off n) (S : ByteArray) {cur : List Int} (hle : S.size ≤ n) (hg : Blk .u8 elem w g cur) (hfit : off + n ≤ cur.length)
    {B : Nat} {w0 : World} (hb : Below B w0 w) (hBg : B ≤ g) :
    ∃ w', (∀ ty, (Builtin.copy_ #[dT, sT] ty #[vd, .string S]).run P w = .ok (.int .i64 S.size) w') ∧ Blk .u8 elem w' g (cur.take off ++ LB S ++ cur.drop (off + S.size)) ∧ Below B w0 w' := by
  obtain ⟨dp, rfl, hdp⟩ := hp
  rcases Nat.eq_zero_or_pos S.size with h0 | h0
  · have hl : LB S = [] := List.eq_nil_of_length_eq_zero (by rw [LB_len]; exact h0)
    refine ⟨w, fun ty => ?_, by rw [hl, h0]; simpa using hg, hb⟩
    have hrun := Lib.run_copy_empty_string (P := P) w dT sT ty elem dp n n S hu (by rw [hsz]; rfl) h0
    rw [hrun, h0]
    rfl
  · obtain rfl := hdp (by omega)
    unfold Blk at hg
    refine ⟨_, fun ty => Lib.run_copy_row_string (P := P) w dT sT ty elem g off n n S _ elem hu hsz hg hle (by simp; omega), ?_, below_setRow hb hBg _⟩
    unfold Blk
    rw [setRow_heap w g _ _ elem _ hg]
    congr 2
    simp [Lib.byteCells, LB]

end Go.Proofs.YtaiimfdcbdfbdabDoor
