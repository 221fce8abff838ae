/-
  Texts of one proof, laid one behind the other: Scd Tro Spp Scp Sal.
-/
import Derived.Test.YthihkfimledccaaB6
import Derived.Test.YthihkfimledccaaRows
import Derived.SizedLaws
import Derived.ChangeSame
namespace Go.Proofs.Ythihkfimledccaa
open Go.ChangeShapes Go.WideShapes Go.ChangeAt Go.RowKit
set_option linter.unusedVariables false
set_option linter.unusedSimpArgs false

/-
  Package screen's Draw.
-/
theorem infoU8s : (Try.prog.info? 5).map (fun i => (i.zero, i.size, i.bytes)) = some (some (.int .u8 0), 1, 1) := by kernel_rfl
set_option maxHeartbeats 1000000 in
theorem w_pclone22 (v : Value) (xs : List Int) (w : World) (h : Rd .u8 w v xs) (hz : xs.length ≤ 140737488355328) :
    Calls Try.prog 37 #[v] w fun e w' => ∃ v', e = .returned v' ∧ Own8 w.heap.size w' v' xs ∧ Below w.heap.size w w' := by
  obtain ⟨i0, hi, hz0, hz1, hz2⟩ := info_parts infoU8s
  obtain ⟨ao, cap, rfl, hc, hn, hx⟩ := rd_form h
  cases ao with
  | none =>
    have hc0 := hn rfl
    have hl : xs = [] := List.eq_nil_of_length_eq_zero (by omega)
    subst hl
    subst hc0
    show Calls _ _ #[.slice none 0 0] _ _
    have q := Lib.run_eql_slice_nil (P := Try.prog) w 26 5 none 0 0 0 0 Try.underlying26
    go_enter Try.func37, Try.ntmps37
    go_wp2_with fail
    go_ret
    exact ⟨_, rfl, World.ownsRow_nil _ _ _ _, Below.refl _ _⟩
  | some a =>
    have q := Lib.run_eql_slice_nil (P := Try.prog) w 26 5 (some a) xs.length cap 0 0 Try.underlying26
    have ha := h.below (box_below w (.cells #[] 5))
    go_enter Try.func37, Try.ntmps37
    go_wp2_with (at_builtin; refine wpList_append_rd (k := .u8) rfl _ _ 26 rfl w.heap.size 5 i0 1 Try.underlying26 hi hz0 hz1 hz2 _ [] rfl (World.ownsRow_made w #[] 0 (Nat.le_refl _) (Nat.zero_le _) rfl) _ xs rfl ha (by unfold maxLen; simp; omega) (by simp; omega) (by simp) ?_; intro v5 w5 ho5 hg5)
    go_ret
    exact ⟨v5, rfl, by simpa [Own8] using ho5, below_grown (box_below w _) hg5 (fun k hk => by simp [Value.ownBlock, Act.eval] at hk; omega)⟩

theorem below_both {w w' : World} (h : Below w.heap.size w w') (a : Addr) (v : Value) : Below (w.setCell a v).heap.size (w.setCell a v) (w'.setCell a v) := by
  have hs : (w.setCell a v).heap.size = w.heap.size := by simp [World.setCell]
  refine ⟨h.os, h.tape, h.output, by simp [World.setCell]; exact h.size, ?_⟩
  intro k hk
  rw [hs] at hk
  simp only [World.setCell, Array.getElem?_modify]
  rw [h.block k hk]
theorem size_set (w : World) (a : Addr) (v : Value) : (w.setCell a v).heap.size = w.heap.size := by simp [World.setCell]

set_option maxHeartbeats 4000000 in
set_option maxRecDepth 10000 in
/-- not drawn: the first picture is none, or the place is too far -/
theorem w_pdraw22_no (W H X Y : Int) (P : List Int) (v1 v2 : Value) (x y q : Int) (w : World) (r : Rd .u8 w v1 P) (hz : P.length ≤ 140737488351232) (hv : ∃ a n c, v2 = .slice a n c) (h : (fmI (W, H, P) && (decide (-64 ≤ x) && decide (x ≤ 64)) && (decide (-64 ≤ y) && decide (y ≤ 64))) = false) :
    Calls Try.prog 24 #[.agg #[.int .i64 W, .int .i64 H, v1], .agg #[.int .i64 X, .int .i64 Y, v2], .int .i64 x, .int .i64 y, .int .i64 q] w fun e w' => ∃ v', e = .returned (.tuple #[v', .int .i64 1]) ∧ OwPc w.heap.size w' v' noP ∧ Below w.heap.size w w' := by
  obtain ⟨ua, un, uc, rfl⟩ := hv
  obtain ⟨pa, pq, rfl⟩ := rd_slice r
  have bw := below_trans (below_trans (box_below w (.cells #[.int .i64 W, .int .i64 H, .slice pa P.length pq] 28)) (box_below _ (.cells #[.int .i64 X, .int .i64 Y, .slice ua un uc] 28))) (box_below _ (.cells #[.int .i64 0, .int .i64 0, .slice none 0 0] 28))
  have s1 := ((stands_new w #[.int .i64 W, .int .i64 H, .slice pa P.length pq] 28).below (box_below _ (.cells #[.int .i64 X, .int .i64 Y, .slice ua un uc] 28))).below (box_below _ (.cells #[.int .i64 0, .int .i64 0, .slice none 0 0] 28))
  have s2 := (stands_new (w.alloc (.cells #[.int .i64 W, .int .i64 H, .slice pa P.length pq] 28)) #[.int .i64 X, .int .i64 Y, .slice ua un uc] 28).below (box_below _ (.cells #[.int .i64 0, .int .i64 0, .slice none 0 0] 28))
  have s3 := stands_new ((w.alloc (.cells #[.int .i64 W, .int .i64 H, .slice pa P.length pq] 28)).alloc (.cells #[.int .i64 X, .int .i64 Y, .slice ua un uc] 28)) #[.int .i64 0, .int .i64 0, .slice none 0 0] 28
  rw [size_al] at s2
  rw [size_al, size_al] at s3
  have cF := fun W9 (g : Below w.heap.size w W9) => w_pformed22a W H _ P W9 (r.below g) hz
  have cx := fun w => w_pnear22 x w
  have cy := fun w => w_pnear22 y w
  generalize (decide (-64 ≤ x) && decide (x ≤ 64)) = NX at h cx
  generalize (decide (-64 ≤ y) && decide (y ≤ 64)) = NY at h cy
  generalize fmI (W, H, P) = F at h cF
  clear r
  cases F
  · clear h cx cy
    go_enter Try.func24, Try.ntmps24
    go_upto_region 1 with fail
    generalize ((w.alloc (.cells #[.int .i64 W, .int .i64 H, .slice pa P.length pq] 28)).alloc (.cells #[.int .i64 X, .int .i64 Y, .slice ua un uc] 28)).alloc (.cells #[.int .i64 0, .int .i64 0, .slice none 0 0] 28) = W0 at bw s1 s2 s3 ⊢
    have cf := cF W0 bw
    have a0 := s1.cell 0 _ rfl
    have a1 := s1.cell 1 _ rfl
    have a2 := s1.cell 2 _ rfl
    clear cF
    go_upto_region 2 with (first | (go_at_call 20; refine cf.mono ?_; rintro e9 W1 ⟨rfl, b1⟩) | fail)
    have SR := s3.below b1
    have y0 := SR.cell 0 _ rfl
    have y1 := SR.cell 1 _ rfl
    have y2 := SR.cell 2 _ rfl
    have yf := SR.free
    go_wp2_with fail
    obtain ⟨k1, k2⟩ := set3q SR (.int .i64 0) (.int .i64 0) (.slice none 0 0)
    have J7 := below_set3 (below_trans bw b1) (w.heap.size + 1 + 1) (.int .i64 0) (.int .i64 0) (.slice none 0 0) (by omega)
    (try simp only [Exit.inBlock, Exit.then])
    refine bodyPost_ret (res_row2 rfl _ _ (w.heap.size + 1 + 1) 28 _ (0, 0) _ rfl k1 Try.underlying28 rfl infoPc) rfl ?_
    exact ⟨_, rfl, ⟨_, rfl, own8_nil _ _⟩, J7⟩
  · cases NX
    · clear h cy
      go_enter Try.func24, Try.ntmps24
      go_upto_region 1 with fail
      generalize ((w.alloc (.cells #[.int .i64 W, .int .i64 H, .slice pa P.length pq] 28)).alloc (.cells #[.int .i64 X, .int .i64 Y, .slice ua un uc] 28)).alloc (.cells #[.int .i64 0, .int .i64 0, .slice none 0 0] 28) = W0 at bw s1 s2 s3 ⊢
      have cf := cF W0 bw
      have a0 := s1.cell 0 _ rfl
      have a1 := s1.cell 1 _ rfl
      have a2 := s1.cell 2 _ rfl
      clear cF
      go_upto_region 2 with (first | (go_at_call 20; refine cf.mono ?_; rintro e9 W1 ⟨rfl, b1⟩) | (go_at_call 36; refine (cx _).mono ?_; rintro e8 w8 ⟨rfl, hw⟩; obtain rfl := hw.symm) | fail)
      have SR := s3.below b1
      have y0 := SR.cell 0 _ rfl
      have y1 := SR.cell 1 _ rfl
      have y2 := SR.cell 2 _ rfl
      have yf := SR.free
      go_wp2_with fail
      obtain ⟨k1, k2⟩ := set3q SR (.int .i64 0) (.int .i64 0) (.slice none 0 0)
      have J7 := below_set3 (below_trans bw b1) (w.heap.size + 1 + 1) (.int .i64 0) (.int .i64 0) (.slice none 0 0) (by omega)
      (try simp only [Exit.inBlock, Exit.then])
      refine bodyPost_ret (res_row2 rfl _ _ (w.heap.size + 1 + 1) 28 _ (0, 0) _ rfl k1 Try.underlying28 rfl infoPc) rfl ?_
      exact ⟨_, rfl, ⟨_, rfl, own8_nil _ _⟩, J7⟩
    · cases NY
      · clear h
        have cx := hid cx
        have cy := hid cy
        go_enter Try.func24, Try.ntmps24
        go_upto_region 1 with fail
        generalize ((w.alloc (.cells #[.int .i64 W, .int .i64 H, .slice pa P.length pq] 28)).alloc (.cells #[.int .i64 X, .int .i64 Y, .slice ua un uc] 28)).alloc (.cells #[.int .i64 0, .int .i64 0, .slice none 0 0] 28) = W0 at bw s1 s2 s3 ⊢
        have cf := cF W0 bw
        have a0 := s1.cell 0 _ rfl
        have a1 := s1.cell 1 _ rfl
        have a2 := s1.cell 2 _ rfl
        clear cF
        go_upto_region 2 with (first | (go_at_call 20; refine cf.mono ?_; rintro e9 W1 ⟨rfl, b1⟩) | (go_at_call 36; first | (with_reducible refine (cx.out _).mono ?_; rintro e8 w8 ⟨rfl, hw⟩; obtain rfl := hw.symm) | (with_reducible refine (cy.out _).mono ?_; rintro e8 w8 ⟨rfl, hw⟩; obtain rfl := hw.symm)) | fail)
        have SR := s3.below b1
        have y0 := SR.cell 0 _ rfl
        have y1 := SR.cell 1 _ rfl
        have y2 := SR.cell 2 _ rfl
        have yf := SR.free
        go_wp2_with fail
        obtain ⟨k1, k2⟩ := set3q SR (.int .i64 0) (.int .i64 0) (.slice none 0 0)
        have J7 := below_set3 (below_trans bw b1) (w.heap.size + 1 + 1) (.int .i64 0) (.int .i64 0) (.slice none 0 0) (by omega)
        (try simp only [Exit.inBlock, Exit.then])
        refine bodyPost_ret (res_row2 rfl _ _ (w.heap.size + 1 + 1) 28 _ (0, 0) _ rfl k1 Try.underlying28 rfl infoPc) rfl ?_
        exact ⟨_, rfl, ⟨_, rfl, own8_nil _ _⟩, J7⟩
      · simp at h

set_option maxHeartbeats 4000000 in
set_option maxRecDepth 10000 in
/-- not drawn: the second picture is none -/
theorem w_pdraw22_no2 (m n : Nat) (X Y : Int) (P' Q' : List Int) (v1 v2 : Value) (x y q : Int) (w : World) (r1 : Rd .u8 w v1 P') (r2 : Rd .u8 w v2 Q') (hz : P'.length ≤ 140737488351232) (hz2 : Q'.length ≤ 140737488351232) (h1 : fmI ((m : Int), (n : Int), P') = true) (h2 : fmI (X, Y, Q') = false) (x0 : -64 ≤ x) (x1 : x ≤ 64) (y0 : -64 ≤ y) (y1 : y ≤ 64) :
    Calls Try.prog 24 #[.agg #[.int .i64 (m : Int), .int .i64 (n : Int), v1], .agg #[.int .i64 X, .int .i64 Y, v2], .int .i64 x, .int .i64 y, .int .i64 q] w fun e w' => ∃ v', e = .returned (.tuple #[v', .int .i64 1]) ∧ OwPc w.heap.size w' v' noP ∧ Below w.heap.size w w' := by
  have hT : tnI (X, Y, Q') q 1 = (noP, 1) := by unfold tnI; rw [h2]; rfl
  have cT := fun W9 (g : Below w.heap.size w W9) => w_pturn22a (X, Y, Q') _ q W9 (RdPc.below ⟨v2, rfl, r2⟩ g) hz2
  rw [hT] at cT
  obtain ⟨pa, pq, rfl⟩ := rd_slice r1
  obtain ⟨ua, uc, rfl⟩ := rd_slice r2
  have bw := below_trans (below_trans (box_below w (.cells #[.int .i64 (m : Int), .int .i64 (n : Int), .slice pa P'.length pq] 28)) (box_below _ (.cells #[.int .i64 X, .int .i64 Y, .slice ua Q'.length uc] 28))) (box_below _ (.cells #[.int .i64 0, .int .i64 0, .slice none 0 0] 28))
  have s1 := ((stands_new w #[.int .i64 (m : Int), .int .i64 (n : Int), .slice pa P'.length pq] 28).below (box_below _ (.cells #[.int .i64 X, .int .i64 Y, .slice ua Q'.length uc] 28))).below (box_below _ (.cells #[.int .i64 0, .int .i64 0, .slice none 0 0] 28))
  have s2 := (stands_new (w.alloc (.cells #[.int .i64 (m : Int), .int .i64 (n : Int), .slice pa P'.length pq] 28)) #[.int .i64 X, .int .i64 Y, .slice ua Q'.length uc] 28).below (box_below _ (.cells #[.int .i64 0, .int .i64 0, .slice none 0 0] 28))
  have s3 := stands_new ((w.alloc (.cells #[.int .i64 (m : Int), .int .i64 (n : Int), .slice pa P'.length pq] 28)).alloc (.cells #[.int .i64 X, .int .i64 Y, .slice ua Q'.length uc] 28)) #[.int .i64 0, .int .i64 0, .slice none 0 0] 28
  rw [size_al] at s2
  rw [size_al, size_al] at s3
  have cF := fun W9 (g : Below w.heap.size w W9) => w_pformed22a (m : Int) (n : Int) _ P' W9 (r1.below g) hz
  simp only [h1] at cF
  have cx := fun w => w_pnear22 x w
  have cy := fun w => w_pnear22 y w
  simp only [decide_eq_true x0, decide_eq_true x1, Bool.and_true] at cx
  simp only [decide_eq_true y0, decide_eq_true y1, Bool.and_true] at cy
  have cx := hid cx
  have cy := hid cy
  clear r1 r2 h1 h2 hT
  go_enter Try.func24, Try.ntmps24
  go_upto_region 1 with fail
  generalize ((w.alloc (.cells #[.int .i64 (m : Int), .int .i64 (n : Int), .slice pa P'.length pq] 28)).alloc (.cells #[.int .i64 X, .int .i64 Y, .slice ua Q'.length uc] 28)).alloc (.cells #[.int .i64 0, .int .i64 0, .slice none 0 0] 28) = W0 at bw s1 s2 s3 ⊢
  have cf := cF W0 bw
  have a0 := s1.cell 0 _ rfl
  have a1 := s1.cell 1 _ rfl
  have a2 := s1.cell 2 _ rfl
  clear cF
  go_upto_region 3 with (first | (go_at_call 20; refine cf.mono ?_; rintro e9 W1 ⟨rfl, b1⟩) | (go_at_call 36; first | (with_reducible refine (cx.out _).mono ?_; rintro e8 w8 ⟨rfl, hw⟩; obtain rfl := hw.symm) | (with_reducible refine (cy.out _).mono ?_; rintro e8 w8 ⟨rfl, hw⟩; obtain rfl := hw.symm)) | fail)
  have c0 := (s2.below b1).cell 0 _ rfl
  have c1 := (s2.below b1).cell 1 _ rfl
  have c2 := (s2.below b1).cell 2 _ rfl
  have ct := cT W1 (below_trans bw b1)
  go_upto_region 4 with (first | (go_at_call 16; refine ct.mono ?_; rintro e9 W2 ⟨v3, rfl, ⟨vT, rfl, oT⟩, b2⟩; obtain ⟨ta, tq, rfl⟩ := own_form oT; have T2 := (s2.below b1).below b2; have d0 := T2.cell 0 _ rfl; have d1 := T2.cell 1 _ rfl; have d2 := T2.cell 2 _ rfl; have df := T2.free) | fail)
  have P3 := ((((s3.below b1).below b2).other 0 (.int .i64 noP.1) (show w.heap.size + 1 + 1 ≠ w.heap.size + 1 by omega)).other 1 (.int .i64 noP.2.1) (show w.heap.size + 1 + 1 ≠ w.heap.size + 1 by omega)).other 2 (.slice ta noP.2.2.length tq) (show w.heap.size + 1 + 1 ≠ w.heap.size + 1 by omega)
  have B3 := below_set3 (below_trans (below_trans bw b1) b2) (w.heap.size + 1) (.int .i64 noP.1) (.int .i64 noP.2.1) (.slice ta noP.2.2.length tq) (by omega)
  clear c0 c1 c2 d0 d1 d2 df T2 oT ct cT
  generalize ((W2.setCell ⟨w.heap.size + 1, 0, none⟩ (.int .i64 noP.1)).setCell ⟨w.heap.size + 1, 1, none⟩ (.int .i64 noP.2.1)).setCell ⟨w.heap.size + 1, 2, none⟩ (.slice ta noP.2.2.length tq) = W3 at P3 B3 ⊢
  have y0 := P3.cell 0 _ rfl
  have y1 := P3.cell 1 _ rfl
  have y2 := P3.cell 2 _ rfl
  have yf := P3.free
  go_wp2_with fail
  obtain ⟨k1, k2⟩ := set3q P3 (.int .i64 0) (.int .i64 0) (.slice none 0 0)
  have J7 := below_set3 B3 (w.heap.size + 1 + 1) (.int .i64 0) (.int .i64 0) (.slice none 0 0) (by omega)
  (try simp only [Exit.inBlock, Exit.then])
  refine bodyPost_ret (res_row2 rfl _ _ (w.heap.size + 1 + 1) 28 _ (0, 0) _ rfl k1 Try.underlying28 rfl infoPc) rfl ?_
  exact ⟨_, rfl, ⟨_, rfl, own8_nil _ _⟩, J7⟩

set_option maxHeartbeats 4000000 in
set_option maxRecDepth 10000 in
theorem w_pdraw22_ok (va vb : Value) (p t : Pic) (x y q : Int) (w : World) (ha : RdPc w va (ofP p)) (hb : RdPc w vb (ofP t)) (hp : pcF p) (hps : pcS p) (ht : pcF t) (hts : pcS t) (x0 : -64 ≤ x) (x1 : x ≤ 64) (y0 : -64 ≤ y) (y1 : y ≤ 64) :
    Calls Try.prog 24 #[va, vb, .int .i64 x, .int .i64 y, .int .i64 q] w fun e w' => ∃ v', e = .returned (.tuple #[v', .int .i64 0]) ∧ OwPc w.heap.size w' v' (ofP (drF p (pcT (qtN q) t) x y)) ∧ Below w.heap.size w w' := by
  obtain ⟨v1, rfl, r1⟩ := ha
  obtain ⟨v2, rfl, r2⟩ := hb
  have fp := fm_ofP hp hps
  have ft := fm_ofP ht hts
  have hT1 : tnI (ofP t) q 1 = (ofP (pcT (qtN q) t), 0) := by unfold tnI; rw [if_pos ft]; rfl
  have htF := pcT_f ht (qtN q)
  have htS := pcS_T hts (qtN q)
  have cT := fun W9 (g : Below w.heap.size w W9) => w_pturn22a (ofP t) _ q W9 (RdPc.below ⟨v2, rfl, r2⟩ g) (by have := hts.1; have := hts.2; unfold pcF at ht; simp only [ofP]; have h5 := Nat.mul_le_mul hts.1 hts.2; omega)
  rw [hT1] at cT
  obtain ⟨⟨tw, th, TP⟩, hTq⟩ : ∃ r, pcT (qtN q) t = r := ⟨_, rfl⟩
  rw [hTq] at cT htF htS ⊢
  clear hT1 hTq
  obtain ⟨m, n, P'⟩ := p
  obtain ⟨e, f, Q'⟩ := t
  obtain ⟨hW, hH⟩ := hps
  obtain ⟨hE, hF⟩ := hts
  obtain ⟨htw, hth⟩ := htS
  unfold pcF at hp ht htF
  simp only [ofP] at r1 r2 hp ht htF fp ft hW hH hE hF htw hth cT ⊢
  have hWH : m * n ≤ 4096 := Nat.le_trans (Nat.mul_le_mul hW hH) (by omega)
  have hTT : tw * th ≤ 4096 := Nat.le_trans (Nat.mul_le_mul htw hth) (by omega)
  have hz : P'.length ≤ 140737488351232 := by omega
  obtain ⟨pa, pq, rfl⟩ := rd_slice r1
  obtain ⟨qa, qq, rfl⟩ := rd_slice r2
  have bw := below_trans (below_trans (box_below w (.cells #[.int .i64 (m : Int), .int .i64 (n : Int), .slice pa P'.length pq] 28)) (box_below _ (.cells #[.int .i64 (e : Int), .int .i64 (f : Int), .slice qa Q'.length qq] 28))) (box_below _ (.cells #[.int .i64 0, .int .i64 0, .slice none 0 0] 28))
  have s1 := ((stands_new w #[.int .i64 (m : Int), .int .i64 (n : Int), .slice pa P'.length pq] 28).below (box_below _ (.cells #[.int .i64 (e : Int), .int .i64 (f : Int), .slice qa Q'.length qq] 28))).below (box_below _ (.cells #[.int .i64 0, .int .i64 0, .slice none 0 0] 28))
  have s2 := (stands_new (w.alloc (.cells #[.int .i64 (m : Int), .int .i64 (n : Int), .slice pa P'.length pq] 28)) #[.int .i64 (e : Int), .int .i64 (f : Int), .slice qa Q'.length qq] 28).below (box_below _ (.cells #[.int .i64 0, .int .i64 0, .slice none 0 0] 28))
  have s3 := stands_new ((w.alloc (.cells #[.int .i64 (m : Int), .int .i64 (n : Int), .slice pa P'.length pq] 28)).alloc (.cells #[.int .i64 (e : Int), .int .i64 (f : Int), .slice qa Q'.length qq] 28)) #[.int .i64 0, .int .i64 0, .slice none 0 0] 28
  rw [size_al] at s2
  rw [size_al, size_al] at s3
  have cF := fun W9 (g : Below w.heap.size w W9) => w_pformed22a (m : Int) (n : Int) _ P' W9 (r1.below g) hz
  simp only [fp] at cF
  have HP := hid hp
  have HTF := hid htF
  have hTm : TP.length ≤ 4096 := by omega
  have hPm : P'.length ≤ 4096 := by omega
  clear fp ft hp ht htF hz r2
  have cx := fun w => w_pnear22 x w
  have cy := fun w => w_pnear22 y w
  simp only [decide_eq_true x0, decide_eq_true x1, Bool.and_true] at cx
  simp only [decide_eq_true y0, decide_eq_true y1, Bool.and_true] at cy
  have cx := hid cx
  have cy := hid cy
  go_enter Try.func24, Try.ntmps24
  go_upto_region 1 with fail
  generalize ((w.alloc (.cells #[.int .i64 (m : Int), .int .i64 (n : Int), .slice pa P'.length pq] 28)).alloc (.cells #[.int .i64 (e : Int), .int .i64 (f : Int), .slice qa Q'.length qq] 28)).alloc (.cells #[.int .i64 0, .int .i64 0, .slice none 0 0] 28) = W0 at bw s1 s2 s3 ⊢
  have cf := cF W0 bw
  have a0 := s1.cell 0 _ rfl
  have a1 := s1.cell 1 _ rfl
  have a2 := s1.cell 2 _ rfl
  clear cF
  go_upto_region 3 with (first | (go_at_call 20; refine cf.mono ?_; rintro e9 W1 ⟨rfl, b1⟩) | (go_at_call 36; first | (with_reducible refine (cx.out _).mono ?_; rintro e8 w8 ⟨rfl, hw⟩; obtain rfl := hw.symm) | (with_reducible refine (cy.out _).mono ?_; rintro e8 w8 ⟨rfl, hw⟩; obtain rfl := hw.symm)) | fail)
  have c0 := (s2.below b1).cell 0 _ rfl
  have c1 := (s2.below b1).cell 1 _ rfl
  have c2 := (s2.below b1).cell 2 _ rfl
  have ct := cT W1 (below_trans bw b1)
  go_upto_region 4 with (first | (go_at_call 16; refine ct.mono ?_; rintro e9 W2 ⟨v3, rfl, ⟨vT, rfl, oT⟩, b2⟩; obtain ⟨ta, tq, rfl⟩ := own_form oT; have T2 := (s2.below b1).below b2; have d0 := T2.cell 0 _ rfl; have d1 := T2.cell 1 _ rfl; have d2 := T2.cell 2 _ rfl; have df := T2.free) | fail)
  obtain ⟨k1, k2⟩ := set3q T2 (.int .i64 (tw : Int)) (.int .i64 (th : Int)) (.slice ta TP.length tq)
  have o3 := k2 _ (own8_kept (by decide)) (show Own8 _ W2 (.slice ta TP.length tq) TP from oT)
  have P1 := (((((s1.below b1).below b2).other 0 (.int .i64 (tw : Int)) (show w.heap.size ≠ w.heap.size + 1 by omega)).other 1 (.int .i64 (th : Int)) (show w.heap.size ≠ w.heap.size + 1 by omega)).other 2 (.slice ta TP.length tq) (show w.heap.size ≠ w.heap.size + 1 by omega))
  have P3 := (((((s3.below b1).below b2).other 0 (.int .i64 (tw : Int)) (show w.heap.size + 1 + 1 ≠ w.heap.size + 1 by omega)).other 1 (.int .i64 (th : Int)) (show w.heap.size + 1 + 1 ≠ w.heap.size + 1 by omega)).other 2 (.slice ta TP.length tq) (show w.heap.size + 1 + 1 ≠ w.heap.size + 1 by omega))
  have B3 := below_set3 (below_trans (below_trans bw b1) b2) (w.heap.size + 1) (.int .i64 (tw : Int)) (.int .i64 (th : Int)) (.slice ta TP.length tq) (by omega)
  clear c0 c1 c2 d0 d1 d2 df T2 oT ct cT k2 s1 s2 s3 a0 a1 a2 cf bw b1 b2
  generalize ((W2.setCell ⟨w.heap.size + 1, 0, none⟩ (.int .i64 (tw : Int))).setCell ⟨w.heap.size + 1, 1, none⟩ (.int .i64 (th : Int))).setCell ⟨w.heap.size + 1, 2, none⟩ (.slice ta TP.length tq) = W3 at P1 P3 B3 k1 o3 ⊢
  have cc := w_pclone22 _ P' W3 (r1.below B3) (by omega)
  have a2 := P1.cell 2 _ rfl
  clear r1
  go_upto_region 7 with (first | (go_at_call 37; refine cc.mono ?_; rintro e9 W4 ⟨vC, rfl, oC, b4⟩; obtain ⟨ca, cq, rfl⟩ := own_form oC; have Q1 := P1.below b4; have f2 := Q1.cell 2 _ rfl; have ff := Q1.free) | fail)
  have PA : Stands (W3.setCell ⟨w.heap.size, 2, none⟩ (.slice ca P'.length cq)) w.heap.size #[.int .i64 (m : Int), .int .i64 (n : Int), .slice ca P'.length cq] 28 := P1.set 2 (.slice ca P'.length cq)
  have PB := k1.other 2 (.slice ca P'.length cq) (show w.heap.size + 1 ≠ w.heap.size by omega)
  have PC := P3.other 2 (.slice ca P'.length cq) (show w.heap.size + 1 + 1 ≠ w.heap.size by omega)
  have rT : Rd .u8 (W3.setCell ⟨w.heap.size, 2, none⟩ (.slice ca P'.length cq)) (.slice ta TP.length tq) TP := (Rd_own (own8_kept (by decide) _ _ (set_kept P1 2 (.slice ca P'.length cq)) o3)).1
  have BW := below_set B3 w.heap.size 2 (.slice ca P'.length cq) (Nat.le_refl _)
  have O5 : Own8 (W3.setCell ⟨w.heap.size, 2, none⟩ (.slice ca P'.length cq)).heap.size (W4.setCell ⟨w.heap.size, 2, none⟩ (.slice ca P'.length cq)) (.slice ca P'.length cq) P' := by
    rw [size_set]
    exact own8_kept (by decide) _ _ (set_kept Q1 2 (.slice ca P'.length cq)) oC
  have B5 := below_both b4 ⟨w.heap.size, 2, none⟩ (.slice ca P'.length cq)
  have hd0 := eF_0 (p := (m, n, P')) HP.out (tw, th, TP) x y
  simp only at hd0
  have O5 : Own8 (W3.setCell ⟨w.heap.size, 2, none⟩ (.slice ca P'.length cq)).heap.size (W4.setCell ⟨w.heap.size, 2, none⟩ (.slice ca P'.length cq)) (.slice ca P'.length cq) (eF (m, n, P') (tw, th, TP) x y 0) := by rw [hd0]; exact O5
  clear hd0 cc a2 Q1 f2 ff P1 P3 B3 k1 o3 b4 oC
  generalize W3.setCell ⟨w.heap.size, 2, none⟩ (.slice ca P'.length cq) = V0 at PA PB PC rT BW O5 B5
  generalize W4.setCell ⟨w.heap.size, 2, none⟩ (.slice ca P'.length cq) = W5 at O5 B5 ⊢
  have q2 := (PB.below B5).cell 2 _ rfl
  have hlT := rd_len rT uB (P := Try.prog)
  go_upto_region 8 with fail
  clear q2
  go_loopw [13, 14, 15, 16, 48] (fun _ _ _ _ I wx => ∃ k : Nat, k ≤ TP.length ∧ I = .int .i64 k ∧ Own8 V0.heap.size wx (.slice ca P'.length cq) (eF (m, n, P') (tw, th, TP) x y k) ∧ Below V0.heap.size V0 wx) (fun _ _ _ _ I _ => (TP.length - intOf I).toNat)
  case atStart => exact ⟨0, by omega, rfl, O5, B5⟩
  case round =>
    clear O5 B5
    obtain ⟨k, hk, rfl, oc, bc⟩ := hrel
    by_cases hlt : (k : Int) < TP.length
    · have hkN : k < tw * th := by have := HTF.out; omega
      obtain ⟨p1, p2, p3⟩ := px_split hkN
      have t0 := (PB.below bc).cell 0 _ rfl
      obtain ⟨ad, i1, i2⟩ := rd_idx (rT.below bc) uB zB (k : Int) (by omega) hlt
      rw [Int.toNat_natCast] at i2
      have hm0 : ((tw : Int) == 0) = false := by rw [beq_eq_false_iff_ne]; omega
      have t1 := tmod_nat k tw
      have t2 := tdiv_nat k tw
      have ES := hid (fun (c r : Nat) => eF_set (p := (m, n, P')) (t := (tw, th, TP)) (x := x) (y := y) (k := k) (c := c) (r := r) hkN)
      have EK := hid (eF_skip (p := (m, n, P')) (t := (tw, th, TP)) (x := x) (y := y) (k := k) hkN)
      obtain ⟨U, hU⟩ : ∃ Z, k % tw = Z := ⟨_, rfl⟩
      obtain ⟨V, hV⟩ : ∃ Z, k / tw = Z := ⟨_, rfl⟩
      simp only [hU, hV] at ES EK t1 t2 p1 p2 p3
      obtain ⟨C, hC⟩ : ∃ Z, TP.getD k 0 = Z := ⟨_, rfl⟩
      simp only [hC] at ES EK i2
      have w1 : IntKind.i64.wrap (U : Int) = U := by rw [IntKind.wrap_i64]; omega
      have w2 : IntKind.i64.wrap (V : Int) = V := by rw [IntKind.wrap_i64]; omega
      obtain ⟨X, hX⟩ : ∃ Z, x + (U : Int) = Z := ⟨_, rfl⟩
      obtain ⟨Y, hY⟩ : ∃ Z, y + (V : Int) = Z := ⟨_, rfl⟩
      have e1 : IntKind.i64.wrap (x + (U : Int)) = X := by rw [hX, IntKind.wrap_i64]; omega
      have e2 : IntKind.i64.wrap (y + (V : Int)) = Y := by rw [hY, IntKind.wrap_i64]; omega
      simp only [hX, hY] at ES EK
      clear hU hV hC hX hY p3
      go_upto_region 10 with fail
      go_quiet (fail)
      have D : Below wr.heap.size wr (wr.drewN nq) := below_drewN (Below.refl _ _) nq
      have bc6 := below_trans bc D
      have o6 := own8_below oc D
      generalize wr.drewN nq = W6 at bc6 o6 ⊢
      clear bc oc D t0 i1 i2 hm0 t1 t2 w1 w2 e1 e2
      have a0 := (PA.below bc6).cell 0 _ rfl
      have a1 := (PA.below bc6).cell 1 _ rfl
      have a2 := (PA.below bc6).cell 2 _ rfl
      by_cases hc0 : C = 0
      · have SM := hid (EK.out (Or.inl hc0))
        have hq : (C != 0) = false := by simp [hc0]
        clear ES EK hc0 a0 a1 a2
        go_wp2_with fail
        go_roundw
        case rel => exact ⟨k + 1, by omega, by go_num, by rw [SM.out]; exact o6, bc6⟩
        case measure => simp [intOf]; omega
      · have hq : (C != 0) = true := by simpa using hc0
        have cw := fun w => w_pwithin22 (m : Int) (n : Int) X Y w
        by_cases hin : 0 ≤ X ∧ X < m ∧ 0 ≤ Y ∧ Y < n
        · obtain ⟨h1, h2, h3, h4⟩ := hin
          simp only [decide_eq_true h1, decide_eq_true h2, decide_eq_true h3, decide_eq_true h4, Bool.and_true] at cw
          obtain ⟨c, rfl⟩ : ∃ c : Nat, X = c := ⟨X.toNat, by omega⟩
          obtain ⟨r, rfl⟩ : ∃ r : Nat, Y = r := ⟨Y.toNat, by omega⟩
          obtain ⟨hI, hset⟩ := ES.out c r rfl rfl (by omega) (by omega) hc0
          obtain ⟨A, hA⟩ : ∃ A, r * m = A := ⟨_, rfl⟩
          have e3 : IntKind.i64.wrap ((r : Int) * (m : Int)) = (A : Int) := by rw [← hA]; exact wr_mul r m (by omega)
          rw [hA] at hI hset
          obtain ⟨I2, hi2⟩ : ∃ k, A + c = k := ⟨_, rfl⟩
          have e4 : IntKind.i64.wrap ((A : Int) + (c : Int)) = (I2 : Int) := by rw [IntKind.wrap_i64]; omega
          rw [hi2] at hI hset
          obtain ⟨ae, g1, g2, g3, g4, g5⟩ := own_set o6 uB zB (I2 : Int) (by omega) (by rw [eF_len]; simp only; omega)
          have o7 := g5 C
          rw [Int.toNat_natCast, hset] at o7
          have bc7 := bc6.setCell g4 (.int .u8 C)
          have O7 := hid o7
          have B7 := hid bc7
          clear ES EK hc0 h1 h2 h3 h4 hset o7 bc7 g5 o6 hA hi2
          have cw := hid cw
          go_wp2_with (first | (go_at_call 27; refine (cw.out _).mono ?_; rintro e8 w8 ⟨rfl, hw⟩; obtain rfl := hw.symm) | fail)
          go_roundw
          case rel => exact ⟨k + 1, by omega, by go_num, O7.out, B7.out⟩
          case measure => simp [intOf]; omega
        · have SM := hid (EK.out (Or.inr hin))
          have hb0 : (decide (0 ≤ X) && decide (X < (m : Int)) && decide (0 ≤ Y) && decide (Y < (n : Int))) = false := by
            cases hh : (decide (0 ≤ X) && decide (X < (m : Int)) && decide (0 ≤ Y) && decide (Y < (n : Int)))
            · rfl
            · simp only [Bool.and_eq_true, decide_eq_true_eq] at hh
              exact absurd ⟨hh.1.1.1, hh.1.1.2, hh.1.2, hh.2⟩ hin
          simp only [hb0] at cw
          have cw := hid cw
          clear ES EK hc0 hin hb0
          go_wp2_with (first | (go_at_call 27; refine (cw.out _).mono ?_; rintro e8 w8 ⟨rfl, hw⟩; obtain rfl := hw.symm) | fail)
          go_roundw
          case rel => exact ⟨k + 1, by omega, by go_num, by rw [SM.out]; exact o6, bc6⟩
          case measure => simp [intOf]; omega
    · obtain rfl : k = TP.length := by omega
      have ea := eF_all (m, n, P') (tw, th, TP) x y
      simp only at ea
      rw [HTF.out, ea] at oc
      have t0 := (PA.below bc).cell 0 _ rfl
      have t1 := (PA.below bc).cell 1 _ rfl
      have t2 := (PA.below bc).cell 2 _ rfl
      have SR := PC.below bc
      have r0 := SR.cell 0 _ rfl
      have r1 := SR.cell 1 _ rfl
      have r2 := SR.cell 2 _ rfl
      have rf := SR.free
      clear ea
      go_wp2_with fail
      obtain ⟨k1, k2⟩ := set3q SR (.int .i64 (m : Int)) (.int .i64 (n : Int)) (.slice ca P'.length cq)
      have J7 := below_set3 (below_trans BW bc) (w.heap.size + 1 + 1) (.int .i64 (m : Int)) (.int .i64 (n : Int)) (.slice ca P'.length cq) (by omega)
      (try simp only [Exit.inBlock, Exit.then])
      refine bodyPost_ret (res_row2 rfl _ _ (w.heap.size + 1 + 1) 28 _ (0, 0) _ rfl k1 Try.underlying28 rfl infoPc) rfl ?_
      exact ⟨_, rfl, ⟨_, rfl, own8_base (k2 _ (own8_kept (by decide)) oc) BW.size⟩, J7⟩

/-
  What came in, read with its weight: slices of rows, slices of integers, structs of one-cell fields.
-/
theorem wf8 {n : Int} (h : (Lit.int .u32 n).wf = true) : 0 ≤ n ∧ n < 4294967296 := by
  simp [Lit.wf, IntKind.min, IntKind.max, IntKind.bits, IntKind.signed] at h
  omega
theorem all_weights {H : Type} {P : Program} {e : TypeId} {d : DataW H} {n : Nat} : ∀ {ds : List (DataW H)}, d ∈ ds → n ∈ d.weights P e → n ∈ DataW.weightsAll P e ds
  | x :: r, h, hn => by
    simp only [DataW.weightsAll, List.mem_append]
    rcases List.mem_cons.1 h with rfl | h
    · exact Or.inl hn
    · exact Or.inr (all_weights h hn)
/-- a slice's rows, each read as R says, each of which Q is true -/
theorem slr_trod {α H : Type} {enc : TypeId × Value → H} {W : World} {t e : TypeId} {cs : List Value} {y : DataW H × List MemPlace} {sz fuel : Nat} (R : World → List Value → α → Prop) (Q : α → Prop)
    (ht : Try.prog.underlying t = some (.slice e)) (hc : Try.prog.cellsOf e = sz) (hsz : 0 < sz) (h : DataW.trod enc Try.prog W 0 (fun _ => true) true fuel t cs = some y) (hw : ∀ n ∈ y.1.weights Try.prog t, n ≤ reachBytes)
    (hR : ∀ n cs z, DataW.trod enc Try.prog W 0 (fun _ => true) true n e cs = some z → (∀ m ∈ z.1.weights Try.prog e, m ≤ reachBytes) → ∃ x, R W cs x ∧ Q x) :
    ∃ a l c xs, cs = [.slice a l c] ∧ SlR sz R W (.slice a l c) xs ∧ (∀ x ∈ xs, Q x) ∧ xs.length * Try.prog.bytesOf e ≤ reachBytes := by
  have g' : ∃ x l c, cs = [.slice x l c] := by
    rcases DataW.trod_slice ht h with ⟨h0, _⟩ | ⟨x, l, c, _, _, _, _, h0, _⟩
    · exact ⟨none, 0, 0, h0⟩
    · exact ⟨some x, l, c, h0⟩
  obtain ⟨a, l, c, rfl⟩ := g'
  obtain ⟨d, ps⟩ := y
  obtain ⟨rows, h1, h2, h3⟩ := slc_open ht hc hsz h
  rcases h3 with ⟨rfl, rfl⟩ | ⟨ds, zs, rfl, hl, h3⟩
  · exact ⟨a, l, c, [], rfl, ⟨[], h1, rfl, fun i hi => by simp at hi⟩, fun x hx => by simp at hx, by simp⟩
  · have hwt : (ds.length + zs.length) * Try.prog.bytesOf e ≤ reachBytes := hw _ (by simp [DataW.weights, ht])
    obtain ⟨xs, hx1, hx2⟩ := choose_list (rows.zip ds) (fun (r : List Value × DataW H) (x : α) => R W r.1 x ∧ Q x) (fun r hr => by
      obtain ⟨i, hi, rfl⟩ := List.getElem_of_mem hr
      have hi2 : i < rows.length := by simp at hi; omega
      obtain ⟨n, y, g, g2⟩ := h3 i hi2
      rw [List.getD_eq_getElem?_getD, List.getElem?_eq_getElem hi2] at g
      obtain ⟨x, k1, k2⟩ := hR _ _ _ g (fun m hm => hw m (by
        simp only [DataW.weights, ht, List.mem_cons, List.mem_append]
        exact Or.inr (Or.inl (all_weights (List.mem_of_getElem? g2) hm))))
      refine ⟨x, ?_, k2⟩
      rw [List.getElem_zip]; exact k1)
    have hzl : (rows.zip ds).length = rows.length := by simp [hl]
    refine ⟨a, l, c, xs, rfl, ⟨rows, h1, by omega, fun i hi => ?_⟩, fun x hx => ?_, ?_⟩
    · have := (hx2 i (by omega) hi).1
      rw [List.getElem_zip] at this
      rw [List.getD_eq_getElem?_getD, List.getElem?_eq_getElem (by omega)]
      exact this
    · obtain ⟨i, hi, rfl⟩ := List.getElem_of_mem hx
      exact (hx2 i (by omega) hi).2
    · refine Nat.le_trans (Nat.mul_le_mul_right _ ?_) hwt
      omega
/-- a slice of integers -/
theorem rd_trod {H : Type} {enc : TypeId × Value → H} {W : World} {t e : TypeId} {k : IntKind} {cs : List Value} {y : DataW H × List MemPlace} {fuel : Nat}
    (ht : Try.prog.underlying t = some (.slice e)) (he : Try.prog.underlying e = some (.int k)) (hc : Try.prog.cellsOf e = 1) (h : DataW.trod enc Try.prog W 0 (fun _ => true) true fuel t cs = some y) (hw : ∀ n ∈ y.1.weights Try.prog t, n ≤ reachBytes) :
    ∃ a l c xs, cs = [.slice a l c] ∧ Rd k W (.slice a l c) xs ∧ (∀ n ∈ xs, (Lit.int k n).wf = true) ∧ xs.length * Try.prog.bytesOf e ≤ reachBytes := by
  have g' : ∃ x l c, cs = [.slice x l c] := by
    rcases DataW.trod_slice ht h with ⟨h0, _⟩ | ⟨x, l, c, _, _, _, _, h0, _⟩
    · exact ⟨none, 0, 0, h0⟩
    · exact ⟨some x, l, c, h0⟩
  obtain ⟨a, l, c, rfl⟩ := g'
  obtain ⟨d, ps⟩ := y
  obtain ⟨u, hu, hf, hd⟩ := rd_open (k := k) (d := d) (ps := ps) ht he hc ⟨_, h⟩
  refine ⟨a, l, c, u, rfl, hu, hf, ?_⟩
  rcases hd with rfl | ⟨ys, zs, rfl, hle⟩
  · simp
  · have hwt : (ys.length + zs.length) * Try.prog.bytesOf e ≤ reachBytes := hw _ (by simp [DataW.weights, ht])
    refine Nat.le_trans (Nat.mul_le_mul_right _ ?_) hwt
    omega
/-- a struct's fields, one after another: each field's cells are one, its weights are the struct's -/
theorem str_field {H : Type} {enc : TypeId × Value → H} {W : World} {t : TypeId} {fs : Array Field} {cs : List Value} {xs : List (DataW H × List MemPlace)} {n : Nat} (hu : Try.prog.underlying t = some (.struct fs))
    (hf : ∀ (i : Nat) f, fs[i]? = some f → DataW.trod enc Try.prog W 0 (fun _ => true) true n f.type ((cs.drop f.offset).take (Try.prog.cellsOf f.type)) = xs[i]?) {l : List (TypeId × Nat)} (hl : fs.toList.map (fun f => (f.type, f.offset)) = l) (hw : ∀ m ∈ (DataW.agg (xs.map (·.1))).weights Try.prog t, m ≤ reachBytes)
    (i : Nat) (a : TypeId) (o : Nat) (h : l[i]? = some (a, o)) (hc : Try.prog.cellsOf a = 1) (hi : i < xs.length) :
    DataW.trod enc Try.prog W 0 (fun _ => true) true n a ((cs.drop o).take 1) = some xs[i] ∧ ∀ m ∈ xs[i].1.weights Try.prog a, m ≤ reachBytes := by
  subst hl
  rw [List.getElem?_map] at h
  obtain ⟨f, g1, g2⟩ := Option.map_eq_some_iff.1 h
  obtain ⟨rfl, rfl⟩ := Prod.mk.inj g2
  have h1 := hf i f (by rw [← Array.getElem?_toList]; exact g1)
  rw [hc, List.getElem?_eq_getElem hi] at h1
  refine ⟨h1, fun m hm => hw m ?_⟩
  simp only [DataW.weights, hu]
  refine DataW.weights_mem_each (j := i) (t := f.type) (d := xs[i].1) ?_ ?_ m hm
  · rw [List.getElem?_map, g1]; rfl
  · rw [List.getElem?_map, List.getElem?_eq_getElem hi]; rfl
/-- a field of several cells -/
theorem str_fieldN {H : Type} {enc : TypeId × Value → H} {W : World} {t : TypeId} {fs : Array Field} {cs : List Value} {xs : List (DataW H × List MemPlace)} {n : Nat} (hu : Try.prog.underlying t = some (.struct fs))
    (hf : ∀ (i : Nat) f, fs[i]? = some f → DataW.trod enc Try.prog W 0 (fun _ => true) true n f.type ((cs.drop f.offset).take (Try.prog.cellsOf f.type)) = xs[i]?) {l : List (TypeId × Nat)} (hl : fs.toList.map (fun f => (f.type, f.offset)) = l) (hw : ∀ m ∈ (DataW.agg (xs.map (·.1))).weights Try.prog t, m ≤ reachBytes)
    (i : Nat) (a : TypeId) (o c : Nat) (h : l[i]? = some (a, o)) (hc : Try.prog.cellsOf a = c) (hi : i < xs.length) :
    DataW.trod enc Try.prog W 0 (fun _ => true) true n a ((cs.drop o).take c) = some xs[i] ∧ ∀ m ∈ xs[i].1.weights Try.prog a, m ≤ reachBytes := by
  subst hl
  rw [List.getElem?_map] at h
  obtain ⟨f, g1, g2⟩ := Option.map_eq_some_iff.1 h
  obtain ⟨rfl, rfl⟩ := Prod.mk.inj g2
  have h1 := hf i f (by rw [← Array.getElem?_toList]; exact g1)
  rw [hc, List.getElem?_eq_getElem hi] at h1
  refine ⟨h1, fun m hm => hw m ?_⟩
  simp only [DataW.weights, hu]
  refine DataW.weights_mem_each (j := i) (t := f.type) (d := xs[i].1) ?_ ?_ m hm
  · rw [List.getElem?_map, g1]; rfl
  · rw [List.getElem?_map, List.getElem?_eq_getElem hi]; rfl

/-
  A picture as a parameter.
-/
theorem pc_str : Try.prog.underlying 28 = some (.struct (Try.prog.fieldsOf 28)) := by kernel_rfl
theorem pcFs : (Try.prog.fieldsOf 28).toList.map (fun f => (f.type, f.offset)) = [(3, 0), (3, 1), (26, 2)] := by kernel_rfl
theorem bytU8 : Try.prog.bytesOf 5 = 1 := by kernel_rfl
theorem i64_wf22 {n : Int} (h : (Lit.int .i64 n).wf = true) : -9223372036854775808 ≤ n ∧ n < 9223372036854775808 := by
  simp [Lit.wf, IntKind.min, IntKind.max, IntKind.bits, IntKind.signed] at h
  omega
theorem u8_wf22 {n : Int} (h : (Lit.int .u8 n).wf = true) : 0 ≤ n ∧ n < 256 := by
  simp [Lit.wf, IntKind.min, IntKind.max, IntKind.bits, IntKind.signed] at h
  omega
/-- what holds of a picture that came in -/
def gPc (p : PicI) : Prop := bytesL p.2.2 ∧ p.2.2.length ≤ 140737488351232 ∧ (-9223372036854775808 ≤ p.1 ∧ p.1 < 9223372036854775808) ∧ (-9223372036854775808 ≤ p.2.1 ∧ p.2.1 < 9223372036854775808)
theorem pc_trod {H : Type} {enc : TypeId × Value → H} {W : World} (fuel : Nat) (cs : List Value) (y : DataW H × List MemPlace) (h : DataW.trod enc Try.prog W 0 (fun _ => true) true fuel 28 cs = some y) (hw : ∀ n ∈ y.1.weights Try.prog 28, n ≤ reachBytes) :
    ∃ (p : PicI) (vP : Value), cs = [.int .i64 p.1, .int .i64 p.2.1, vP] ∧ Rd .u8 W vP p.2.2 ∧ gPc p := by
  obtain ⟨xs, n, _, rfl, hl, hlen, hf⟩ := DataW.trod_struct pc_str h
  rw [show Try.prog.cellsOf 28 = 3 by kernel_rfl] at hl
  rw [show (Try.prog.fieldsOf 28).size = 3 by kernel_rfl] at hlen
  match cs, hl with
  | [c0, c1, c2], _ =>
    have g0 := str_field pc_str hf pcFs hw 0 3 0 rfl (by kernel_rfl) (by omega)
    have g1 := str_field pc_str hf pcFs hw 1 3 1 rfl (by kernel_rfl) (by omega)
    have g2 := str_field pc_str hf pcFs hw 2 26 2 rfl (by kernel_rfl) (by omega)
    obtain ⟨a, a1, a2, a3⟩ := DataW.trod_int Try.underlying3 g0.1
    obtain ⟨b, b1, b2, b3⟩ := DataW.trod_int Try.underlying3 g1.1
    obtain ⟨a4, l4, r4, q, e4, hq, hf4, hz4⟩ := rd_trod (k := .u8) Try.underlying26 Try.underlying5 (by kernel_rfl) g2.1 g2.2
    simp at a1 b1 e4
    subst a1 b1 e4
    rw [bytU8] at hz4
    unfold reachBytes at hz4
    exact ⟨(a, b, q), _, rfl, hq, fun n hn => u8_wf22 (hf4 n hn), by simp only; omega, i64_wf22 a3, i64_wf22 b3⟩
theorem pc_open {H : Type} {enc : TypeId × Value → H} {W : World} {base : Nat} {v : Value} {d : DataW H} {ps : List MemPlace} (hok : Value.okWide Try.prog W .any base 28 v) (h : DataW.Trod enc Try.prog W 0 (fun _ => true) true 28 v d ps) (hw : ∀ n ∈ d.weights Try.prog 28, n ≤ reachBytes) :
    ∃ (p : PicI) (vP : Value), v = .agg #[.int .i64 p.1, .int .i64 p.2.1, vP] ∧ Rd .u8 W vP p.2.2 ∧ gPc p := by
  obtain ⟨cs0, rfl, _, _⟩ : ∃ cs, v = .agg cs ∧ cs.size = Try.prog.cellsOf 28 ∧ Row.okWide Try.prog W .any base 28 cs := by
    simpa [Value.okWide, pc_str] using hok
  obtain ⟨fuel, hf0⟩ := h
  obtain ⟨p, vP, h1, h2, h3⟩ := pc_trod fuel cs0.toList (d, ps) hf0 hw
  obtain ⟨cs⟩ := cs0
  simp only at h1
  subst h1
  exact ⟨p, vP, rfl, h2, h3⟩

/-
  The landed package screen's seven calls, as the laws take them.
-/
theorem w_pnew22 (W H : Int) (w : World) (bW : -9223372036854775808 ≤ W ∧ W < 9223372036854775808) (bH : -9223372036854775808 ≤ H ∧ H < 9223372036854775808) :
    Calls Try.prog 12 #[.int .i64 W, .int .i64 H] w fun e w' => ∃ v, e = .returned (.tuple #[v, .int .i64 (nwI W H 1).2]) ∧ RdPc w' v (nwI W H 1).1 ∧ Below w.heap.size w w' := by
  refine (w_pnew22a W H w).mono ?_
  rintro e w' ⟨v, rfl, o, b⟩
  exact ⟨v, rfl, o.read, b⟩

theorem w_pplace22 (W H q x y : Int) (w : World) (bW : -9223372036854775808 ≤ W ∧ W < 9223372036854775808) (bH : -9223372036854775808 ≤ H ∧ H < 9223372036854775808) (bq : -9223372036854775808 ≤ q ∧ q < 9223372036854775808) (bx : -9223372036854775808 ≤ x ∧ x < 9223372036854775808) (by' : -9223372036854775808 ≤ y ∧ y < 9223372036854775808) :
    Calls Try.prog 10 #[.int .i64 W, .int .i64 H, .int .i64 q, .int .i64 x, .int .i64 y] w fun e w' => e = .returned (.tuple #[.int .i64 (plI W H q x y).1, .int .i64 (plI W H q x y).2]) ∧ Below w.heap.size w w' := w_pplace22a W H q x y w

theorem w_pformed22 (v : Value) (p : PicI) (w : World) (h : RdPc w v p) (g : gPc p) :
    Calls Try.prog 20 #[v] w fun e w' => e = .returned (.bool (fmI p)) ∧ Below w.heap.size w w' := by
  obtain ⟨vP, rfl, r⟩ := h
  exact w_pformed22a p.1 p.2.1 vP p.2.2 w r g.2.1

theorem w_pturn22 (v : Value) (p : PicI) (q : Int) (w : World) (h : RdPc w v p) (g : gPc p) (bq : -9223372036854775808 ≤ q ∧ q < 9223372036854775808) :
    Calls Try.prog 16 #[v, .int .i64 q] w fun e w' => ∃ v', e = .returned (.tuple #[v', .int .i64 (tnI p q 1).2]) ∧ RdPc w' v' (tnI p q 1).1 ∧ Below w.heap.size w w' := by
  refine (w_pturn22a p v q w h g.2.1).mono ?_
  rintro e w' ⟨v', rfl, o, b⟩
  exact ⟨v', rfl, o.read, b⟩

theorem w_pmirror22 (v : Value) (p : PicI) (w : World) (h : RdPc w v p) (g : gPc p) :
    Calls Try.prog 18 #[v] w fun e w' => ∃ v', e = .returned (.tuple #[v', .int .i64 (miI p 1).2]) ∧ RdPc w' v' (miI p 1).1 ∧ Below w.heap.size w w' := by
  refine (w_pmirror22a p v w h g.2.1).mono ?_
  rintro e w' ⟨v', rfl, o, b⟩
  exact ⟨v', rfl, o.read, b⟩

theorem w_pdraw22 (va vb : Value) (p t : PicI) (x y q : Int) (w : World) (ha : RdPc w va p) (hb : RdPc w vb t) (gp : gPc p) (gt : gPc t) (bx : -9223372036854775808 ≤ x ∧ x < 9223372036854775808) (by' : -9223372036854775808 ≤ y ∧ y < 9223372036854775808) (bq : -9223372036854775808 ≤ q ∧ q < 9223372036854775808) :
    Calls Try.prog 24 #[va, vb, .int .i64 x, .int .i64 y, .int .i64 q] w fun e w' => ∃ v', e = .returned (.tuple #[v', .int .i64 (drI p t x y q 1).2]) ∧ RdPc w' v' (drI p t x y q 1).1 ∧ Below w.heap.size w w' := by
  cases hn : (fmI p && (decide (-64 ≤ x) && decide (x ≤ 64)) && (decide (-64 ≤ y) && decide (y ≤ 64)))
  · have hD : drI p t x y q 1 = (noP, 1) := by
      unfold drI
      rw [if_neg]
      intro c
      simp only [Bool.and_eq_true, decide_eq_true_eq] at c
      have : (fmI p && (decide (-64 ≤ x) && decide (x ≤ 64)) && (decide (-64 ≤ y) && decide (y ≤ 64))) = true := by simp only [c.1.1.1.1.1, decide_eq_true c.1.1.1.2, decide_eq_true c.1.1.2, decide_eq_true c.1.2, decide_eq_true c.2, Bool.and_self]
      rw [this] at hn
      cases hn
    rw [hD]
    obtain ⟨v1, rfl, r1⟩ := ha
    obtain ⟨v2, rfl, r2⟩ := hb
    obtain ⟨a, c, hv⟩ := rd_slice r2
    refine (w_pdraw22_no p.1 p.2.1 t.1 t.2.1 p.2.2 v1 v2 x y q w r1 gp.2.1 ⟨a, _, c, hv⟩ hn).mono ?_
    rintro e w' ⟨v', rfl, o, b⟩
    exact ⟨v', rfl, o.read, b⟩
  · simp only [Bool.and_eq_true, decide_eq_true_eq] at hn
    obtain ⟨⟨hp, x0, x1⟩, y0, y1⟩ := hn
    obtain ⟨f1, f2, f3⟩ := fm_toP hp
    cases ht : fmI t
    · have hD : drI p t x y q 1 = (noP, 1) := by
        unfold drI
        rw [if_neg]
        intro c
        simp only [Bool.and_eq_true, decide_eq_true_eq] at c
        rw [ht] at c
        exact absurd c.1.1.1.1.2 Bool.false_ne_true
      rw [hD]
      obtain ⟨v1, rfl, r1⟩ := ha
      obtain ⟨v2, rfl, r2⟩ := hb
      rw [← f3] at hp r1 gp ⊢
      refine (w_pdraw22_no2 (toP p).1 (toP p).2.1 t.1 t.2.1 (toP p).2.2 t.2.2 v1 v2 x y q w r1 r2 gp.2.1 gt.2.1 hp ht x0 x1 y0 y1).mono ?_
      rintro e w' ⟨v', rfl, o, b⟩
      exact ⟨v', rfl, o.read, b⟩
    · obtain ⟨g1, g2, g3⟩ := fm_toP ht
      have hD : drI p t x y q 1 = (ofP (drF (toP p) (pcT (qtN q) (toP t)) x y), 0) := by
        unfold drI
        rw [if_pos (by simp only [hp, ht, decide_eq_true x0, decide_eq_true x1, decide_eq_true y0, decide_eq_true y1, Bool.and_self])]
      rw [hD]
      rw [← f3] at ha
      rw [← g3] at hb
      refine (w_pdraw22_ok va vb (toP p) (toP t) x y q w ha hb f1 f2 g1 g2 x0 x1 y0 y1).mono ?_
      rintro e w' ⟨v', rfl, o, b⟩
      exact ⟨v', rfl, o.read, b⟩

theorem w_plight22 (v : Value) (p : PicI) (w : World) (h : RdPc w v p) (g : gPc p) :
    Calls Try.prog 22 #[v] w fun e w' => e = .returned (.int .i64 (lgF p.2.2)) ∧ Below w.heap.size w w' := w_plight22a v p w h g.2.1

/-
  The fixed fact of layer 22; what the answers are made of.
-/
theorem getD_bytes {P : List Int} (h : bytesL P) (i : Nat) : 0 ≤ P.getD i 0 ∧ P.getD i 0 < 256 := by
  rw [List.getD_eq_getElem?_getD]
  by_cases hi : i < P.length
  · rw [List.getElem?_eq_getElem hi]
    exact h _ (List.getElem_mem hi)
  · rw [List.getElem?_eq_none (by omega)]
    decide
theorem mkP_bytes {W H : Nat} {f : Nat → Nat → Int} (h : ∀ x y, 0 ≤ f x y ∧ f x y < 256) : bytesL (mkP W H f) := by
  intro x hx
  unfold mkP at hx
  obtain ⟨j, _, rfl⟩ := List.mem_map.1 hx
  exact h _ _
theorem pcQ_bytes {p : Pic} (h : bytesL p.2.2) : bytesL (pcQ p).2.2 := mkP_bytes (f := fun X Y => pxA p.1 p.2.2 Y (p.2.1 - 1 - X)) (fun x y => getD_bytes h _)
theorem pcT_bytes {p : Pic} (h : bytesL p.2.2) : ∀ n, bytesL (pcT n p).2.2
  | 0 => h
  | n + 1 => pcQ_bytes (pcT_bytes h n)
theorem pcM_bytes {p : Pic} (h : bytesL p.2.2) : bytesL (pcM p).2.2 := mkP_bytes (f := fun x y => pxA p.1 p.2.2 (p.1 - 1 - x) y) (fun x y => getD_bytes h _)
theorem drF_bytes {p t : Pic} (x y : Int) (hp : bytesL p.2.2) (ht : bytesL t.2.2) : bytesL (drF p t x y).2.2 := by
  refine mkP_bytes (fun i j => ?_)
  unfold drA
  split
  · exact getD_bytes ht _
  · exact getD_bytes hp _
theorem nil_bytes : bytesL ([] : List Int) := fun x hx => by cases hx
theorem gPc_no : gPc noP := ⟨nil_bytes, by decide, by decide, by decide⟩
theorem gPc_fm {p : PicI} (h : fmI p = true) (hb : bytesL p.2.2) : gPc p := by
  obtain ⟨a, b, c, d, e⟩ := (fmI_iff p).1 h
  have : p.1 * p.2.1 ≤ 4096 := by
    have := Int.mul_le_mul b d c (show (0 : Int) ≤ 64 by omega)
    omega
  exact ⟨hb, by omega, by omega, by omega⟩
theorem nwI_bytes (W H E : Int) : bytesL (nwI W H E).1.2.2 := by
  unfold nwI
  split
  · intro x hx
    rw [(List.mem_replicate.1 hx).2]
    decide
  · exact nil_bytes
theorem tnI_g {p : PicI} (g : gPc p) (q E : Int) : gPc (tnI p q E).1 := by
  unfold tnI
  split
  · rename_i h
    obtain ⟨f1, f2, f3⟩ := fm_toP h
    exact gPc_fm (fm_ofP (pcT_f f1 _) (pcS_T f2 _)) (pcT_bytes (p := toP p) g.1 _)
  · exact gPc_no
theorem miI_g {p : PicI} (g : gPc p) (E : Int) : gPc (miI p E).1 := by
  unfold miI
  split
  · rename_i h
    obtain ⟨f1, f2, f3⟩ := fm_toP h
    exact gPc_fm (fm_ofP (pcM_f (toP p)) (pcS_M f2)) (pcM_bytes (p := toP p) g.1)
  · exact gPc_no
theorem drI_g {p t : PicI} (g : gPc p) (gt : gPc t) (x y q E : Int) : gPc (drI p t x y q E).1 := by
  unfold drI
  split
  · rename_i h
    simp only [Bool.and_eq_true, decide_eq_true_eq] at h
    obtain ⟨⟨⟨⟨⟨h1, h2⟩, _⟩, _⟩, _⟩, _⟩ := h
    obtain ⟨f1, f2, f3⟩ := fm_toP h1
    exact gPc_fm (fm_ofP (drF_f _ _ _ _) (show pcS (drF (toP p) _ x y) from f2)) (drF_bytes x y (p := toP p) g.1 (pcT_bytes (p := toP t) gt.1 _))
  · exact gPc_no

theorem al_turn : tnI (2, 1, [5, 6]) 2 1 = ((2, 1, [6, 5]), 0) := by decide +kernel
theorem al_place : plI 2 1 1 1 0 = (0, 1) := by decide +kernel
set_option maxHeartbeats 1000000 in
theorem w_alive22 (w : World) : Calls Try.prog 9 #[] w fun e w' => e = .returned (.bool true) ∧ Below w.heap.size w w' := by
  have b0 := box_below w (.cells #[.int .u8 5, .int .u8 6] 5)
  have r0 : Rd .u8 (w.alloc (.cells #[.int .u8 5, .int .u8 6] 5)) (.slice (some ⟨w.heap.size, 0, none⟩) 2 2) [5, 6] := rd_lit (k := .u8) w [5, 6] 5 (by decide) (by decide)
  have cT := w_pturn22 (.agg #[.int .i64 2, .int .i64 1, .slice (some ⟨w.heap.size, 0, none⟩) 2 2]) (2, 1, [5, 6]) 2 _ ⟨_, rfl, r0⟩ ⟨by unfold bytesL; decide, by decide, by decide, by decide⟩ (by decide)
  have cL := fun w => w_pplace22 2 1 1 1 0 w (by decide) (by decide) (by decide) (by decide) (by decide)
  rw [al_turn] at cT
  rw [al_place] at cL
  simp only at cT cL
  go_enter Try.func9, Try.ntmps9
  go_upto_region 2 with (first
    | (go_at_call 16; refine cT.mono ?_; rintro e w1 ⟨v1, rfl, ⟨vP, rfl, r1⟩, b1⟩; obtain ⟨sa, sq, rfl⟩ := rd_slice r1; have b01 := below_trans b0 b1)
    | fail)
  have bx := box_below w1 (.cells #[.int .i64 2, .int .i64 1, .slice sa ([6, 5] : List Int).length sq] 28)
  have st := stands_new w1 #[.int .i64 2, .int .i64 1, .slice sa ([6, 5] : List Int).length sq] 28
  obtain ⟨ad, i1, i2⟩ := rd_idx r1 uB zB 0 (by decide) (by decide)
  replace i2 : w1.cell? ad = some (.int .u8 6) := i2
  have b02 := below_trans b01 bx
  simp only [List.length_cons, List.length_nil, Nat.zero_add, Nat.reduceAdd] at bx st i1 r1 b02 ⊢
  have hl1 := rd_len r1 uB (P := Try.prog)
  simp only [List.length_cons, List.length_nil, Nat.zero_add, Nat.reduceAdd] at hl1
  go_wp2_with (go_at_call 10; refine (cL _).mono ?_; rintro e w2 ⟨rfl, b2⟩; have st2 := st.below b2; have z0 := st2.cell 0 _ rfl; have z1 := st2.cell 1 _ rfl; have z2 := st2.cell 2 _ rfl; have y2 := below_cell b2 (below_cell bx i2))
  go_ret
  exact ⟨rfl, below_trans b02 b2⟩

end Go.Proofs.Ythihkfimledccaa
