/-
  Texts of one proof, laid one behind the other: Nr2 Nbm Nr3.
-/
import Derived.Test.YtaiimfdcbdfbdabDoorB16
import Derived.Laws.StructEq
namespace Go.Proofs.YtaiimfdcbdfbdabDoor
open Go.ChangeShapes Go.WideShapes Go.ChangeAt Go.RowKit
set_option linter.unusedVariables false
set_option linter.unusedSimpArgs false

/-
  bank, Counts, Recover of the document's answer for layer 18.
-/
set_option maxRecDepth 100000

/-- what a bank tells to who asks -/
def BkP (w : World) (B : List Int) (e : Ending) (w' : World) : Prop :=
  ∃ (g : Int) (v' : Value), e = .returned (.tuple #[.int .u8 g, v', .bool (bkR B)]) ∧ (0 ≤ g ∧ g < 256) ∧ (bkR B = true → g = B.getD 1 0 ∧ Rd .u8 w v' (bkD B)) ∧ Below w.heap.size w w'

set_option maxHeartbeats 2000000 in
set_option maxRecDepth 100000 in
theorem w_rbank18 (k : Int) (v : Value) (xs : List Int) (w : World) (k0 : 0 ≤ k) (k1 : k ≤ 1) (h : Rd .u8 w v xs) (hb : bytesL xs) (hl : xs.length = 512) :
    Calls Tryd.prog 46 #[v, .int .i64 k] w (BkP w (bkF xs k)) := by
  obtain ⟨vb, rb, sb, -, -⟩ := rd_cutI h uB zB (256 * k) (256 * k + 256) (by omega) (by omega) (by omega)
  rw [show (xs.drop (256 * k).toNat).take (256 * k + 256 - 256 * k).toNat = bkF xs k by unfold bkF; congr 1; omega] at rb
  have hB := bk_bytes hb k
  have hL : (bkF xs k).length = 256 := by simp only [bkF, List.length_take, List.length_drop]; omega
  obtain ⟨B, hBe⟩ : ∃ B, bkF xs k = B := ⟨_, rfl⟩
  rw [hBe] at rb hB hL ⊢
  clear hBe
  unfold BkP
  obtain ⟨a0, b0, p01, p02, p03, p04, p05⟩ := mem_at rb hB 0 (by omega) (by omega)
  obtain ⟨a1, b1, p11, p12, p13, p14, p15⟩ := mem_at rb hB 1 (by omega) (by omega)
  obtain ⟨a2, b2, p21, p22, p23, p24, p25⟩ := mem_at rb hB 2 (by omega) (by omega)
  obtain ⟨a3, b3, p31, p32, p33, p34, p35⟩ := mem_at rb hB 3 (by omega) (by omega)
  rw [show (0 : Int).toNat = 0 from rfl] at p05
  rw [show (1 : Int).toNat = 1 from rfl] at p15
  rw [show (2 : Int).toNat = 2 from rfl] at p25
  rw [show (3 : Int).toNat = 3 from rfl] at p35
  have hN : bkN B = 256 * b2 + b3 := by unfold bkN; rw [p25, p35]
  by_cases hm : b0 = 165
  · by_cases hn : 248 < 256 * b2 + b3
    · have hR : bkR B = false := by unfold bkR; rw [hN, decide_eq_false (show ¬ 256 * b2 + b3 ≤ 248 by omega)]; simp
      rw [hR]
      have hq : (b0 != 165) = false := by simpa using hm
      clear p05 p15 p25 p35 hN hR hm
      go_enter Tryd.func46, Tryd.ntmps46
      go_wp2_with fail
      go_quiet (fail)
      go_wp2_with fail
      go_ret3
      exact ⟨_, _, rfl, by omega, (fun h => by cases h), below_drewN (Below.refl _ _) _⟩
    · obtain ⟨v4, r4, -, -, s4⟩ := rd_cutI rb uB zB 4 256 (by omega) (by omega) (by omega)
      have s4' := s4 (by omega)
      rw [show (4 : Int).toNat = 4 from rfl, List.take_of_length_le (by simp; omega)] at r4
      obtain ⟨vd, rd, sd, -, -⟩ := rd_cutI rb uB zB 8 (8 + (256 * b2 + b3)) (by omega) (by omega) (by omega)
      rw [show (B.drop (8 : Int).toNat).take (8 + (256 * b2 + b3) - 8).toNat = bkD B by unfold bkD; rw [hN]; congr 1; omega] at rd
      have hDb : bytesL (bkD B) := bytes_take (bytes_drop hB _) _
      have hDl : (bkD B).length ≤ 256 := by simp only [bkD, List.length_take, List.length_drop]; omega
      have cD := fun w' hb' => w_rdecint v4 (B.drop 4) w w' r4 hb' (bytes_drop hB _) (by simp; omega)
      have eD : deIF (B.drop 4) = (bkS B, (B.drop 4).drop 4, 0) := by unfold deIF bkS; rw [if_neg (by simp; omega)]
      rw [eD] at cD
      simp only at cD
      have cS := fun w' hr => w_rsum18 b1 vd (bkD B) w' p13 p14 hr hDb (by omega)
      have hsb := ns_bd b1 (bkD B)
      have hS : (0 ≤ bkS B ∧ bkS B < 4294967296) := by
        have := beB_len
        have h4 : ((B.drop 4).take 4).length = 4 := by simp; omega
        obtain ⟨x0, x1, x2, x3, he⟩ := four_list h4
        have hx : bytesL [x0, x1, x2, x3] := by rw [← he]; exact bytes_take (bytes_drop hB _) _
        have y0 := hx x0 (by simp)
        have y1 := hx x1 (by simp)
        have y2 := hx x2 (by simp)
        have y3 := hx x3 (by simp)
        unfold bkS
        rw [he]
        simp [beV]
        omega
      have hR : bkR B = (bkS B == nsF b1 (bkD B)) := by
        unfold bkR
        rw [p05, hN, p15, hm, decide_eq_true (show 256 * b2 + b3 ≤ 248 by omega)]
        by_cases hq : bkS B = nsF b1 (bkD B) <;> simp [hq]
      have hg : B.getD 1 0 = b1 := p15
      rw [hR, hg]
      have hq : (b0 != 165) = false := by simpa using hm
      obtain ⟨S, hSe⟩ : ∃ S, bkS B = S := ⟨_, rfl⟩
      obtain ⟨Z, hZe⟩ : ∃ Z, nsF b1 (bkD B) = Z := ⟨_, rfl⟩
      obtain ⟨D, hDe⟩ : ∃ D, bkD B = D := ⟨_, rfl⟩
      rw [hSe] at cD hS ⊢
      rw [hZe] at cS hsb ⊢
      rw [hDe] at cS rd ⊢
      obtain ⟨s0, s1⟩ := hS
      obtain ⟨z0, z1⟩ := hsb
      clear p05 p15 p25 p35 hN hR hm hg hSe hZe hDe hDb hDl eD s4 r4 hB
      go_enter Tryd.func46, Tryd.ntmps46
      go_wp2_with fail
      go_quiet (fail)
      have bd := below_drewN (Below.refl w.heap.size w) nq
      have hn0 : 0 ≤ 256 * b2 + b3 := by omega
      generalize 256 * b2 + b3 = N at sd hn hn0 ⊢
      have hw8 : IntKind.i64.wrap (8 + N) = 8 + N := by rw [IntKind.wrap_i64]; omega
      go_wp2_with (go_at_call 64; refine (cD _ bd).mono ?_; rintro e w1 ⟨v1, rfl, r1, b1'⟩)
      have bd1 : Below w.heap.size w w1.drew := below_drewN (below_trans bd b1') 1
      have p12' : w1.drew.cell? a1 = some (.int .u8 b1) := below_cell bd1 p12
      go_region_with (go_at_call 41; refine (cS _ (rd.below bd1)).mono ?_; rintro e w3 ⟨rfl, b3'⟩; have p12'' := below_cell b3' p12')
      all_goals go_wp2_with fail
      all_goals go_ret3
      all_goals exact ⟨_, _, rfl, by omega, fun _ => ⟨rfl, rd⟩, below_trans bd1 b3'⟩
  · have hR : bkR B = false := nr_mark (by rw [p05]; exact hm)
    rw [hR]
    have hq : (b0 != 165) = true := by simpa using hm
    clear p05 p15 p25 p35 hN hR hm
    go_enter Tryd.func46, Tryd.ntmps46
    go_wp2_with fail
    go_quiet (fail)
    go_wp2_with fail
    go_ret3
    exact ⟨_, _, rfl, by omega, (fun h => by cases h), below_drewN (Below.refl _ _) _⟩

set_option maxHeartbeats 2000000 in
theorem w_rcounts18 (v : Value) (xs : List Int) (w : World) (h : Rd .u8 w v xs) (hb : bytesL xs) (hl : xs.length = 512) :
    Calls Tryd.prog 39 #[v] w fun e w' => e = .returned (.tuple #[.int .i64 (cntF xs).1, .int .u8 (cntF xs).2]) ∧ Below w.heap.size w w' := by
  have c0 := fun w h => w_rbank18 0 v xs w (by omega) (by omega) h hb hl
  have c1 := fun w h => w_rbank18 1 v xs w (by omega) (by omega) h hb hl
  have hg := getD_byte (bk_bytes hb 0) 1
  have hh := getD_byte (bk_bytes hb 1) 1
  unfold cntF
  unfold BkP at c0 c1
  obtain ⟨X, hX⟩ : ∃ X, bkR (bkF xs 0) = X := ⟨_, rfl⟩
  obtain ⟨Y, hY⟩ : ∃ Y, bkR (bkF xs 1) = Y := ⟨_, rfl⟩
  obtain ⟨g, hG⟩ : ∃ g, (bkF xs 0).getD 1 0 = g := ⟨_, rfl⟩
  obtain ⟨k, hK⟩ : ∃ k, (bkF xs 1).getD 1 0 = k := ⟨_, rfl⟩
  simp only [hX, hG] at c0
  simp only [hY, hK] at c1
  rw [hG] at hg
  rw [hK] at hh
  rw [hX, hY, hG, hK]
  have hw : IntKind.u8.wrap (g + 1) = (g + 1) % 256 := by rw [IntKind.wrap_u8]
  clear hX hY hG hK
  cases X
  · cases Y
    · simp only [Bool.false_eq_true, false_and, and_false, if_false]
      go_enter Tryd.func39, Tryd.ntmps39
      go_upto_region 2 with (go_at_call 46; refine (c0 _ h).mono ?_; rintro e w1 ⟨g1, v1, rfl, g2, h1, b1⟩)
      go_wp2_with (go_at_call 46; refine (c1 _ (h.below b1)).mono ?_; rintro e w2 ⟨g3, v3, rfl, g4, h2, b2⟩)
      go_ret2
      exact ⟨rfl, below_trans b1 b2⟩
    · simp only [Bool.false_eq_true, false_and, and_false, if_false, if_true]
      go_enter Tryd.func39, Tryd.ntmps39
      go_upto_region 2 with (go_at_call 46; refine (c0 _ h).mono ?_; rintro e w1 ⟨g1, v1, rfl, g2, h1, b1⟩)
      go_wp2_with (go_at_call 46; refine (c1 _ (h.below b1)).mono ?_; rintro e w2 ⟨g3, v3, rfl, g4, h2, b2⟩; obtain ⟨rfl, r3⟩ := h2 (by simp))
      go_ret2
      exact ⟨rfl, below_trans b1 b2⟩
  · cases Y
    · simp only [Bool.false_eq_true, false_and, and_false, if_false, if_true]
      go_enter Tryd.func39, Tryd.ntmps39
      go_upto_region 2 with (go_at_call 46; refine (c0 _ h).mono ?_; rintro e w1 ⟨g1, v1, rfl, g2, h1, b1⟩; obtain ⟨rfl, r1⟩ := h1 (by simp))
      go_wp2_with (go_at_call 46; refine (c1 _ (h.below b1)).mono ?_; rintro e w2 ⟨g3, v3, rfl, g4, h2, b2⟩)
      go_ret2
      exact ⟨rfl, below_trans b1 b2⟩
    · by_cases hq : k = (g + 1) % 256
      · rw [if_pos ⟨rfl, rfl, hq⟩]
        have hq2 : (k == (g + 1) % 256) = true := by simpa using hq
        clear hq
        go_enter Tryd.func39, Tryd.ntmps39
        go_upto_region 2 with (go_at_call 46; refine (c0 _ h).mono ?_; rintro e w1 ⟨g1, v1, rfl, g2, h1, b1⟩; obtain ⟨rfl, r1⟩ := h1 (by simp))
        go_wp2_with (go_at_call 46; refine (c1 _ (h.below b1)).mono ?_; rintro e w2 ⟨g3, v3, rfl, g4, h2, b2⟩; obtain ⟨rfl, r3⟩ := h2 (by simp))
        go_ret2
        exact ⟨rfl, below_trans b1 b2⟩
      · rw [if_neg (fun z => hq z.2.2), if_pos rfl]
        have hq2 : (k == (g + 1) % 256) = false := by simpa using hq
        clear hq
        go_enter Tryd.func39, Tryd.ntmps39
        go_upto_region 2 with (go_at_call 46; refine (c0 _ h).mono ?_; rintro e w1 ⟨g1, v1, rfl, g2, h1, b1⟩; obtain ⟨rfl, r1⟩ := h1 (by simp))
        go_wp2_with (go_at_call 46; refine (c1 _ (h.below b1)).mono ?_; rintro e w2 ⟨g3, v3, rfl, g4, h2, b2⟩; obtain ⟨rfl, r3⟩ := h2 (by simp))
        go_ret2
        exact ⟨rfl, below_trans b1 b2⟩

theorem cnt_rg (xs : List Int) : ((cntF xs).1 = -1 ∨ (cntF xs).1 = 0 ∨ (cntF xs).1 = 1) ∧ (¬ (cntF xs).1 = -1 → bkR (bkF xs (cntF xs).1) = true) := by
  rcases cnt_spec xs with ⟨e, h, _⟩ | ⟨e, h⟩ | ⟨e, _⟩
  · rw [e]; exact ⟨by simp, fun _ => h⟩
  · rw [e]; exact ⟨by simp, fun _ => h⟩
  · rw [e]; exact ⟨by simp, fun z => absurd rfl z⟩
theorem rcv_bytes {xs : List Int} (h : bytesL xs) : bytesL (rcvF xs).1 := by
  unfold rcvF
  split
  · split
    · intro x hx; simp at hx
    · exact bytes_take (bytes_drop (bk_bytes h _) _) _
  · intro x hx; simp at hx
theorem bkD_le (B : List Int) (h : B.length ≤ 256) : (bkD B).length ≤ 256 := by simp only [bkD, List.length_take, List.length_drop]; omega
theorem bkF_le (xs : List Int) (k : Int) : (bkF xs k).length ≤ 256 := by simp only [bkF, List.length_take]; omega

set_option maxHeartbeats 2000000 in
theorem w_rrecover18 (v : Value) (xs : List Int) (w : World) (h : Rd .u8 w v xs) (hb : bytesL xs) :
    Calls Tryd.prog 26 #[v] w fun e w' => ∃ v', e = .returned (.tuple #[v', .int .i64 (rcvF xs).2.1, .bool (rcvF xs).2.2]) ∧ Rd .u8 w' v' (rcvF xs).1 ∧ Below w.heap.size w w' := by
  have hlen := rd_len h uB (P := Tryd.prog)
  by_cases hl : xs.length = 512
  · have cc := w_rcounts18 v xs w h hb hl
    obtain ⟨hc, hr⟩ := cnt_rg xs
    have hq : ((xs.length : Int) != 512) = false := by rw [show (xs.length : Int) = 512 by omega]; rfl
    unfold rcvF
    rw [if_pos hl]
    have cb := fun w k0 k1 h => w_rbank18 (cntF xs).1 v xs w k0 k1 h hb hl
    unfold BkP at cb
    obtain ⟨k, hk⟩ : ∃ k, (cntF xs).1 = k := ⟨_, rfl⟩
    rw [hk] at cc hc hr
    simp only [hk] at cb
    rw [hk]
    clear hk
    by_cases h0 : k < 0
    · rw [if_pos h0]
      clear hr hl
      go_enter Tryd.func26, Tryd.ntmps26
      go_wp2_with (go_at_call 39; refine cc.mono ?_; rintro e w1 ⟨rfl, b1⟩)
      go_ret3
      exact ⟨_, rfl, Rd_nil, b1⟩
    · rw [if_neg h0]
      have hR := hr (by omega)
      rw [hR] at cb
      have hk0 : 0 ≤ k := by omega
      have hk1 : k ≤ 1 := by omega
      have hD := bkD_le _ (bkF_le xs k)
      obtain ⟨D, hDe⟩ : ∃ D, bkD (bkF xs k) = D := ⟨_, rfl⟩
      rw [hDe] at cb hD ⊢
      clear hDe hr hl
      go_enter Tryd.func26, Tryd.ntmps26
      go_wp2_with (first
        | (go_at_call 39; refine cc.mono ?_; rintro e w1 ⟨rfl, b1⟩)
        | (go_at_call 46; refine (cb _ hk0 hk1 (h.below b1)).mono ?_; rintro e w2 ⟨g2, v2, rfl, g3, h2, b2⟩; obtain ⟨rfl, r2⟩ := h2 (by simp))
        | (go_at_call 47; refine (w_rcopy v2 D _ (r2.below b2) (by omega)).mono ?_; rintro e w3 ⟨v3, rfl, o3, b3⟩))
      go_ret3
      exact ⟨_, rfl, (Rd_own o3).1, below_trans b1 (below_trans b2 b3)⟩
  · have e : rcvF xs = ([], 0, false) := by unfold rcvF; rw [if_neg hl]
    rw [e]
    have hq : ((xs.length : Int) != 512) = true := by simp; omega
    clear e
    go_enter Tryd.func26, Tryd.ntmps26
    go_wp2_with fail
    go_ret3
    exact ⟨_, rfl, Rd_nil, Below.refl _ _⟩

/-
  Rows of places and bytes (api.Byte) in memory: two cells each, read, compared, written out; SameBytes of the document's answer.
-/
def pbC (p : Int × Int) : List Value := [.int .i64 p.1, .int .u8 p.2]
def pbR (_ : World) (cs : List Value) (p : Int × Int) : Prop := cs = pbC p
theorem pbR_below {w w' : World} (cs : List Value) (x : Int × Int) (h : pbR w cs x) : pbR w' cs x := h
theorem uPb : Tryd.prog.underlying 25 = some (.slice (Tryd.prog.elem 25)) := by kernel_rfl
theorem ePb : Tryd.prog.elem 25 = 54 := by kernel_rfl
theorem zPb (w : World) : (sizeOf (Tryd.prog.elem 25)).run Tryd.prog w = .ok 2 w := by rw [ePb]; exact Tryd.sizeOf54 w
theorem infoPb : (Tryd.prog.info? 54).map (fun i => (i.zero, i.size, i.bytes)) = some (some (.agg #[.int .i64 0, .int .u8 0]), 2, 16) := by kernel_rfl
/-- an element of two cells: its address' rule, its cells, what it reads as -/
theorem slr_idx2 {α : Type} {P : Program} {R : World → List Value → α → Prop} {w : World} {v : Value} {xs : List α} (h : SlR 2 R w v xs) {t : TypeId} (ht : P.underlying t = some (.slice (P.elem t))) (hs : ∀ w, (sizeOf (P.elem t)).run P w = .ok 2 w) (i : Nat) (h1 : i < xs.length) :
    ∃ (b o : Nat) (c0 c1 : Value), (∀ w', (Instr.indexAt t v (.int .i64 (i : Int))).run P w' = .ok (.pointer (some ⟨b, o, none⟩)) w') ∧ w.cell? ⟨b, o, none⟩ = some c0 ∧ w.cell? ⟨b, o + 1, none⟩ = some c1 ∧ R w [c0, c1] xs[i] := by
  obtain ⟨rows, g1, g2, g3⟩ := h
  obtain ⟨ao, cap, rfl, hc, hn, hx⟩ := g1.form
  obtain ⟨hm, b, off, rfl, hcell⟩ := hx (by omega)
  obtain ⟨l1, l2⟩ := hcell i (by omega)
  have e0 := l2 0 (by omega)
  have e1 := l2 1 (by omega)
  have hr := g3 i h1
  match hrow : rows.getD i [], l1 with
  | [c0, c1], _ =>
    rw [hrow] at e0 e1 hr
    refine ⟨b, off + i * 2, c0, c1, fun w' => ?_, by simpa using e0, by simpa using e1, hr⟩
    rw [run_indexAt_slice (h := ht), if_pos ⟨by omega, by omega⟩, hs]
    simp only [Result.andThen, Int.toNat_natCast]
    congr 3
    unfold Addr.add
    split
    · rename_i hz; rw [hz]; rfl
    · rfl
theorem pb_at {w : World} {v : Value} {xs : List (Int × Int)} (h : SlR 2 pbR w v xs) (i : Nat) (h1 : i < xs.length) :
    ∃ (b o : Nat) (A V : Int), (∀ w', (Instr.indexAt 25 v (.int .i64 (i : Int))).run Tryd.prog w' = .ok (.pointer (some ⟨b, o, none⟩)) w') ∧ w.cell? ⟨b, o, none⟩ = some (.int .i64 A) ∧ w.cell? ⟨b, o + 1, none⟩ = some (.int .u8 V) ∧ xs[i] = (A, V) := by
  obtain ⟨b, o, c0, c1, r, e0, e1, hR⟩ := slr_idx2 h uPb zPb i h1
  simp only [pbR, pbC, List.cons.injEq] at hR
  obtain ⟨rfl, rfl, _⟩ := hR
  exact ⟨b, o, _, _, r, e0, e1, rfl⟩
theorem pb_str : Tryd.prog.underlying 54 = some (.struct (Tryd.prog.fieldsOf 54)) := by kernel_rfl
theorem pb_held : Tryd.prog.stoodInHeld 54 = false := by kernel_rfl
theorem pb_guard : Tryd.prog.eqGuardType Tryd.prog.depth 54 = false := by kernel_rfl
theorem pb_neq (w : World) (a1 v1 a2 v2 : Int) : (binOp .neq 54 (.agg #[.int .i64 a1, .int .u8 v1]) (.agg #[.int .i64 a2, .int .u8 v2])).run Tryd.prog w = .ok (.bool (!(a1 == a2 && v1 == v2))) w := by
  rw [run_neq_struct, run_equalIn_agg w _ _ _ _ pb_str pb_held]
  cases h1 : (a1 == a2) <;> cases h2 : (v1 == v2)
  all_goals simp [go_sem, h1, h2]
def OwP (base : Nat) (w : World) (v : Value) (out : List (Int × Int)) : Prop := w.ownsRow base 54 2 v out.length (out.flatMap pbC)
theorem OwP.read {base : Nat} {w : World} {v : Value} {out : List (Int × Int)} (h : OwP base w v out) : SlR 2 pbR w v out :=
  slr_rows pbC (fun _ _ => rfl) (by decide) h (fun _ _ => rfl)
theorem own_belowP {w w' : World} {base : Nat} {v : Value} {out : List (Int × Int)} (h : OwP base w v out) (g : Below w.heap.size w w') : OwP base w' v out := by
  obtain ⟨hl, h⟩ := h
  refine ⟨hl, ?_⟩
  rcases h with h | ⟨b, cap, cur, rfl, hb, hg, hc, hm, hs, ht⟩
  · exact Or.inl h
  · refine Or.inr ⟨b, cap, cur, rfl, hb, ?_, hc, hm, hs, ht⟩
    rw [g.block b (Array.getElem?_eq_some_iff.1 hg).1]
    exact hg
theorem pb_one (p : Int × Int) : ∀ u ∈ pbC p, u.oneCell' = true := by
  intro u hu
  simp [pbC] at hu
  rcases hu with rfl | rfl <;> rfl

set_option maxHeartbeats 1000000 in
theorem w_rsameB (va vb : Value) (xs ys : List (Int × Int)) (w : World) (ha : SlR 2 pbR w va xs) (hb : SlR 2 pbR w vb ys) :
    Calls Tryd.prog 13 #[va, vb] w fun e w' => e = .returned (.bool (decide (xs = ys))) ∧ Below w.heap.size w w' := by
  have hla := slr_len ha uPb (P := Tryd.prog)
  have hlb := slr_len hb uPb (P := Tryd.prog)
  have hma := slr_max ha
  have hmb := slr_max hb
  unfold maxLen at hma hmb
  by_cases hl : xs.length = ys.length
  · have hn : ((xs.length : Int) != (ys.length : Int)) = false := by simp [hl]
    have Hl := hid hl
    clear hl
    go_enter Tryd.func13, Tryd.ntmps13
    go_wp2_with fail
    go_loopw [5] (fun i wx => ∃ k : Nat, (k : Int) ≤ xs.length ∧ i = .int .i64 k ∧ Hid (xs.take k = ys.take k) ∧ Below w.heap.size w wx) (fun i _ => (xs.length - intOf i).toNat)
    case atStart => exact ⟨0, by omega, rfl, hid (by simp), Below.refl _ _⟩
    case round =>
      obtain ⟨j, hj, rfl, ht, hg⟩ := hrel
      by_cases hlt : (j : Int) < xs.length
      · have hka : j < xs.length := by omega
        have hkb : j < ys.length := by have := Hl.out; omega
        obtain ⟨b1, o1, k1, n1, r1, a0, a1, e0⟩ := pb_at (ha.below hg pbR_below) j hka
        obtain ⟨b2, o2, k2, n2, r2, d0, d1, f0⟩ := pb_at (hb.below hg pbR_below) j hkb
        have hne := fun w => pb_neq w k1 n1 k2 n2
        have hgd := fun w x y => run_eqGuard_agg (P := Tryd.prog) w .neq 54 x y #[.int .i64 k1, .int .u8 n1] #[.int .i64 k2, .int .u8 n2] pb_guard
        have hq : (k1 == k2 && n1 == n2) = decide (xs[j] = ys[j]) := by
          rw [e0, f0, Bool.eq_iff_iff]
          simp
        by_cases hxy : xs[j] = ys[j]
        · have ht2 : Hid (xs.take (j + 1) = ys.take (j + 1)) := by
            show _ = _
            rw [List.take_succ_eq_append_getElem hka, List.take_succ_eq_append_getElem hkb, ht.out, hxy]
          rw [show decide (xs[j] = ys[j]) = true by simp [hxy]] at hq
          simp only [hq, Bool.not_true] at hne
          clear e0 f0 hq hxy
          go_wp2_with fail
          go_quiet (fail)
          go_wp2_with fail
          go_roundw
          case rel => exact ⟨j + 1, by omega, by go_num, ht2, below_drewN hg _⟩
          case measure => simp [intOf]; omega
        · have hf : Hid (decide (xs = ys) = false) := by
            show _ = _
            simp
            intro h
            subst h
            exact hxy rfl
          rw [show decide (xs[j] = ys[j]) = false by simp [hxy]] at hq
          simp only [hq, Bool.not_false] at hne
          clear e0 f0 hq hxy
          go_wp2_with fail
          go_quiet (fail)
          go_wp2_with fail
          go_ret
          rw [hf.out]
          exact ⟨rfl, below_drewN hg _⟩
      · have hf : Hid (decide (xs = ys) = true) := by
          show _ = _
          have h1 := ht.out
          rw [List.take_of_length_le (by omega), List.take_of_length_le (by have := Hl.out; omega)] at h1
          simpa using h1
        go_wp2_with fail
        go_ret
        rw [hf.out]
        exact ⟨rfl, hg⟩
  · have hn : ((xs.length : Int) != (ys.length : Int)) = true := by simp; omega
    have hf : Hid (decide (xs = ys) = false) := by
      show _ = _
      simp
      intro h
      subst h
      exact hl rfl
    clear hl
    go_enter Tryd.func13, Tryd.ntmps13
    go_wp2_with fail
    go_ret
    rw [hf.out]
    exact ⟨rfl, Below.refl _ _⟩

/-
  Apply and Plan of the document's answer for layer 18.
-/
set_option maxRecDepth 100000

theorem apl_take (nv : List Int) (l : List (Int × Int)) (k : Nat) (h : k < l.length) : aplL nv (l.take (k + 1)) = putB (aplL nv (l.take k)) l[k] := by
  rw [List.take_succ_eq_append_getElem h, apl_snoc]

end Go.Proofs.YtaiimfdcbdfbdabDoor
