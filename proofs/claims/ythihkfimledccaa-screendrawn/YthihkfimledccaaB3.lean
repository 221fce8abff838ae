/-
  Texts of one proof, laid one behind the other: Sr3 Sr4 Sr5.
-/
import Derived.Test.YthihkfimledccaaB2
import Derived.Deep.RegionHeld
import Derived.Deep.Cut
import Derived.Deep.CutRange
import Derived.Deep.DeepCutAuto
namespace Go.Proofs.Ythihkfimledccaa
open Go.ChangeShapes Go.WideShapes Go.ChangeAt Go.RowKit
set_option linter.unusedVariables false
set_option linter.unusedSimpArgs false

/-
  New, Same, Light of the document's answer for layer 22.
-/
/-- a picture of the call's own -/
def OwPc (base : Nat) (w : World) (v : Value) (p : PicI) : Prop := ∃ vP, v = .agg #[.int .i64 p.1, .int .i64 p.2.1, vP] ∧ Own8 base w vP p.2.2
/-- a picture that is read -/
def RdPc (w : World) (v : Value) (p : PicI) : Prop := ∃ vP, v = .agg #[.int .i64 p.1, .int .i64 p.2.1, vP] ∧ Rd .u8 w vP p.2.2
theorem own8_below {w w' : World} {base : Nat} {v : Value} {xs : List Int} (h : Own8 base w v xs) (g : Below w.heap.size w w') : Own8 base w' v xs := by
  obtain ⟨hl, h⟩ := h
  refine ⟨hl, ?_⟩
  rcases h with h | ⟨b, cap, cur, rfl, hb, hg, hc, hm, hs, ht⟩
  · exact Or.inl h
  · refine Or.inr ⟨b, cap, cur, rfl, hb, ?_, hc, hm, hs, ht⟩
    rw [g.block b (Array.getElem?_eq_some_iff.1 hg).1]
    exact hg
theorem own8_base {base base' : Nat} {w : World} {v : Value} {xs : List Int} (h : Own8 base w v xs) (hb : base' ≤ base) : Own8 base' w v xs := by
  obtain ⟨hl, h⟩ := h
  refine ⟨hl, ?_⟩
  rcases h with h | ⟨b, cap, cur, rfl, hb2, hg, hc, hm, hs, ht⟩
  · exact Or.inl h
  · exact Or.inr ⟨b, cap, cur, rfl, Nat.le_trans hb hb2, hg, hc, hm, hs, ht⟩
theorem own8_nil (base : Nat) (w : World) : Own8 base w (.slice none 0 0) [] := World.ownsRow_nil _ _ _ _
theorem OwPc.read {base : Nat} {w : World} {v : Value} {p : PicI} (h : OwPc base w v p) : RdPc w v p := by
  obtain ⟨vP, rfl, o⟩ := h
  exact ⟨vP, rfl, (Rd_own o).1⟩
theorem OwPc.below {w w' : World} {base : Nat} {v : Value} {p : PicI} (h : OwPc base w v p) (g : Below w.heap.size w w') : OwPc base w' v p := by
  obtain ⟨vP, rfl, o⟩ := h
  exact ⟨vP, rfl, own8_below o g⟩
theorem OwPc.base {base base' : Nat} {w : World} {v : Value} {p : PicI} (h : OwPc base w v p) (hb : base' ≤ base) : OwPc base' w v p := by
  obtain ⟨vP, rfl, o⟩ := h
  exact ⟨vP, rfl, own8_base o hb⟩
theorem RdPc.below {w w' : World} {v : Value} {p : PicI} (h : RdPc w v p) (g : Below w.heap.size w w') : RdPc w' v p := by
  obtain ⟨vP, rfl, r⟩ := h
  exact ⟨vP, rfl, r.below g⟩
theorem infoPc : (Try.prog.info? 28).map (·.size) = some 3 := by kernel_rfl
theorem set3q {w : World} {b : Nat} {z0 z1 z2 : Value} {T : TypeId} (h : Stands w b #[z0, z1, z2] T) (a0 a1 a2 : Value) :
    Stands (((w.setCell ⟨b, 0, none⟩ a0).setCell ⟨b, 1, none⟩ a1).setCell ⟨b, 2, none⟩ a2) b #[a0, a1, a2] T ∧ ∀ Q : World → Prop, (∀ u u', Kept T u u' → Q u → Q u') → Q w → Q (((w.setCell ⟨b, 0, none⟩ a0).setCell ⟨b, 1, none⟩ a1).setCell ⟨b, 2, none⟩ a2) := by
  have h0 := h.set 0 a0
  have h1 := h0.set 1 a1
  have h2 := h1.set 2 a2
  exact ⟨by simpa only [List.setIfInBounds_toArray, List.set_cons_zero, List.set_cons_succ] using h2, fun Q hQ q => hQ _ _ (set_kept h1 2 a2) (hQ _ _ (set_kept h0 1 a1) (hQ _ _ (set_kept h 0 a0) q))⟩
theorem own8_kept {T : TypeId} (hT : ¬ 5 = T) {base : Nat} {v : Value} {ys : List Int} : ∀ u u' : World, Kept T u u' → Own8 base u v ys → Own8 base u' v ys := fun u u' k h => own_kept k hT h
theorem below_set3 {w w' : World} (h : Below w.heap.size w w') (g : Nat) (a0 a1 a2 : Value) (hg : w.heap.size ≤ g) : Below w.heap.size w (((w'.setCell ⟨g, 0, none⟩ a0).setCell ⟨g, 1, none⟩ a1).setCell ⟨g, 2, none⟩ a2) :=
  below_set (below_set (below_set h g 0 a0 hg) g 1 a1 hg) g 2 a2 hg

set_option maxHeartbeats 1000000 in
theorem w_rnew22 (W H : Int) (w : World) :
    Calls Try.prog 13 #[.int .i64 W, .int .i64 H] w fun e w' => ∃ v, e = .returned (.tuple #[v, .int .i64 (nwI W H 1).2]) ∧ OwPc w.heap.size w' v (nwI W H 1).1 ∧ Below w.heap.size w w' := by
  have cs := w_rsized22 W H
  have s0 := stands_new w #[.int .i64 0, .int .i64 0, .slice none 0 0] 28
  have bw := box_below w (.cells #[.int .i64 0, .int .i64 0, .slice none 0 0] 28)
  unfold nwI
  by_cases h1 : szI W H = true
  · rw [if_pos h1]
    obtain ⟨a, b, c, d⟩ := (szI_iff W H).1 h1
    rw [h1] at cs
    have m0 : 0 ≤ W * H := Int.mul_nonneg a c
    have m1 : W * H ≤ 4096 := by
      have := Int.mul_le_mul b d c (show (0 : Int) ≤ 64 by omega)
      omega
    obtain ⟨M, hM⟩ : ∃ M, W * H = M := ⟨_, rfl⟩
    rw [hM] at m0 m1 ⊢
    have wm : IntKind.i64.wrap (W * H) = M := by rw [hM, IntKind.wrap_i64]; omega
    have hmk := fun w => mk_zero M M.toNat (by omega) (by omega) w
    have hon := fun w => own_zero M.toNat (by unfold maxLen; omega) w
    have hbz := fun w : World => box_below w (.cells (madeCells #[.int .u8 0] M.toNat) 5)
    obtain ⟨n, hn⟩ : ∃ n, M.toNat = n := ⟨_, rfl⟩
    simp only [hn] at hmk hon hbz ⊢
    obtain ⟨Z, hZ⟩ : ∃ Z, madeCells #[.int .u8 0] n = Z := ⟨_, rfl⟩
    simp only [hZ] at hmk hon hbz
    clear h1 hM hn hZ
    go_enter Try.func13, Try.ntmps13
    go_upto_region 3 with (first | (go_at_call 29; refine (cs _).mono ?_; rintro e w1 ⟨rfl, hw⟩; obtain rfl := hw.symm) | fail)
    generalize w.alloc (.cells #[.int .i64 0, .int .i64 0, .slice none 0 0] 28) = W0 at s0 bw ⊢
    have s1 := s0.below (hbz W0)
    have zz0 := s1.cell 0 _ rfl
    have zz1 := s1.cell 1 _ rfl
    have zz2 := s1.cell 2 _ rfl
    have zf := s1.free
    go_wp2_with fail
    obtain ⟨g1, g2⟩ := set3q s1 (.int .i64 W) (.int .i64 H) (.slice (some ⟨W0.heap.size, 0, none⟩) n n)
    have J7 := below_set3 (below_trans bw (hbz W0)) w.heap.size (.int .i64 W) (.int .i64 H) (.slice (some ⟨W0.heap.size, 0, none⟩) n n) (Nat.le_refl _)
    (try simp only [Exit.inBlock, Exit.then])
    refine bodyPost_ret (res_row2 rfl _ _ w.heap.size 28 _ (0, 0) _ rfl g1 Try.underlying28 rfl infoPc) rfl ?_
    exact ⟨_, rfl, ⟨_, rfl, own8_base (g2 _ (own8_kept (by decide)) (hon W0)) bw.size⟩, J7⟩
  · have h1' : szI W H = false := by simpa using h1
    rw [if_neg h1]
    rw [h1'] at cs
    clear h1 h1'
    go_enter Try.func13, Try.ntmps13
    go_upto_region 2 with (first | (go_at_call 29; refine (cs _).mono ?_; rintro e w1 ⟨rfl, hw⟩; obtain rfl := hw.symm) | fail)
    generalize w.alloc (.cells #[.int .i64 0, .int .i64 0, .slice none 0 0] 28) = W0 at s0 bw ⊢
    have zz0 := s0.cell 0 _ rfl
    have zz1 := s0.cell 1 _ rfl
    have zz2 := s0.cell 2 _ rfl
    have zf := s0.free
    go_wp2_with fail
    obtain ⟨g1, g2⟩ := set3q s0 (.int .i64 0) (.int .i64 0) (.slice none 0 0)
    have J7 := below_set3 bw w.heap.size (.int .i64 0) (.int .i64 0) (.slice none 0 0) (Nat.le_refl _)
    (try simp only [Exit.inBlock, Exit.then])
    refine bodyPost_ret (res_row2 rfl _ _ w.heap.size 28 _ (0, 0) _ rfl g1 Try.underlying28 rfl infoPc) rfl ?_
    exact ⟨_, rfl, ⟨_, rfl, own8_nil _ _⟩, J7⟩

set_option maxHeartbeats 1000000 in
theorem w_rsame22 (va vb : Value) (p q : PicI) (w : World) (ha : RdPc w va p) (hb : RdPc w vb q) (bp : bytesL p.2.2) (bq : bytesL q.2.2) :
    Calls Try.prog 14 #[va, vb] w fun e w' => e = .returned (.bool (decide (p = q))) ∧ Below w.heap.size w w' := by
  obtain ⟨v1, rfl, r1⟩ := ha
  obtain ⟨v2, rfl, r2⟩ := hb
  obtain ⟨W, H, P⟩ := p
  obtain ⟨X, Y, Q⟩ := q
  simp only at r1 r2 bp bq ⊢
  have b1 := box_below w (.cells #[.int .i64 W, .int .i64 H, v1] 28)
  have b2 := below_trans b1 (box_below _ (.cells #[.int .i64 X, .int .i64 Y, v2] 28))
  have cS := w_rsame v1 v2 P Q _ (r1.below b2) (r2.below b2) bp bq
  by_cases h1 : W = X
  · subst h1
    by_cases h2 : H = Y
    · subst h2
      have e : decide (((W, H, P) : PicI) = (W, H, Q)) = decide (P = Q) := by congr 1; apply propext; simp
      rw [e]
      clear e
      go_enter Try.func14, Try.ntmps14
      go_wp2_with (go_at_call 31; refine cS.mono ?_; rintro e w1 ⟨rfl, hw⟩; obtain rfl := hw.symm)
      go_ret
      exact ⟨rfl, b2⟩
    · have hq : (H == Y) = false := by rw [beq_eq_false_iff_ne]; exact h2
      rw [decide_eq_false (fun z => h2 (by injection z with _ z; injection z))]
      clear h2
      go_enter Try.func14, Try.ntmps14
      go_wp2_with fail
      go_ret
      exact ⟨rfl, b2⟩
  · have hq : (W == X) = false := by rw [beq_eq_false_iff_ne]; exact h1
    rw [decide_eq_false (fun z => h1 (by injection z))]
    clear h1
    go_enter Try.func14, Try.ntmps14
    go_wp2_with fail
    go_ret
    exact ⟨rfl, b2⟩

set_option maxHeartbeats 1000000 in
theorem w_rlight22 (v : Value) (p : PicI) (w : World) (h : RdPc w v p) (hz : p.2.2.length ≤ 140737488351232) :
    Calls Try.prog 23 #[v] w fun e w' => e = .returned (.int .i64 (lgF p.2.2)) ∧ Below w.heap.size w w' := by
  obtain ⟨vP, rfl, r⟩ := h
  obtain ⟨W, H, P⟩ := p
  simp only at r hz ⊢
  have bx := box_below w (.cells #[.int .i64 W, .int .i64 H, vP] 28)
  have s0 := stands_new w #[.int .i64 W, .int .i64 H, vP] 28
  have z2 := s0.cell 2 _ rfl
  have hlen := rd_len r uB (P := Try.prog)
  have r1 := r.below bx
  clear r
  go_enter Try.func23, Try.ntmps23
  go_upto_region 1 with fail
  generalize w.alloc (.cells #[.int .i64 W, .int .i64 H, vP] 28) = W0 at bx z2 r1 ⊢
  clear s0
  go_wp2_with fail
  go_loopw [3, 4] (fun N I wx => ∃ k n : Nat, (k : Int) ≤ P.length ∧ I = .int .i64 k ∧ N = .int .i64 n ∧ n ≤ k ∧ Hid (lgF (P.take k) = n) ∧ wx = W0) (fun _ I _ => (P.length - intOf I).toNat)
  case atStart => exact ⟨0, 0, by omega, rfl, rfl, Nat.le_refl _, hid rfl, rfl⟩
  case round =>
    obtain ⟨k, n, hk, rfl, rfl, hnk, hn, hw0⟩ := hrel
    obtain rfl := hw0.symm
    by_cases hlt : (k : Int) < P.length
    · obtain ⟨a, i1, i2⟩ := rd_idx r1 uB zB k (by omega) hlt
      have hst := lg_take P (show k < P.length by omega)
      rw [hn.out] at hst
      rw [Int.toNat_natCast] at i2
      obtain ⟨c, hc⟩ : ∃ c, P.getD k 0 = c := ⟨_, rfl⟩
      rw [hc] at i2 hst
      clear hc
      unfold bL at hst
      by_cases hz0 : c = 0
      · rw [if_pos hz0] at hst
        have hst := hid hst
        subst hz0
        go_wp2_with fail
        go_roundw
        case rel => exact ⟨k + 1, n, by omega, by go_num, rfl, by omega, hst, trivial⟩
        case measure => simp [intOf]; omega
      · rw [if_neg hz0] at hst
        have hst := hid hst
        have hq : (c != 0) = true := by simpa using hz0
        clear hz0
        go_wp2_with fail
        go_roundw
        case rel => exact ⟨k + 1, n + 1, by omega, by go_num, by go_num, by omega, hst, trivial⟩
        case measure => simp [intOf]; omega
    · have hk2 : P.take k = P := List.take_of_length_le (by omega)
      have hR : Hid (lgF P = n) := by have := hn.out; rw [hk2] at this; exact this
      clear hn hk2
      go_wp2_with fail
      go_ret
      exact ⟨ret_i (by rw [hR.out]), bx⟩

/-
  quarter of the document's answer for layer 22.
-/
/-- a box that holds a picture whose points are a row of the call's own, in a block apart -/
def BoxP (base : Nat) (w : World) (B W H : Nat) (vZ : Value) (ys : List Int) : Prop :=
  Stands w B #[.int .i64 W, .int .i64 H, vZ] 28 ∧ Own8 base w vZ ys ∧ base ≤ B ∧ ∀ g, vZ.ownBlock = some g → g ≠ B
theorem BoxP.set {base : Nat} {w : World} {B W H : Nat} {vZ : Value} {ys : List Int} (h : BoxP base w B W H vZ ys) (i : Int) (h0 : 0 ≤ i) (h1 : i < ys.length) :
    ∃ a : Addr, (∀ w', (Instr.indexAt 26 vZ (.int .i64 i)).run Try.prog w' = .ok (.pointer (some a)) w') ∧ w.cell? a = some (.int .u8 (ys.getD i.toNat 0)) ∧ w.frozen? a = false ∧ base ≤ a.block ∧ ∀ y, BoxP base (w.setCell a (.int .u8 y)) B W H vZ (ys.set i.toNat y) := by
  obtain ⟨s, o, hb, hn⟩ := h
  rcases o.2 with ⟨rfl, hz⟩ | ⟨g, cap, cur, rfl, hb2, hg, hnc, hcm, hcs, htake⟩
  · omega
  · obtain ⟨a, g1, g2, g3, g4, g5⟩ := own_set o uB zB i h0 h1
    have hab : a.block = g := by
      have h2 := g1 w
      rw [run_indexAt_slice (h := uB), if_pos ⟨h0, h1⟩, zB] at h2
      simp only [Result.andThen, Nat.mul_one] at h2
      injection h2 with h2 _
      injection h2 with h2
      injection h2 with h2
      rw [← h2]
      unfold Addr.add
      split <;> rfl
    have han : a = ⟨a.block, a.off, none⟩ := by
      have h2 := g1 w
      rw [run_indexAt_slice (h := uB), if_pos ⟨h0, h1⟩, zB] at h2
      simp only [Result.andThen, Nat.mul_one] at h2
      injection h2 with h2 _
      injection h2 with h2
      injection h2 with h2
      rw [← h2]
      unfold Addr.add
      split <;> rfl
    refine ⟨a, g1, g2, g3, g4, fun y => ⟨?_, g5 y, hb, hn⟩⟩
    rw [han]
    exact s.other a.off _ (by rw [hab]; exact fun z => hn g rfl z.symm)
theorem BoxP.below {base : Nat} {w w' : World} {B W H : Nat} {vZ : Value} {ys : List Int} (h : BoxP base w B W H vZ ys) (g : Below w.heap.size w w') : BoxP base w' B W H vZ ys :=
  ⟨h.1.below g, own8_below h.2.1 g, h.2.2.1, h.2.2.2⟩
theorem res_row1 {P : Program} {fn : Func} {p : Tmp} {ty : TypeId} (h : fn.results = #[.cell p ty]) (tmps : Array Value) (w : World) (g : Nat) (t : TypeId) (cs : Array Value) (fr : Nat × Nat) (d : TypeDesc)
    (hp : tmps.getD p undef = .pointer (some ⟨g, 0, none⟩)) (hg : w.heap[g]? = some (.cells cs t fr))
    (hu : P.underlying ty = some d) (hd : (match d with | .struct _ | .array _ _ => true | _ => false) = true) (hi : (P.info? ty).map (·.size) = some cs.size) :
    (results fn tmps).run P w = .ok (.agg cs) w := by
  have hp' : tmps[p]?.getD undef = .pointer (some ⟨g, 0, none⟩) := by simpa using hp
  simp [results, h, hp', asAddr, run_loadVar_row w g t ty cs fr d hg hu hd hi]

theorem wr_mul (a b : Nat) (h : a * b ≤ 4096) : IntKind.i64.wrap ((a : Int) * (b : Int)) = ((a * b : Nat) : Int) := by
  rw [IntKind.wrap_i64, ← Int.natCast_mul]
  omega
theorem bd0 (w : World) : Below w.heap.size w w.drew := below_drewN (Below.refl _ _) 1
theorem bd1 (w : World) (A : Obj) : Below w.heap.size w (w.alloc A).drew := below_drewN (box_below w A) 1
theorem bd2 (w : World) (A B : Obj) : Below w.heap.size w ((w.alloc A).alloc B).drew := below_drewN (below_trans (box_below w A) (box_below _ B)) 1
theorem stands_two (w : World) (A : Obj) (cs : Array Value) (T : TypeId) : Stands ((w.alloc A).alloc (.cells cs T)).drew (w.heap.size + 1) cs T := by
  have := stands_new (w.alloc A) cs T
  rw [size_al] at this
  exact this
theorem stands_one (w : World) (cs : Array Value) (T : TypeId) (B : Obj) : Stands ((w.alloc (.cells cs T)).alloc B).drew w.heap.size cs T := (stands_new w cs T).below (below_drewN (box_below _ B) 1)
theorem own8_one (w : World) (n : Nat) (hn : n ≤ maxLen) (B : Obj) : Own8 w.heap.size ((w.alloc (.cells (madeCells #[.int .u8 0] n) 5)).alloc B).drew (.slice (some ⟨w.heap.size, 0, none⟩) n n) (List.replicate n 0) := own8_below (own_zero n hn w) (below_drewN (box_below _ B) 1)
theorem own8_two (w : World) (n : Nat) (hn : n ≤ maxLen) (A : Obj) : Own8 w.heap.size ((w.alloc A).alloc (.cells (madeCells #[.int .u8 0] n) 5)).drew (.slice (some ⟨w.heap.size + 1, 0, none⟩) n n) (List.replicate n 0) := by
  have := own8_base (own_zero n hn (w.alloc A)) (box_below w A).size
  rw [size_al] at this
  exact this

set_option maxHeartbeats 4000000 in
set_option maxRecDepth 10000 in
theorem w_rquarter22 (p : Pic) (v : Value) (w : World) (hp : pcF p) (hs : pcS p) (h : RdPc w v (ofP p)) :
    Calls Try.prog 34 #[v] w fun e w' => ∃ v', e = .returned v' ∧ OwPc w.heap.size w' v' (ofP (pcQ p)) ∧ Below w.heap.size w w' := by
  obtain ⟨vP, rfl, r⟩ := h
  obtain ⟨m, n, P⟩ := p
  unfold pcF at hp
  obtain ⟨hW, hH⟩ := hs
  simp only [ofP] at r hp hW hH ⊢
  have bw := below_trans (box_below w (.cells #[.int .i64 (m : Int), .int .i64 (n : Int), vP] 28)) (box_below _ (.cells #[.int .i64 0, .int .i64 0, .slice none 0 0] 28))
  have s1 := (stands_new w #[.int .i64 (m : Int), .int .i64 (n : Int), vP] 28).below (box_below _ (.cells #[.int .i64 0, .int .i64 0, .slice none 0 0] 28))
  have s2 := stands_new (w.alloc (.cells #[.int .i64 (m : Int), .int .i64 (n : Int), vP] 28)) #[.int .i64 0, .int .i64 0, .slice none 0 0] 28
  rw [size_al] at s2
  have hlen := rd_len r uB (P := Try.prog)
  have hWH : m * n ≤ 4096 := Nat.le_trans (Nat.mul_le_mul hW hH) (by omega)
  have r1 := r.below bw
  obtain ⟨pa, pq, rfl⟩ := rd_slice r
  have hPm : P.length ≤ 4096 := by omega
  have HP := hid hp
  clear r hp
  go_enter Try.func34, Try.ntmps34
  go_upto_region 1 with fail
  generalize (w.alloc (.cells #[.int .i64 (m : Int), .int .i64 (n : Int), .slice pa P.length pq] 28)).alloc (.cells #[.int .i64 0, .int .i64 0, .slice none 0 0] 28) = W0 at bw s1 s2 r1 ⊢
  have hmk := fun w => mk_zero (P.length : Int) P.length rfl (by omega) w
  have z0 := s1.cell 0 _ rfl
  have z1 := s1.cell 1 _ rfl
  have z2 := s1.cell 2 _ rfl
  go_cut [3] (fun S wx => ∃ (B : Nat) (vZ : Value), S = .pointer (some ⟨B, 0, none⟩) ∧ BoxP W0.heap.size wx B n m vZ (List.replicate P.length 0) ∧ Below W0.heap.size W0 wx)
  case first =>
    have HS : Hid (∀ W1, Below W0.heap.size W0 W1 → (W1.cell? ⟨w.heap.size, 0, none⟩ = some (.int .i64 m) ∧ W1.cell? ⟨w.heap.size, 1, none⟩ = some (.int .i64 n) ∧ W1.cell? ⟨w.heap.size, 2, none⟩ = some (.slice pa P.length pq))) := fun W1 g => ⟨below_cell g z0, below_cell g z1, below_cell g z2⟩
    clear z0 z1 z2
    go_region_held (fun W1 => W1.cell? ⟨w.heap.size, 0, none⟩ = some (.int .i64 m) ∧ W1.cell? ⟨w.heap.size, 1, none⟩ = some (.int .i64 n) ∧ W1.cell? ⟨w.heap.size, 2, none⟩ = some (.slice pa P.length pq)) (first | with_reducible exact HS.out _ (bd0 _) | with_reducible exact HS.out _ (bd1 _ _) | with_reducible exact HS.out _ (bd2 _ _ _)) (fail)
    all_goals go_wp2_with fail
    · go_meet
      case rel => exact ⟨W0.heap.size + 1, _, rfl, ⟨stands_two _ _ _ _, own8_one _ _ (by unfold maxLen; omega) _, by omega, fun g hg => by simp [Value.ownBlock] at hg; omega⟩, bd2 _ _ _⟩
    · go_meet
      case rel => exact ⟨W0.heap.size, _, rfl, ⟨stands_one _ _ _ _, own8_two _ _ (by unfold maxLen; omega) _, by omega, fun g hg => by simp [Value.ownBlock] at hg; omega⟩, bd2 _ _ _⟩
  case rest =>
    obtain ⟨B, vZ, rfl, bp, bc⟩ := hcut
    have qz := qF_0 (m, n, P)
    simp only at qz
    rw [Nat.mul_comm, ← HP.out] at qz
    rw [← qz] at bp
    clear qz hmk
    have Z0 := hid (fun W9 (g : Below W0.heap.size W0 W9) => below_cell g z0)
    have Z1 := hid (fun W9 (g : Below W0.heap.size W0 W9) => below_cell g z1)
    have Z2 := hid (fun W9 (g : Below W0.heap.size W0 W9) => below_cell g z2)
    clear z0 z1 z2
    have S2 := hid s2
    clear s1 s2
    go_wp2_with fail
    go_loopw [4] (fun Y wx => ∃ y : Nat, y ≤ n ∧ Y = .int .i64 y ∧ BoxP W0.heap.size wx B n m vZ (qF (m, n, P) (y * m)) ∧ Below W0.heap.size W0 wx) (fun Y _ => (n - intOf Y).toNat)
    case atStart => exact ⟨0, by omega, rfl, by rw [Nat.zero_mul]; exact bp, bc⟩
    case round =>
      clear bp bc
      obtain ⟨y, hy, rfl, bp, bc⟩ := hrel
      have z1 := Z1.out wr bc
      by_cases hlt : (y : Int) < n
      · go_upto_region 6 with fail
        have hyn : y < n := by omega
        go_loopw [5] (fun X wx => ∃ x : Nat, x ≤ m ∧ X = .int .i64 x ∧ BoxP W0.heap.size wx B n m vZ (qF (m, n, P) (y * m + x)) ∧ Below W0.heap.size W0 wx) (fun X _ => (m - intOf X).toNat)
        case atStart => exact ⟨0, by omega, rfl, bp, bc⟩
        case round =>
          clear bp bc z1
          obtain ⟨x, hx, rfl, bp, bc⟩ := hrel
          have z0 := Z0.out wr bc
          by_cases hlx : (x : Int) < m
          · have hxm : x < m := by omega
            have hI1 : y * m + x < m * n := px_lt hxm hyn
            have hI2 : x * n + (n - 1 - y) < n * m := px_lt (show n - 1 - y < n by omega) hxm
            have hI2m : n * m ≤ 4096 := by rw [Nat.mul_comm]; exact hWH
            have hqs := qF_set (m, n, P) (x := x) (y := y) hxm hyn
            simp only at hqs
            obtain ⟨A, hA⟩ : ∃ A, x * n = A := ⟨_, rfl⟩
            obtain ⟨A1, hA1⟩ : ∃ A, y * m = A := ⟨_, rfl⟩
            have e1 : IntKind.i64.wrap ((x : Int) * (n : Int)) = (A : Int) := by rw [← hA]; exact wr_mul x n (by omega)
            have e2 : IntKind.i64.wrap ((y : Int) * (m : Int)) = (A1 : Int) := by rw [← hA1]; exact wr_mul y m (by omega)
            rw [hA] at hI2 hqs
            rw [hA1] at hI1 hqs bp
            obtain ⟨n1, hn1⟩ : ∃ k, n - 1 = k := ⟨_, rfl⟩
            have e3 : IntKind.i64.wrap ((n : Int) - 1) = (n1 : Int) := by rw [IntKind.wrap_i64]; omega
            obtain ⟨n2, hn2⟩ : ∃ k, n1 - y = k := ⟨_, rfl⟩
            have e4 : IntKind.i64.wrap ((n1 : Int) - (y : Int)) = (n2 : Int) := by rw [IntKind.wrap_i64]; omega
            rw [hn1, hn2] at hI2 hqs
            obtain ⟨I2, hi2⟩ : ∃ k, A + n2 = k := ⟨_, rfl⟩
            have e5 : IntKind.i64.wrap ((A : Int) + (n2 : Int)) = (I2 : Int) := by rw [IntKind.wrap_i64]; omega
            obtain ⟨I1, hi1⟩ : ∃ k, A1 + x = k := ⟨_, rfl⟩
            have e6 : IntKind.i64.wrap ((A1 : Int) + (x : Int)) = (I1 : Int) := by rw [IntKind.wrap_i64]; omega
            rw [hi2] at hI2 hqs
            rw [hi1] at hI1 bp
            rw [hi1] at hqs
            have hP1 : I1 < P.length := by rw [HP.out]; exact hI1
            obtain ⟨ad, j1, j2⟩ := rd_idx r1 uB zB (I1 : Int) (by omega) (by omega)
            obtain ⟨C, hC⟩ : ∃ C, P.getD I1 0 = C := ⟨_, rfl⟩
            rw [Int.toNat_natCast, hC] at j2
            have hpx : pxA m P x y = C := by unfold pxA; rw [hA1, hi1]; exact hC
            rw [hpx] at hqs
            obtain ⟨a, g1, g2, g3, g4, g5⟩ := (bp.below (bd0 wr)).set (I2 : Int) (by omega) (by rw [qF_len]; simp only; omega)
            have bp2 := g5 C
            rw [Int.toNat_natCast, hqs] at bp2
            have bcs := (below_drewN bc 1).setCell g4 (.int .u8 C)
            have HS : Hid (∀ W9, Below wr.heap.size wr W9 → (W9.cell? ⟨w.heap.size, 0, none⟩ = some (.int .i64 m) ∧ W9.cell? ⟨w.heap.size, 1, none⟩ = some (.int .i64 n) ∧ W9.cell? ⟨w.heap.size, 2, none⟩ = some (.slice pa P.length pq) ∧ W9.cell? ⟨B, 0, none⟩ = some (.int .i64 n) ∧ W9.cell? ⟨B, 2, none⟩ = some vZ ∧ W9.cell? ad = some (.int .u8 C))) := fun W g => ⟨Z0.out W (below_trans bc g), Z1.out W (below_trans bc g), Z2.out W (below_trans bc g), (bp.1.below g).cell 0 _ rfl, (bp.1.below g).cell 2 _ rfl, below_cell (below_trans bc g) j2⟩
            have KS : Hid ((wr.drew.setCell a (.int .u8 C)).cell? ⟨w.heap.size, 0, none⟩ = some (.int .i64 m) ∧ (wr.drew.setCell a (.int .u8 C)).cell? ⟨w.heap.size, 1, none⟩ = some (.int .i64 n) ∧ (wr.drew.setCell a (.int .u8 C)).cell? ⟨w.heap.size, 2, none⟩ = some (.slice pa P.length pq) ∧ (wr.drew.setCell a (.int .u8 C)).cell? ⟨B, 0, none⟩ = some (.int .i64 n) ∧ (wr.drew.setCell a (.int .u8 C)).cell? ⟨B, 2, none⟩ = some vZ ∧ (wr.drew.setCell a (.int .u8 C)).cell? ad = some (.int .u8 C)) := ⟨Z0.out _ bcs, Z1.out _ bcs, Z2.out _ bcs, bp2.1.cell 0 _ rfl, bp2.1.cell 2 _ rfl, below_cell bcs j2⟩
            have BP2 := hid bp2
            have BCS := hid bcs
            have hin := hid (show y * m + (x + 1) = I1 + 1 by omega)
            clear hA hA1 hn1 hn2 hi2 hi1 hC hpx hqs g5 bp2 bcs bp j2 hI1 hI2 hI2m hP1
            go_upto_region 8 with fail
            refine wp_region_held_drew (S := fun W => W.cell? ⟨w.heap.size, 0, none⟩ = some (.int .i64 m) ∧ W.cell? ⟨w.heap.size, 1, none⟩ = some (.int .i64 n) ∧ W.cell? ⟨w.heap.size, 2, none⟩ = some (.slice pa P.length pq) ∧ W.cell? ⟨B, 0, none⟩ = some (.int .i64 n) ∧ W.cell? ⟨B, 2, none⟩ = some vZ ∧ W.cell? ad = some (.int .u8 C)) (by kernel_rfl) (HS.out _ (bd0 _)) (fun hHeld => ?_)
            refine wpAnyH_take (i := 0) (v := ?v1) rfl (by kernel_rfl) (by kernel_rfl) (by kernel_rfl) (fun _ _ _ h => h) (Or.inl ⟨by kernel_rfl, ?h1⟩) hHeld ?r1
            case h1 => intro W hSw; (try dsimp only at hSw); obtain ⟨t0, t1, t2, t3, t4, t5⟩ := hSw; go_simp; try with_reducible rfl
            simp only [Act.put, List.setIfInBounds_toArray, List.set_cons_zero, List.set_cons_succ]
            refine wpAnyH_take (i := 1) (v := ?v2) rfl (by kernel_rfl) (by kernel_rfl) (by kernel_rfl) (fun _ _ _ h => h) (Or.inl ⟨by kernel_rfl, ?h2⟩) hHeld ?r2
            case h2 => intro W hSw; (try dsimp only at hSw); obtain ⟨t0, t1, t2, t3, t4, t5⟩ := hSw; go_simp; try with_reducible rfl
            simp only [Act.put, List.setIfInBounds_toArray, List.set_cons_zero, List.set_cons_succ]
            refine wpAnyH_take (i := 2) (v := ?v3) rfl (by kernel_rfl) (by kernel_rfl) (by kernel_rfl) (fun _ _ _ h => h) (Or.inl ⟨by kernel_rfl, ?h3⟩) hHeld ?r3
            case h3 => intro W hSw; (try dsimp only at hSw); obtain ⟨t0, t1, t2, t3, t4, t5⟩ := hSw; go_simp; try with_reducible rfl
            simp only [Act.put, List.setIfInBounds_toArray, List.set_cons_zero, List.set_cons_succ]
            refine wpAnyH_take (i := 3) (v := ?v4) rfl (by kernel_rfl) (by kernel_rfl) (by kernel_rfl) (fun _ _ _ h => h) (Or.inl ⟨by kernel_rfl, ?h4⟩) hHeld ?r4
            case h4 => intro W hSw; (try dsimp only at hSw); obtain ⟨t0, t1, t2, t3, t4, t5⟩ := hSw; go_simp; try with_reducible rfl
            simp only [Act.put, List.setIfInBounds_toArray, List.set_cons_zero, List.set_cons_succ]
            refine wpAnyH_take (i := 4) (v := ?v5) rfl (by kernel_rfl) (by kernel_rfl) (by kernel_rfl) (fun _ _ _ h => h) (Or.inl ⟨by kernel_rfl, ?h5⟩) hHeld ?r5
            case h5 => intro W hSw; (try dsimp only at hSw); obtain ⟨t0, t1, t2, t3, t4, t5⟩ := hSw; go_simp; try with_reducible rfl
            simp only [Act.put, List.setIfInBounds_toArray, List.set_cons_zero, List.set_cons_succ]
            refine wpAnyH_take (i := 5) (v := ?v6) rfl (by kernel_rfl) (by kernel_rfl) (by kernel_rfl) (fun _ _ _ h => h) (Or.inl ⟨by kernel_rfl, ?h6⟩) hHeld ?r6
            case h6 => intro W hSw; (try dsimp only at hSw); obtain ⟨t0, t1, t2, t3, t4, t5⟩ := hSw; go_simp; try with_reducible rfl
            simp only [Act.put, List.setIfInBounds_toArray, List.set_cons_zero, List.set_cons_succ]
            refine wpAnyH_take (i := 6) (v := ?v7) rfl (by kernel_rfl) (by kernel_rfl) (by kernel_rfl) (fun _ _ _ h => h) (Or.inl ⟨by kernel_rfl, ?h7⟩) hHeld ?r7
            case h7 => intro W hSw; (try dsimp only at hSw); obtain ⟨t0, t1, t2, t3, t4, t5⟩ := hSw; go_simp; try with_reducible rfl
            simp only [Act.put, List.setIfInBounds_toArray, List.set_cons_zero, List.set_cons_succ]
            refine wpAnyH_take (i := 7) (v := ?v8) rfl (by kernel_rfl) (by kernel_rfl) (by kernel_rfl) (fun _ _ _ h => h) (Or.inl ⟨by kernel_rfl, ?h8⟩) hHeld ?r8
            case h8 => intro W hSw; (try dsimp only at hSw); obtain ⟨t0, t1, t2, t3, t4, t5⟩ := hSw; go_simp; try with_reducible rfl
            simp only [Act.put, List.setIfInBounds_toArray, List.set_cons_zero, List.set_cons_succ]
            refine wpAnyH_take (i := 8) (v := ?v9) rfl (by kernel_rfl) (by kernel_rfl) (by kernel_rfl) (fun _ _ _ h => h) (Or.inl ⟨by kernel_rfl, ?h9⟩) hHeld ?r9
            case h9 => intro W hSw; (try dsimp only at hSw); obtain ⟨t0, t1, t2, t3, t4, t5⟩ := hSw; go_simp; try with_reducible rfl
            simp only [Act.put, List.setIfInBounds_toArray, List.set_cons_zero, List.set_cons_succ]
            refine wpAnyH_take (i := 9) (v := ?v10) rfl (by kernel_rfl) (by kernel_rfl) (by kernel_rfl) (fun _ _ _ h => h) (Or.inl ⟨by kernel_rfl, ?h10⟩) hHeld ?r10
            case h10 => intro W hSw; (try dsimp only at hSw); obtain ⟨t0, t1, t2, t3, t4, t5⟩ := hSw; go_simp; try with_reducible rfl
            simp only [Act.put, List.setIfInBounds_toArray, List.set_cons_zero, List.set_cons_succ]
            refine wpAnyH_take (i := 10) (v := ?v11) rfl (by kernel_rfl) (by kernel_rfl) (by kernel_rfl) (fun _ _ _ h => h) (Or.inl ⟨by kernel_rfl, ?h11⟩) hHeld ?r11
            case h11 => intro W hSw; (try dsimp only at hSw); obtain ⟨t0, t1, t2, t3, t4, t5⟩ := hSw; go_simp; try with_reducible rfl
            simp only [Act.put, List.setIfInBounds_toArray, List.set_cons_zero, List.set_cons_succ]
            refine wpAnyH_take (i := 11) (v := ?v12) rfl (by kernel_rfl) (by kernel_rfl) (by kernel_rfl) (fun _ _ _ h => h) (Or.inl ⟨by kernel_rfl, ?h12⟩) hHeld ?r12
            case h12 => intro W hSw; (try dsimp only at hSw); obtain ⟨t0, t1, t2, t3, t4, t5⟩ := hSw; go_simp; try with_reducible rfl
            simp only [Act.put, List.setIfInBounds_toArray, List.set_cons_zero, List.set_cons_succ]
            refine wpAnyH_take (i := 12) (v := ?v13) rfl (by kernel_rfl) (by kernel_rfl) (by kernel_rfl) (fun _ _ _ h => h) (Or.inl ⟨by kernel_rfl, ?h13⟩) hHeld ?r13
            case h13 => intro W hSw; (try dsimp only at hSw); obtain ⟨t0, t1, t2, t3, t4, t5⟩ := hSw; go_simp; try with_reducible rfl
            simp only [Act.put, List.setIfInBounds_toArray, List.set_cons_zero, List.set_cons_succ]
            refine wpAnyH_take (i := 13) (v := ?v14) rfl (by kernel_rfl) (by kernel_rfl) (by kernel_rfl) (fun _ _ _ h => h) (Or.inl ⟨by kernel_rfl, ?h14⟩) hHeld ?r14
            case h14 => intro W hSw; (try dsimp only at hSw); obtain ⟨t0, t1, t2, t3, t4, t5⟩ := hSw; go_simp; try with_reducible rfl
            simp only [Act.put, List.setIfInBounds_toArray, List.set_cons_zero, List.set_cons_succ]
            refine wpAnyH_take (i := 14) (v := ?v15) rfl (by kernel_rfl) (by kernel_rfl) (by kernel_rfl) (fun _ _ _ h => h) (Or.inl ⟨by kernel_rfl, ?h15⟩) hHeld ?r15
            case h15 => intro W hSw; (try dsimp only at hSw); obtain ⟨t0, t1, t2, t3, t4, t5⟩ := hSw; go_simp; try with_reducible rfl
            simp only [Act.put, List.setIfInBounds_toArray, List.set_cons_zero, List.set_cons_succ]
            refine wpAnyH_take (i := 15) (v := ?v16) rfl (by kernel_rfl) (by kernel_rfl) (by kernel_rfl) (fun _ _ _ h => h) (Or.inl ⟨by kernel_rfl, ?h16⟩) hHeld ?r16
            case h16 => intro W hSw; (try dsimp only at hSw); obtain ⟨t0, t1, t2, t3, t4, t5⟩ := hSw; go_simp; try with_reducible rfl
            simp only [Act.put, List.setIfInBounds_toArray, List.set_cons_zero, List.set_cons_succ]
            refine wpAnyH_take (i := 16) (v := ?v17) rfl (by kernel_rfl) (by kernel_rfl) (by kernel_rfl) (fun _ _ _ h => h) (Or.inl ⟨by kernel_rfl, ?h17⟩) hHeld ?r17
            case h17 => intro W hSw; (try dsimp only at hSw); obtain ⟨t0, t1, t2, t3, t4, t5⟩ := hSw; go_simp; try with_reducible rfl
            simp only [Act.put, List.setIfInBounds_toArray, List.set_cons_zero, List.set_cons_succ]
            refine wpAnyH_take (i := 17) (v := ?v18) rfl (by kernel_rfl) (by kernel_rfl) (by kernel_rfl) (fun _ _ _ h => h) (Or.inl ⟨by kernel_rfl, ?h18⟩) hHeld ?r18
            case h18 => intro W hSw; (try dsimp only at hSw); obtain ⟨t0, t1, t2, t3, t4, t5⟩ := hSw; go_simp; try with_reducible rfl
            simp only [Act.put, List.setIfInBounds_toArray, List.set_cons_zero, List.set_cons_succ]
            refine wpAnyH_take (i := 18) (v := ?v19) rfl (by kernel_rfl) (by kernel_rfl) (by kernel_rfl) (fun _ _ _ h => h) (Or.inl ⟨by kernel_rfl, ?h19⟩) hHeld ?r19
            case h19 => intro W hSw; (try dsimp only at hSw); obtain ⟨t0, t1, t2, t3, t4, t5⟩ := hSw; go_simp; try with_reducible rfl
            simp only [Act.put, List.setIfInBounds_toArray, List.set_cons_zero, List.set_cons_succ]
            refine wpAnyH_take (i := 19) (v := ?v20) rfl (by kernel_rfl) (by kernel_rfl) (by kernel_rfl) (fun _ _ _ h => h) (Or.inl ⟨by kernel_rfl, ?h20⟩) hHeld ?r20
            case h20 => intro W hSw; (try dsimp only at hSw); obtain ⟨t0, t1, t2, t3, t4, t5⟩ := hSw; go_simp; try with_reducible rfl
            simp only [Act.put, List.setIfInBounds_toArray, List.set_cons_zero, List.set_cons_succ]
            refine wpAnyH_take (i := 20) (v := ?v21) rfl (by kernel_rfl) (by kernel_rfl) (by kernel_rfl) (fun _ _ _ h => h) (Or.inl ⟨by kernel_rfl, ?h21⟩) hHeld ?r21
            case h21 => intro W hSw; (try dsimp only at hSw); obtain ⟨t0, t1, t2, t3, t4, t5⟩ := hSw; go_simp; try with_reducible rfl
            simp only [Act.put, List.setIfInBounds_toArray, List.set_cons_zero, List.set_cons_succ]
            refine wpAnyH_take (i := 21) (v := ?v22) rfl (by kernel_rfl) (by kernel_rfl) (by kernel_rfl) (fun _ _ _ h => h) (Or.inl ⟨by kernel_rfl, ?h22⟩) hHeld ?r22
            case h22 => intro W hSw; (try dsimp only at hSw); obtain ⟨t0, t1, t2, t3, t4, t5⟩ := hSw; go_simp; try with_reducible rfl
            simp only [Act.put, List.setIfInBounds_toArray, List.set_cons_zero, List.set_cons_succ]
            refine wpAnyH_take (i := 22) (v := ?v23) rfl (by kernel_rfl) (by kernel_rfl) (by kernel_rfl) (fun _ _ _ h => h) (Or.inl ⟨by kernel_rfl, ?h23⟩) hHeld ?r23
            case h23 => intro W hSw; (try dsimp only at hSw); obtain ⟨t0, t1, t2, t3, t4, t5⟩ := hSw; go_simp; try with_reducible rfl
            simp only [Act.put, List.setIfInBounds_toArray, List.set_cons_zero, List.set_cons_succ]
            refine wpAnyH_ready (rs := [23]) (by kernel_rfl) (by simp) ?_
            refine AllReadyH.cons rfl (fun K hK => ?_) AllReadyH.nil
            go_simp
            refine hK.out _ _ (KS.out) (fun hHeld => ?_)
            clear hK K
            (try simp only [Act.put, List.setIfInBounds_toArray, List.set_cons_zero, List.set_cons_succ])
            refine wpAnyH_done (by kernel_rfl) ?_ _
            go_wp2_with fail
            go_roundw
            case rel => exact ⟨x + 1, by omega, by go_num, by rw [hin.out]; exact BP2.out, BCS.out⟩
            case measure => simp [intOf]; omega
          · have hxm : x = m := by omega
            subst hxm
            go_wp2_with fail
            go_roundw
            case rel => exact ⟨y + 1, by omega, by go_num, by rw [Nat.succ_mul]; exact bp, bc⟩
            case measure => simp [intOf]; omega
      · obtain rfl : y = n := by omega
        have qa := qF_all (m, y, P)
        simp only at qa
        rw [qa] at bp
        have t0 := bp.1.cell 0 _ rfl
        have t1 := bp.1.cell 1 _ rfl
        have t2 := bp.1.cell 2 _ rfl
        have SR := S2.out.below bc
        have r0 := SR.cell 0 _ rfl
        have r1 := SR.cell 1 _ rfl
        have r2 := SR.cell 2 _ rfl
        have rf := SR.free
        clear qa
        obtain ⟨za, zq, hz⟩ := own_form bp.2.1
        obtain ⟨zl, hzl⟩ : ∃ l, (pcQ (m, y, P)).2.2.length = l := ⟨_, rfl⟩
        rw [hzl] at hz
        subst hz
        go_wp2_with fail
        obtain ⟨k1, k2⟩ := set3q SR (.int .i64 y) (.int .i64 m) (.slice za zl zq)
        have J7 := below_set3 (below_trans bw bc) (w.heap.size + 1) (.int .i64 y) (.int .i64 m) (.slice za zl zq) (by omega)
        (try simp only [Exit.inBlock, Exit.then])
        refine bodyPost_ret (res_row1 rfl _ _ (w.heap.size + 1) 28 _ (0, 0) _ rfl k1 Try.underlying28 rfl infoPc) rfl ?_
        exact ⟨_, rfl, ⟨_, rfl, own8_base (k2 _ (own8_kept (by decide)) bp.2.1) bw.size⟩, J7⟩

/-
  Turn of the document's answer for layer 22.
-/
theorem stands_one0 (w : World) (cs : Array Value) (T : TypeId) : Stands (w.alloc (.cells cs T)).drew w.heap.size cs T := stands_new w cs T
theorem own8_ltb {w : World} {base : Nat} {v : Value} {ys : List Int} (h : Own8 base w v ys) {g : Nat} (hg : v.ownBlock = some g) : g < w.heap.size := by
  rcases h.2 with ⟨rfl, hz⟩ | ⟨b, cap, cur, rfl, hb, hh, hnc, hcm, hcs, htake⟩
  · simp [Value.ownBlock] at hg
  · simp [Value.ownBlock] at hg
    subst hg
    exact (Array.getElem?_eq_some_iff.1 hh).1
theorem own8_basel {w : World} {base : Nat} {v : Value} {ys : List Int} (h : Own8 base w v ys) {g : Nat} (hg : v.ownBlock = some g) : base ≤ g := by
  rcases h.2 with ⟨rfl, hz⟩ | ⟨b, cap, cur, rfl, hb, hh, hnc, hcm, hcs, htake⟩
  · simp [Value.ownBlock] at hg
  · simp [Value.ownBlock] at hg
    subst hg
    exact hb

set_option maxHeartbeats 4000000 in
set_option maxRecDepth 10000 in
theorem w_rturn22 (p : PicI) (v : Value) (q : Int) (w : World) (h : RdPc w v p) (hz : p.2.2.length ≤ 140737488351232) (q0 : -9223372036854775808 ≤ q) (q1 : q < 9223372036854775808) :
    Calls Try.prog 17 #[v, .int .i64 q] w fun e w' => ∃ v', e = .returned (.tuple #[v', .int .i64 (tnI p q 1).2]) ∧ OwPc w.heap.size w' v' (tnI p q 1).1 ∧ Below w.heap.size w w' := by
  obtain ⟨vP, rfl, r⟩ := h
  obtain ⟨W, H, P⟩ := p
  simp only at r hz ⊢
  have bw := below_trans (box_below w (.cells #[.int .i64 W, .int .i64 H, vP] 28)) (box_below _ (.cells #[.int .i64 0, .int .i64 0, .slice none 0 0] 28))
  have s1 := (stands_new w #[.int .i64 W, .int .i64 H, vP] 28).below (box_below _ (.cells #[.int .i64 0, .int .i64 0, .slice none 0 0] 28))
  have s2 := stands_new (w.alloc (.cells #[.int .i64 W, .int .i64 H, vP] 28)) #[.int .i64 0, .int .i64 0, .slice none 0 0] 28
  rw [size_al] at s2
  have r1 := r.below bw
  have cF := fun W9 (g : Below w.heap.size w W9) => w_rformed22 W H vP P W9 (r.below g) hz
  cases hf : fmI (W, H, P)
  · simp only [hf] at cF
    have hT : tnI (W, H, P) q 1 = (noP, 1) := by unfold tnI; rw [hf]; rfl
    rw [hT]
    obtain ⟨pa, pq, rfl⟩ := rd_slice r
    clear r hT hf
    go_enter Try.func17, Try.ntmps17
    go_upto_region 1 with fail
    generalize (w.alloc (.cells #[.int .i64 W, .int .i64 H, .slice pa P.length pq] 28)).alloc (.cells #[.int .i64 0, .int .i64 0, .slice none 0 0] 28) = W0 at bw s1 s2 r1 ⊢
    have cf := cF W0 bw
    have z0 := s1.cell 0 _ rfl
    have z1 := s1.cell 1 _ rfl
    have z2 := s1.cell 2 _ rfl
    clear cF
    go_upto_region 2 with (first | (go_at_call 21; refine cf.mono ?_; rintro e w1 ⟨rfl, b1⟩) | fail)
    have SR := s2.below b1
    have y0 := SR.cell 0 _ rfl
    have y1 := SR.cell 1 _ rfl
    have y2 := SR.cell 2 _ rfl
    have yf := SR.free
    go_wp2_with fail
    obtain ⟨k1, k2⟩ := set3q SR (.int .i64 0) (.int .i64 0) (.slice none 0 0)
    have J7 := below_set3 (below_trans bw b1) (w.heap.size + 1) (.int .i64 0) (.int .i64 0) (.slice none 0 0) (by omega)
    (try simp only [Exit.inBlock, Exit.then])
    refine bodyPost_ret (res_row2 rfl _ _ (w.heap.size + 1) 28 _ (0, 0) _ rfl k1 Try.underlying28 rfl infoPc) rfl ?_
    exact ⟨_, rfl, ⟨_, rfl, own8_nil _ _⟩, J7⟩
  · simp only [hf] at cF
    obtain ⟨f1, f2, f3⟩ := fm_toP hf
    have hT : tnI (W, H, P) q 1 = (ofP (pcT (qtN q) (toP (W, H, P))), 0) := by unfold tnI; rw [hf]; rfl
    rw [hT]
    obtain ⟨p, hp⟩ : ∃ p, toP (W, H, P) = p := ⟨_, rfl⟩
    rw [hp] at f1 f2 f3 ⊢
    obtain ⟨m, n, P'⟩ := p
    obtain ⟨rfl, rfl, rfl⟩ : (m : Int) = W ∧ (n : Int) = H ∧ P' = P := by
      simp only [ofP] at f3
      injection f3 with a b
      injection b with b c
      exact ⟨a, b, c⟩
    obtain ⟨pa, pq, rfl⟩ := rd_slice r
    have cq := fun W => w_rquarters22 q W q0 q1
    have hq4 := qtN_lt q
    obtain ⟨Q, hQ⟩ : ∃ Q, qtN q = Q := ⟨_, rfl⟩
    rw [hQ] at cq hq4 ⊢
    clear r hT hf f3 hp hQ
    go_enter Try.func17, Try.ntmps17
    go_upto_region 1 with fail
    generalize (w.alloc (.cells #[.int .i64 (m : Int), .int .i64 (n : Int), .slice pa P'.length pq] 28)).alloc (.cells #[.int .i64 0, .int .i64 0, .slice none 0 0] 28) = W0 at bw s1 s2 r1 ⊢
    have cf := cF W0 bw
    have y0 := s1.cell 0 _ rfl
    have y1 := s1.cell 1 _ rfl
    have y2 := s1.cell 2 _ rfl
    clear cF
    go_upto_region 3 with (first | (go_at_call 21; refine cf.mono ?_; rintro e W1 ⟨rfl, b1⟩) | fail)
    have SR := hid (s2.below b1)
    have r2 := r1.below b1
    have z0 := below_cell b1 y0
    have z1 := below_cell b1 y1
    have z2 := below_cell b1 y2
    have cP := fun W9 (g : Below W1.heap.size W1 W9) => w_rcopy _ P' W9 (r2.below g) (by omega)
    have bw1 := below_trans bw b1
    clear y0 y1 y2 s1 s2 cf b1 bw r1 r2
    go_cut [6] (fun S wx => ∃ (B : Nat) (vZ : Value), S = .pointer (some ⟨B, 0, none⟩) ∧ BoxP W1.heap.size wx B m n vZ P' ∧ Below W1.heap.size W1 wx)
    case first =>
      have HS : Hid (∀ W9, Below W1.heap.size W1 W9 → (W9.cell? ⟨w.heap.size, 0, none⟩ = some (.int .i64 m) ∧ W9.cell? ⟨w.heap.size, 1, none⟩ = some (.int .i64 n) ∧ W9.cell? ⟨w.heap.size, 2, none⟩ = some (.slice pa P'.length pq))) := fun W9 g => ⟨below_cell g z0, below_cell g z1, below_cell g z2⟩
      have CU := hid (fun W9 (g : Below W1.heap.size W1 W9) => cP W9 g)
      clear z0 z1 z2 cP
      go_region_held (fun W9 => W9.cell? ⟨w.heap.size, 0, none⟩ = some (.int .i64 m) ∧ W9.cell? ⟨w.heap.size, 1, none⟩ = some (.int .i64 n) ∧ W9.cell? ⟨w.heap.size, 2, none⟩ = some (.slice pa P'.length pq)) (first | with_reducible exact HS.out _ (bd0 _) | with_reducible exact HS.out _ (bd1 _ _) | with_reducible exact HS.out _ RU.out | with_reducible exact HS.out _ (RU.out.alloc RU.out.size _) | with_reducible exact HS.out _ (below_set3 RU.out _ _ _ _ (Nat.le_refl _))) (first
        | (go_at_call 15; refine (CU.out _ (by first | with_reducible exact bd0 _ | with_reducible exact bd1 _ _)).mono ?_; rintro e qU ⟨vU, rfl, oU, bU⟩; obtain ⟨uo, ucap, rfl⟩ := own_form oU; have RU : Hid (Below W1.heap.size W1 qU) := below_trans (by first | with_reducible exact bd0 _ | with_reducible exact bd1 _ _) bU; (try (have stU : Stands qU W1.heap.size #[.int .i64 0, .int .i64 0, .slice none 0 0] 28 := (stands_one0 W1 #[.int .i64 0, .int .i64 0, .slice none 0 0] 28).below bU)); (try (have y0 := stU.cell 0 _ rfl; have y1 := stU.cell 1 _ rfl; have y2 := stU.cell 2 _ rfl; have yf := stU.free)); have OU := hid oU; clear oU bU))
      all_goals go_wp2_with fail
      · go_meet
        case rel => exact ⟨qU.heap.size, _, rfl, ⟨stands_new qU _ _, own8_below (own8_base OU.out (by first | exact (bd0 W1).size | exact (bd1 W1 _).size)) (box_below qU _), RU.out.size, fun g hg => by have := (own8_ltb OU.out hg); omega⟩, below_trans RU.out (box_below qU _)⟩
      · obtain ⟨k1, k2⟩ := set3q stU (.int .i64 m) (.int .i64 n) (.slice uo P'.length ucap)
        have K1 := hid k1
        have K2 := hid (k2 _ (own8_kept (by decide)) (show Own8 _ qU (.slice uo P'.length ucap) P' from OU.out))
        have K4 := hid (below_set3 RU.out W1.heap.size (.int .i64 m) (.int .i64 n) (.slice uo P'.length ucap) (Nat.le_refl _))
        clear k1 k2
        go_meet
        case rel => exact ⟨W1.heap.size, _, rfl, ⟨K1.out, own8_base K2.out (bd1 W1 _).size, Nat.le_refl _, fun g hg => by have h1 := own8_basel OU.out hg; have h2 := size_al W1 (.cells #[.int .i64 0, .int .i64 0, .slice none 0 0] 28); have h3 : (W1.alloc (.cells #[.int .i64 0, .int .i64 0, .slice none 0 0] 28)).drew.heap.size = W1.heap.size + 1 := h2; omega⟩, K4.out⟩
    case rest =>
      obtain ⟨B, vZ, rfl, bp, bc⟩ := hcut
      clear z0 z1 z2 cP
      have F1 := hid f1
      have F2 := hid f2
      clear f1 f2
      go_wp2_with fail
      go_loopw [7] (fun I wx => ∃ (k W2 H2 : Nat) (P2 : List Int) (vY : Value), k ≤ Q ∧ I = .int .i64 k ∧ Hid (pcT k (m, n, P') = (W2, H2, P2)) ∧ Stands wx B #[.int .i64 W2, .int .i64 H2, vY] 28 ∧ Own8 W1.heap.size wx vY P2 ∧ Below W1.heap.size W1 wx) (fun I _ => (4 - intOf I).toNat)
      case atStart => exact ⟨0, m, n, P', vZ, by omega, rfl, hid rfl, bp.1, bp.2.1, bc⟩
      case round =>
        have hB := bp.2.2.1
        clear bp bc
        obtain ⟨k, W2, H2, P2, vY, hk, rfl, hK, st, oy, bc⟩ := hrel
        have t0 := st.cell 0 _ rfl
        have t1 := st.cell 1 _ rfl
        have t2 := st.cell 2 _ rfl
        by_cases hlt : (k : Int) < (Q : Int)
        · have cQ := w_rquarter22 (W2, H2, P2) (.agg #[.int .i64 (W2 : Int), .int .i64 (H2 : Int), vY]) wr (by rw [← hK.out]; exact pcT_f F1.out k) (by rw [← hK.out]; exact pcS_T F2.out k) ⟨vY, rfl, (Rd_own oy).1⟩
          have hK2 : Hid (pcT (k + 1) (m, n, P') = pcQ (W2, H2, P2)) := by show pcQ _ = _; rw [hK.out]
          obtain ⟨⟨W3, H3, P3⟩, hq3⟩ : ∃ t, pcQ (W2, H2, P2) = t := ⟨_, rfl⟩
          rw [hq3] at cQ hK2
          clear hq3
          obtain ⟨ya, yq, rfl⟩ := own_form oy
          go_upto_region 7 with (first | (go_at_call 30; refine (cq _).mono ?_; rintro e w9 ⟨rfl, hw⟩; obtain rfl := hw.symm) | fail)
          go_wp2_with (go_at_call 34; refine cQ.mono ?_; rintro e w3 ⟨v3, rfl, ⟨vX, rfl, ox⟩, b3⟩; obtain ⟨xa, xq, rfl⟩ := own_form ox; have st3 := st.below b3; have u0 := st3.cell 0 _ rfl; have u1 := st3.cell 1 _ rfl; have u2 := st3.cell 2 _ rfl; have uf := st3.free)
          obtain ⟨k1, k2⟩ := set3q st3 (.int .i64 (W3 : Int)) (.int .i64 (H3 : Int)) (.slice xa P3.length xq)
          have K1 := hid k1
          have K2 := hid (k2 _ (own8_kept (by decide)) (show Own8 _ w3 (.slice xa P3.length xq) P3 from ox))
          have K4 := hid (below_set3 (below_trans bc b3) B (.int .i64 (W3 : Int)) (.int .i64 (H3 : Int)) (.slice xa P3.length xq) hB)
          clear k1 k2
          go_roundw
          case rel => exact ⟨k + 1, W3, H3, P3, _, by omega, by go_num, hK2, K1.out, own8_base K2.out bc.size, K4.out⟩
          case measure => simp [intOf]; omega
        · obtain rfl : k = Q := by omega
          have SQ := SR.out.below bc
          have u0 := SQ.cell 0 _ rfl
          have u1 := SQ.cell 1 _ rfl
          have u2 := SQ.cell 2 _ rfl
          have uf := SQ.free
          have hR : Hid (ofP (pcT k (m, n, P')) = ((W2 : Int), (H2 : Int), P2)) := by show _ = _; rw [hK.out]; rfl
          obtain ⟨ya, yq, rfl⟩ := own_form oy
          clear hK
          go_wp2_with (go_at_call 30; refine (cq _).mono ?_; rintro e w9 ⟨rfl, hw⟩; obtain rfl := hw.symm)
          obtain ⟨k1, k2⟩ := set3q SQ (.int .i64 (W2 : Int)) (.int .i64 (H2 : Int)) (.slice ya P2.length yq)
          have J7 := below_set3 (below_trans bw1 bc) (w.heap.size + 1) (.int .i64 (W2 : Int)) (.int .i64 (H2 : Int)) (.slice ya P2.length yq) (by omega)
          (try simp only [Exit.inBlock, Exit.then])
          refine bodyPost_ret (res_row2 rfl _ _ (w.heap.size + 1) 28 _ (0, 0) _ rfl k1 Try.underlying28 rfl infoPc) rfl ?_
          rw [hR.out]
          exact ⟨_, rfl, ⟨_, rfl, own8_base (k2 _ (own8_kept (by decide)) (show Own8 _ wr (.slice ya P2.length yq) P2 from oy)) bw1.size⟩, J7⟩

end Go.Proofs.Ythihkfimledccaa
