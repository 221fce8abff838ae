/-
  Texts of one proof, laid one behind the other: Pb2 Rmm Rp1 Rmf Br1 Br2 Rp2 Lr1 Lr2.
-/
import Derived.Test.YtnaoefjcfmdenaaB1
import Derived.Test.YtnaoefjcfmdenaaProg
import Derived.Laws.BitsAllLaws
namespace Go.Proofs.Ytnaoefjcfmdenaa
open Go.ChangeShapes Go.WideShapes Go.ChangeAt Go.RowKit
set_option linter.unusedVariables false
set_option linter.unusedSimpArgs false

/-
  What is planned, sector by sector, and what comes of it. No Go text in sight.
-/
theorem dkK_cases (a n : Int) (k : Int) : (dkK a n k = [] ∧ (a + n ≤ 512 * k ∨ 512 * k + 512 ≤ a ∨ n ≤ 0)) ∨
    (dkK a n k = [(false, k), (true, k)] ∧ 512 * k < a + n ∧ a < 512 * k + 512 ∧ 0 < n) ∨ (dkK a n k = [(true, k)] ∧ a ≤ 512 * k ∧ 512 * k + 512 ≤ a + n ∧ 0 < n) := by
  unfold dkK
  split
  · exact Or.inl ⟨rfl, by omega⟩
  · split
    · exact Or.inr (Or.inl ⟨rfl, by omega, by omega, by omega⟩)
    · exact Or.inr (Or.inr ⟨rfl, by omega, by omega, by omega⟩)
theorem dkL_mono (a n : Int) : ∀ (m k : Nat), k ≤ m → (dkL a n k).length ≤ (dkL a n m).length
  | 0, k, h => by rw [show k = 0 by omega]; exact Nat.le_refl _
  | m + 1, k, h => by
    by_cases e : k = m + 1
    · rw [e]; exact Nat.le_refl _
    · have := dkL_mono a n m k (by omega)
      simp only [dkL, List.length_append]
      omega
theorem dkL_bd (a n : Int) : ∀ k : Nat, (dkL a n k).length ≤ 2 * k
  | 0 => by simp [dkL]
  | k + 1 => by
    have := dkL_bd a n k
    simp only [dkL, List.length_append]
    rcases dkK_cases a n k with ⟨e, _⟩ | ⟨e, _⟩ | ⟨e, _⟩ <;> (rw [e]; simp; omega)
theorem dkP_bd (a n : Int) : (dkP a n).1.length ≤ 128 := by
  unfold dkP
  split
  · simp
  · exact dkL_bd a n 64
/-- a longer plan begins with a shorter one -/
theorem dkL_pre (a n : Int) : ∀ (m k i : Nat), k ≤ m → i < (dkL a n k).length → (dkL a n m)[i]? = (dkL a n k)[i]?
  | 0, k, i, h, hi => by rw [show k = 0 by omega]
  | m + 1, k, i, h, hi => by
    by_cases e : k = m + 1
    · rw [e]
    · have h2 := dkL_mono a n m k (by omega)
      rw [dkL, List.getElem?_append_left (by omega)]
      exact dkL_pre a n m k i (by omega) hi
/-- where the plan goes on: the next sector of which bytes are put -/
theorem dk_next (d : List Int) (a : Nat) (b : List Int) (i : Nat) : ∀ (f k : Nat), k + f = 64 → (dkL a b.length k).length = i → i < (dkL a b.length 64).length →
    ∃ k', k ≤ k' ∧ k' < 64 ∧ (dkL a b.length k').length = i ∧ ¬ dkK a b.length k' = [] ∧ ovl d a b k' = ovl d a b k
  | 0, k, hf, hk, hi => by rw [show k = 64 by omega] at hk; omega
  | f + 1, k, hf, hk, hi => by
    by_cases he : dkK (a : Int) b.length k = []
    · have hk1 : (dkL (a : Int) b.length (k + 1)).length = i := by simp only [dkL, List.length_append, he, List.length_nil]; omega
      obtain ⟨k', h1, h2, h3, h4, h5⟩ := dk_next d a b i f (k + 1) (by omega) hk1 hi
      refine ⟨k', by omega, h2, h3, h4, h5.trans (ovl_none d a b k ?_)⟩
      rcases dkK_cases (a : Int) b.length k with ⟨_, h⟩ | ⟨e, _⟩ | ⟨e, _⟩
      · omega
      · rw [he] at e; cases e
      · rw [he] at e; cases e
    · exact ⟨k, Nat.le_refl _, by omega, hk, he, rfl⟩
/-- behind the plan's end -/
theorem dk_end (d : List Int) (a : Nat) (b : List Int) : ∀ (f k : Nat), k + f = 64 → (dkL a b.length k).length = (dkL a b.length 64).length → ovl d a b 64 = ovl d a b k
  | 0, k, hf, hk => by rw [show k = 64 by omega]
  | f + 1, k, hf, hk => by
    have h1 := dkL_mono a b.length 64 (k + 1) (by omega)
    have h2 := dkL_mono a b.length (k + 1) k (by omega)
    have he : dkK (a : Int) b.length k = [] := by
      have h3 : (dkL (a : Int) b.length (k + 1)).length = (dkL (a : Int) b.length k).length + (dkK (a : Int) b.length k).length := by rw [dkL, List.length_append]
      apply List.eq_nil_of_length_eq_zero
      omega
    rw [dk_end d a b f (k + 1) (by omega) (by omega)]
    apply ovl_none
    rcases dkK_cases (a : Int) b.length k with ⟨_, h⟩ | ⟨e, _⟩ | ⟨e, _⟩
    · omega
    · rw [he] at e; cases e
    · rw [he] at e; cases e
/-- the plan at a place where a sector begins -/
theorem dk_at (a n : Int) (k : Nat) (hk : k < 64) (j : Nat) (hj : j < (dkK a n k).length) : (dkL a n 64)[(dkL a n k).length + j]? = (dkK a n k)[j]? := by
  have h1 : (dkL a n (k + 1)).length = (dkL a n k).length + (dkK a n k).length := by simp [dkL]
  rw [dkL_pre a n 64 (k + 1) _ (by omega) (by omega), dkL, List.getElem?_append_right (by omega)]
  congr 1
  omega
/-- a sector with bytes among those that are put lies in the disk -/
theorem dk_in {d b : List Int} {a k : Nat} (hd : d.length % 512 = 0) (h : a + b.length ≤ d.length) (hk : ¬ dkK (a : Int) b.length k = []) : 512 * k + 512 ≤ d.length := by
  rcases dkK_cases (a : Int) b.length k with ⟨e, _⟩ | ⟨e, h1, _⟩ | ⟨e, h1, h2, _⟩
  · exact absurd e hk
  · omega
  · omega

/-
  In, Same, Copy, wrong, Fetch, Text of the document's answer for a memory of bytes.
-/
/-- a row of bytes of the call's own -/
def Own8 (base : Nat) (w : World) (v : Value) (xs : List Int) : Prop := w.ownsRow base 5 1 v xs.length (xs.map (Value.int .u8))

theorem uB : Try.prog.underlying 27 = some (.slice (Try.prog.elem 27)) := by kernel_rfl
theorem eB : Try.prog.elem 27 = 5 := by kernel_rfl
theorem zB (w : World) : (sizeOf (Try.prog.elem 27)).run Try.prog w = .ok 1 w := by rw [eB]; exact Try.sizeOf5 w
theorem infoU8 : (Try.prog.info? 5).map (fun i => (i.zero, i.size, i.bytes)) = some (some (.int .u8 0), 1, 1) := by kernel_rfl
theorem rd_strT {w : World} {v : Value} {xs : List Int} (h : Rd .u8 w v xs) : (convert 27 9 v).run Try.prog w = .ok (.string (strOfNums xs)) w :=
  rd_str h Try.underlying27 Try.underlying5 Try.underlying9

theorem w_rsame (va vb : Value) (xs ys : List Int) (w : World) (ha : Rd .u8 w va xs) (hb : Rd .u8 w vb ys) (bx : bytesL xs) (by' : bytesL ys) :
    Calls Try.prog 12 #[va, vb] w fun e w' => e = .returned (.bool (decide (xs = ys))) ∧ w' = w := by
  have c1 := rd_strT ha
  have c2 := rd_strT hb
  have he : Hid (((strOfNums xs).toList == (strOfNums ys).toList) = decide (xs = ys)) := by
    show _ = _
    rw [str_beq]
    simp only [nums_eq xs ys bx by']
  obtain ⟨A, hA⟩ : ∃ A, strOfNums xs = A := ⟨_, rfl⟩
  obtain ⟨B, hB⟩ : ∃ B, strOfNums ys = B := ⟨_, rfl⟩
  rw [hA] at c1 he
  rw [hB] at c2 he
  go_enter Try.func12, Try.ntmps12
  go_wp2_with fail
  go_ret
  exact ⟨ret_b he.out, rfl⟩

theorem w_rcopy (v : Value) (xs : List Int) (w : World) (h : Rd .u8 w v xs) (hb : xs.length ≤ 140737488355328) :
    Calls Try.prog 17 #[v] w fun e w' => ∃ v', e = .returned v' ∧ w'.ownsRow w.heap.size 5 1 v' xs.length (xs.map (Value.int .u8)) ∧ Below w.heap.size w w' := by
  obtain ⟨i0, hi, hz0, hz1, hz2⟩ := info_parts infoU8
  go_enter Try.func17, Try.ntmps17
  go_wp2_with (at_builtin; refine wpList_append_rd (k := .u8) rfl _ _ 27 rfl w.heap.size 5 i0 1 Try.underlying27 hi hz0 hz1 hz2 (.slice none 0 0) [] rfl (World.ownsRow_nil _ _ _ _) v xs rfl h (by unfold maxLen; simp; omega) (by simpa using hb) (Nat.le_refl _) ?_; intro v' w1 hown hgr)
  go_ret
  exact ⟨v', rfl, by simpa using hown, below_grown (Below.refl _ _) hgr (fun k hk => by cases hk)⟩

/-
  Named, EncodeInt, EncodeText of the document's answer for properties.
-/
theorem run_at {w : World} (s : ByteArray) (k : Nat) (h : k < s.size) (hm : s.size ≤ maxLen) : (Instr.index 9 (.string s) (.int .i64 (k : Int))).run Try.prog w = .ok (.int .u8 (s[k].toNat : Int)) w := by
  unfold maxLen at hm
  rw [run_index_string (h := Try.underlying9)]
  simp [h]

theorem run_bad (k : Nat) (hk : k < 6) (w : World) : (Instr.index 9 (.string ⟨#[47, 92, 58, 91, 93, 64]⟩) (.int .i64 (k : Int))).run Try.prog w = .ok (.int .u8 (([47, 92, 58, 91, 93, 64] : List Int).getD k 0)) w := by
  rw [run_at ⟨#[47, 92, 58, 91, 93, 64]⟩ k (show k < 6 from hk) (by decide)]
  have : k = 0 ∨ k = 1 ∨ k = 2 ∨ k = 3 ∨ k = 4 ∨ k = 5 := by omega
  rcases this with rfl | rfl | rfl | rfl | rfl | rfl <;> rfl

theorem enc_at (n : Int) (h0 : 0 ≤ n) (k : Nat) (hk : k ≤ 3) : (beB 4 n).take (3 - k + 1) = (beB 4 n).take (3 - k) ++ [n / 2 ^ (8 * k) % 256] := by
  have e : beB 4 n = [n / 256 / 256 / 256 % 256, n / 256 / 256 % 256, n / 256 % 256, n % 256] := by simp [beB]
  rw [e]
  have : k = 0 ∨ k = 1 ∨ k = 2 ∨ k = 3 := by omega
  rcases this with rfl | rfl | rfl | rfl
  all_goals simp
  all_goals omega

set_option maxHeartbeats 1000000 in
set_option maxRecDepth 100000 in
theorem w_rencint (n : Int) (w : World) (h0 : 0 ≤ n) (h1 : n < 4294967296) :
    Calls Try.prog 41 #[.int .u32 n] w fun e w' => ∃ v, e = .returned v ∧ Own8 w.heap.size w' v (beB 4 n) ∧ Below w.heap.size w w' := by
  obtain ⟨i0, hi, hz0, hz1, hz2⟩ := info_parts infoU8
  obtain ⟨F, hF⟩ : ∃ F, beB 4 n = F := ⟨_, rfl⟩
  have hFl : F.length = 4 := by rw [← hF]; exact beB_len 4 n
  have hst := enc_at n h0
  rw [hF] at hst ⊢
  have Hst := hid hst
  clear hst hF
  go_enter Try.func41, Try.ntmps41
  go_wp2_with fail
  go_loopw [3, 4] (fun U I wx => ∃ (k : Nat), (k : Int) ≤ 4 ∧ I = .int .i64 ((k : Int) - 1) ∧ Own8 w.heap.size wx U (F.take (4 - k)) ∧ Below w.heap.size w wx) (fun _ I _ => (intOf I + 1).toNat)
  case atStart => exact ⟨4, by omega, rfl, World.ownsRow_nil _ _ _ _, Below.refl _ _⟩
  case round =>
    obtain ⟨k, hk, rfl, ho, hb⟩ := hrel
    rcases Nat.eq_zero_or_pos k with hk0 | hk0
    · subst hk0
      go_wp2_with fail
      go_ret
      refine ⟨_, rfl, ?_, hb⟩
      rw [show 4 - 0 = 4 from rfl, List.take_of_length_le (by omega)] at ho
      exact ho
    · obtain ⟨j, rfl⟩ : ∃ j, k = j + 1 := ⟨k - 1, by omega⟩
      have hq0 : 0 ≤ n / 2 ^ (8 * j) := Int.ediv_nonneg h0 (Int.le_of_lt (Int.pow_pos (by decide)))
      have hq1 : n / 2 ^ (8 * j) ≤ n := Int.ediv_le_self _ h0
      obtain ⟨q, hq⟩ : ∃ q, n / 2 ^ (8 * j) = q := ⟨_, rfl⟩
      obtain ⟨x, hx⟩ : ∃ x, n / 2 ^ (8 * j) % 256 = x := ⟨_, rfl⟩
      have hx0 : 0 ≤ x ∧ x < 256 := by omega
      obtain ⟨x0, x1⟩ := hx0
      rw [hq] at hq0 hq1
      have hm : q.tmod 256 = x := by rw [Int.tmod_eq_emod_of_nonneg hq0, ← hx, hq]
      have hs2 : Hid (F.take (4 - j) = F.take (4 - (j + 1)) ++ [x]) := by
        show _ = _
        have := Hst.out j (by omega)
        rw [hx, show 3 - j + 1 = 4 - j by omega, show 3 - j = 4 - (j + 1) by omega] at this
        exact this
      have ho3 := World.ownsRow.alloc ho (.cells #[.int .u8 x] 5)
      have hb3 := hb.alloc hb.size (.cells #[.int .u8 x] 5)
      have hll : (F.take (4 - (j + 1))).length ≤ 4 := by rw [List.length_take]; omega
      obtain ⟨ys, hys⟩ : ∃ ys, F.take (4 - (j + 1)) = ys := ⟨_, rfl⟩
      have Hys := hid hys
      rw [hys] at ho3 hll
      clear hys ho hx
      go_wp2_with (at_builtin; refine wpList_append_rd (k := .u8) rfl _ _ 27 rfl w.heap.size 5 i0 1 Try.underlying27 hi hz0 hz1 hz2 _ ys rfl ho3 _ [x] rfl (rd_one _ x 5) (by unfold maxLen; simp; omega) (by simp; omega) hb3.size ?_; intro v4 w4 ho4 hg4)
      go_roundw
      case rel =>
        refine ⟨j, by omega, by go_num, ?_, below_grown hb3 hg4 (fun k hk => (ho3.lt k hk).1)⟩
        rw [hs2.out, Hys.out]
        exact ho4
      case measure => simp [intOf]

/-
  Fetch and Text of the document's answer for a memory of bytes.
-/
/-- a byte of the memory: its address' rule, its cell, its bounds -/
theorem mem_at {w : World} {v : Value} {xs : List Int} (h : Rd .u8 w v xs) (hb : bytesL xs) (i : Int) (h0 : 0 ≤ i) (h1 : i < xs.length) :
    ∃ (ad : Addr) (b : Int), (∀ w', (Instr.indexAt 27 v (.int .i64 i)).run Try.prog w' = .ok (.pointer (some ad)) w') ∧ w.cell? ad = some (.int .u8 b) ∧ 0 ≤ b ∧ b < 256 ∧ xs.getD i.toNat 0 = b := by
  obtain ⟨ad, h2, h3⟩ := rd_idx h uB zB i h0 h1
  have hm : xs.getD i.toNat 0 ∈ xs := by
    rw [List.getD_eq_getElem?_getD, List.getElem?_eq_getElem (by omega)]
    simp
  exact ⟨ad, _, h2, h3, (hb _ hm).1, (hb _ hm).2, rfl⟩
theorem take_one (xs : List Int) (p : Nat) (h : p < xs.length) : (xs.drop p).take 1 = [xs.getD p 0] := by
  rw [List.drop_eq_getElem_cons h, List.getD_eq_getElem?_getD, List.getElem?_eq_getElem h]; rfl
theorem take_more (xs : List Int) (p n : Nat) (h : p < xs.length) : (xs.drop p).take (n + 1) = xs.getD p 0 :: (xs.drop (p + 1)).take n := by
  rw [List.drop_eq_getElem_cons h, List.getD_eq_getElem?_getD, List.getElem?_eq_getElem h]; rfl

/-
  Formed, In, Read, Get, Write, Put of the document's answer for layer 20.
-/
theorem own8_nil (base : Nat) (w : World) : Own8 base w (.slice none 0 0) [] := World.ownsRow_nil _ _ _ _
theorem own8_below {w w' : World} {base : Nat} {v : Value} {xs : List Int} (h : Own8 base w v xs) (g : Below w.heap.size w w') : Own8 base w' v xs := by
  obtain ⟨hl, h⟩ := h
  refine ⟨hl, ?_⟩
  rcases h with h | ⟨b, cap, cur, rfl, hb, hg, hc, hm, hs, ht⟩
  · exact Or.inl h
  · refine Or.inr ⟨b, cap, cur, rfl, hb, ?_, hc, hm, hs, ht⟩
    rw [g.block b (Array.getElem?_eq_some_iff.1 hg).1]
    exact hg
theorem own8_base {base base' : Nat} {w : World} {v : Value} {xs : List Int} (h : Own8 base w v xs) (hb : base' ≤ base) : Own8 base' w v xs := by
  obtain ⟨hl, h⟩ := h
  refine ⟨hl, ?_⟩
  rcases h with h | ⟨b, cap, cur, rfl, hb2, hg, hc, hm, hs, ht⟩
  · exact Or.inl h
  · exact Or.inr ⟨b, cap, cur, rfl, Nat.le_trans hb hb2, hg, hc, hm, hs, ht⟩

set_option maxHeartbeats 1000000 in
theorem w_rformed20 (v : Value) (d : List Int) (w : World) (h : Rd .u8 w v d) (hz : d.length ≤ 140737488351232) :
    Calls Try.prog 34 #[v] w fun e w' => e = .returned (.bool (dkB d)) ∧ w' = w := by
  have hlen := rd_len h uB (P := Try.prog)
  have t1 : (d.length : Int).tmod 512 = (d.length : Int) % 512 := Int.tmod_eq_emod_of_nonneg (by omega)
  by_cases h1 : d.length % 512 = 0
  · have e : dkB d = decide ((d.length : Int) ≤ 32768) := by unfold dkB; rw [decide_eq_true h1, Bool.true_and]; congr 1; apply propext; omega
    rw [e]
    have hq : ((d.length : Int) % 512 == 0) = true := by rw [beq_iff_eq]; omega
    clear e h1
    go_enter Try.func34, Try.ntmps34
    go_wp2_with fail
    go_ret
    exact ⟨rfl, rfl⟩
  · have e : dkB d = false := by unfold dkB; rw [decide_eq_false h1, Bool.false_and]
    rw [e]
    have hq : ((d.length : Int) % 512 == 0) = false := by rw [beq_eq_false_iff_ne]; omega
    clear e h1
    go_enter Try.func34, Try.ntmps34
    go_wp2_with fail
    go_ret
    exact ⟨rfl, rfl⟩

set_option maxHeartbeats 1000000 in
theorem w_rin20 (v : Value) (d : List Int) (a n : Int) (w : World) (h : Rd .u8 w v d) (hz : d.length ≤ 140737488351232) :
    Calls Try.prog 49 #[v, .int .i64 a, .int .i64 n] w fun e w' => e = .returned (.bool (dkI d.length a n)) ∧ w' = w := by
  have hlen := rd_len h uB (P := Try.prog)
  have hL : (0 : Int) ≤ d.length := by omega
  have hL2 : (d.length : Int) ≤ 140737488351232 := by omega
  unfold dkI
  by_cases h1 : 0 ≤ a
  · by_cases h2 : a ≤ d.length
    · by_cases h3 : 0 ≤ n
      · have e : decide (0 ≤ a ∧ a ≤ (d.length : Int) ∧ 0 ≤ n ∧ n ≤ (d.length : Int) - a) = decide (n ≤ (d.length : Int) - a) := by congr 1; apply propext; omega
        rw [e]
        clear e
        go_enter Try.func49, Try.ntmps49
        go_wp2_with fail
        go_ret
        exact ⟨rfl, rfl⟩
      · rw [decide_eq_false (by omega)]
        go_enter Try.func49, Try.ntmps49
        go_wp2_with fail
        go_ret
        exact ⟨rfl, rfl⟩
    · rw [decide_eq_false (by omega)]
      go_enter Try.func49, Try.ntmps49
      go_wp2_with fail
      go_ret
      exact ⟨rfl, rfl⟩
  · rw [decide_eq_false (by omega)]
    go_enter Try.func49, Try.ntmps49
    go_wp2_with fail
    go_ret
    exact ⟨rfl, rfl⟩

set_option maxHeartbeats 1000000 in
theorem w_rget20 (v : Value) (d : List Int) (a n : Int) (w : World) (h : Rd .u8 w v d) (hz : d.length ≤ 140737488351232) :
    Calls Try.prog 38 #[v, .int .i64 a, .int .i64 n] w fun e w' => ∃ v', e = .returned (.tuple #[v', .int .i64 (dkGt d a n).2]) ∧ Own8 w.heap.size w' v' (dkGt d a n).1 ∧ Below w.heap.size w w' := by
  have cF := w_rformed20 v d w h hz
  have cI := w_rin20 v d a n w h hz
  unfold dkGt
  cases hB : dkB d
  · rw [hB] at cF
    simp only [Bool.false_eq_true, if_false]
    go_enter Try.func38, Try.ntmps38
    go_wp2_with (go_at_call 34; refine cF.mono ?_; rintro e q ⟨rfl, hw⟩; obtain rfl := hw.symm)
    go_ret2
    exact ⟨_, rfl, own8_nil _ _, Below.refl _ _⟩
  · rw [hB] at cF
    obtain ⟨l1, l2⟩ := dk_len hB
    simp only [if_true]
    cases hI : dkI d.length a n
    · rw [hI] at cI
      simp only [Bool.false_eq_true, if_false]
      clear hB l1 hI
      go_enter Try.func38, Try.ntmps38
      go_wp2_with (first
        | (go_at_call 34; refine cF.mono ?_; rintro e q ⟨rfl, hw⟩; obtain rfl := hw.symm)
        | (go_at_call 49; refine cI.mono ?_; rintro e q ⟨rfl, hw⟩; obtain rfl := hw.symm))
      go_ret2
      exact ⟨_, rfl, own8_nil _ _, Below.refl _ _⟩
    · rw [hI] at cI
      unfold dkI at hI
      rw [decide_eq_true_eq] at hI
      obtain ⟨i1, i2, i3, i4⟩ := hI
      simp only [if_true]
      obtain ⟨vb, rb, sb, -, -⟩ := rd_cutI h uB zB a (a + n) (by omega) (by omega) (by omega)
      rw [show (a + n - a).toNat = n.toNat by omega] at rb
      have cC := w_rcopy vb _ w rb (by simp; omega)
      obtain ⟨B, hBe⟩ : ∃ B, (d.drop a.toNat).take n.toNat = B := ⟨_, rfl⟩
      rw [hBe] at cC rb ⊢
      clear hBe hB l1
      go_enter Try.func38, Try.ntmps38
      go_wp2_with (first
        | (go_at_call 34; refine cF.mono ?_; rintro e q ⟨rfl, hw⟩; obtain rfl := hw.symm)
        | (go_at_call 49; refine cI.mono ?_; rintro e q ⟨rfl, hw⟩; obtain rfl := hw.symm)
        | (go_at_call 17; refine cC.mono ?_; rintro e q2 ⟨v2, rfl, o2, b2⟩))
      go_ret2
      exact ⟨_, rfl, o2, b2⟩

/-
  Write and Put of the document's answer for layer 20.
-/
set_option maxHeartbeats 2000000 in
theorem w_rput20 (v vb : Value) (d b : List Int) (a : Int) (w : World) (h : Rd .u8 w v d) (hb : Rd .u8 w vb b) (hz : d.length ≤ 140737488351232) :
    Calls Try.prog 40 #[v, .int .i64 a, vb] w fun e w' => ∃ v', e = .returned (.tuple #[v', .int .i64 (dkPt d a b).2]) ∧ Own8 w.heap.size w' v' (dkPt d a b).1 ∧ Below w.heap.size w w' := by
  obtain ⟨i0, hi, hz0, hz1, hz2⟩ := info_parts infoU8
  have cF := w_rformed20 v d w h hz
  have cI := w_rin20 v d a b.length w h hz
  have hlb := rd_len hb uB (P := Try.prog)
  unfold dkPt
  cases hB : dkB d
  · rw [hB] at cF
    simp only [Bool.false_eq_true, if_false]
    go_enter Try.func40, Try.ntmps40
    go_wp2_with (first | (go_at_call 34; refine cF.mono ?_; rintro e q ⟨rfl, hw⟩; obtain rfl := hw.symm))
    go_ret2
    exact ⟨_, rfl, own8_nil _ _, Below.refl _ _⟩
  · rw [hB] at cF
    obtain ⟨l1, l2⟩ := dk_len hB
    simp only [if_true]
    cases hI : dkI d.length a b.length
    · rw [hI] at cI
      simp only [Bool.false_eq_true, if_false]
      clear hB l1 hI
      go_enter Try.func40, Try.ntmps40
      go_wp2_with (first | (go_at_call 34; refine cF.mono ?_; rintro e q ⟨rfl, hw⟩; obtain rfl := hw.symm) | (go_at_call 49; refine cI.mono ?_; rintro e q ⟨rfl, hw⟩; obtain rfl := hw.symm))
      go_ret2
      exact ⟨_, rfl, own8_nil _ _, Below.refl _ _⟩
    · rw [hI] at cI
      unfold dkI at hI
      rw [decide_eq_true_eq] at hI
      obtain ⟨i1, i2, i3, i4⟩ := hI
      simp only [if_true]
      obtain ⟨va, ra, -, sa, -⟩ := rd_cutI h uB zB 0 a (by omega) (by omega) (by omega)
      have sa' := sa rfl
      rw [show (a - 0).toNat = a.toNat by omega, show (0 : Int).toNat = 0 from rfl, List.drop_zero] at ra
      obtain ⟨vc, rc, -, -, sc⟩ := rd_cutI h uB zB (a + b.length) d.length (by omega) (by omega) (by omega)
      have sc' := sc rfl
      rw [List.take_of_length_le (by rw [List.length_drop]; omega), show (a + (b.length : Int)).toNat = a.toNat + b.length by omega] at rc
      have cC := w_rcopy va _ w ra (by rw [List.length_take]; omega)
      have hPl : (d.take a.toNat).length ≤ 32768 := by rw [List.length_take]; omega
      have hCl : (d.drop (a.toNat + b.length)).length ≤ 32768 := by rw [List.length_drop]; omega
      have hbl : b.length ≤ 32768 := by omega
      obtain ⟨P, hP⟩ : ∃ P, d.take a.toNat = P := ⟨_, rfl⟩
      obtain ⟨C, hC⟩ : ∃ C, d.drop (a.toNat + b.length) = C := ⟨_, rfl⟩
      rw [hP] at cC ra hPl ⊢
      rw [hC] at rc hCl ⊢
      clear hP hC hB l1 sa sc
      go_enter Try.func40, Try.ntmps40
      go_wp2_with (first
        | (go_at_call 34; refine cF.mono ?_; rintro e q ⟨rfl, hw⟩; obtain rfl := hw.symm)
        | (go_at_call 49; refine cI.mono ?_; rintro e q ⟨rfl, hw⟩; obtain rfl := hw.symm)
        | (go_at_call 17; refine cC.mono ?_; rintro e q2 ⟨v2, rfl, o2, b2⟩)
        | (at_builtin; refine wpList_append_rd (k := .u8) rfl _ _ 27 rfl w.heap.size 5 i0 1 Try.underlying27 hi hz0 hz1 hz2 v3 (P ++ b) rfl o3 vc C rfl (rc.below b3) (by unfold maxLen; rw [List.length_append]; omega) (by rw [List.length_append]; omega) b3.size ?_; intro v4 w4 o4 g4; have b4 := below_grown b3 g4 (fun k hk => (o3.lt k hk).1))
        | (at_builtin; refine wpList_append_rd (k := .u8) rfl _ _ 27 rfl w.heap.size 5 i0 1 Try.underlying27 hi hz0 hz1 hz2 v2 P rfl o2 vb b rfl (hb.below b2) (by unfold maxLen; omega) (by omega) b2.size ?_; intro v3 w3 o3 g3; have b3 := below_grown b2 g3 (fun k hk => (o2.lt k hk).1)))
      go_ret2
      exact ⟨_, rfl, o4, b4⟩

/-
  EncodeText, DecodeInt, DecodeText, Join, Ints, Texts of the document's answer for properties.
-/
/-- append of one cell onto a row of the call's own -/
theorem wpList_append_one {P : Program} {w : World} {ops : Array Oper} {rest : List Oper} {o : Oper} {a : Act} {Q : Exit → Act → World → Prop} (hgd : o.guard = none) (s x : Operand) (t : TypeId)
    (ho : o.op = .call { callee := .builtin .append, args := #[s, x], argTypes := #[t, t] })
    (base : Nat) (e : TypeId) (i : TypeInfo) (z : Value) (bytes : Nat) (ht : P.underlying t = some (.slice e)) (hi : P.info? e = some i) (hz : i.zero = some z) (hsize : i.size = 1) (hby : i.bytes = bytes) (hz1 : z.cells = #[z])
    (v : Value) (cs : List Value) (hs : a.eval s = v) (hown : w.ownsRow base e 1 v cs.length cs)
    (b : Nat) (c : Value) (hx : a.eval x = .slice (some ⟨b, 0, none⟩) 1 1) (hc : w.cell? ⟨b, 0, none⟩ = some c) (hc1 : c.oneCell' = true)
    (h63 : cs.length + 1 ≤ maxLen) (hbytes : (cs.length + 1) * bytes ≤ 140737488355328) (hbase : base ≤ w.heap.size)
    (h : ∀ v' w', w'.ownsRow base e 1 v' (cs ++ [c]).length (cs ++ [c]) → w.grownBy w' v.ownBlock → wpList P ops Q rest (a.put o.dst v') w') : wpList P ops Q (o :: rest) a w := by
  refine wpList_plain hgd fun _ hK => ?_
  refine wp_append_own w s x t ho base e i z 1 bytes ht hi hz hsize hby (by rw [hz1]; rfl) (by decide) v cs.length _ hs hown ⟨b, 0, none⟩ 1 1 [c] hx (by simp) ?_ ?_ (by simpa using h63) (by simpa using hbytes) hbase ?_
  · intro j u hj
    have : j = 0 := by
      rcases Nat.eq_zero_or_pos j with h | h
      · exact h
      · rw [List.getElem?_eq_none (by simp; omega)] at hj; cases hj
    subst this
    simp at hj
    subst hj
    simpa [Addr.add] using hc
  · intro u hu
    simp at hu
    subst hu
    exact hc1
  · intro v' w' h2 h3 _
    exact hK _ _ (h v' w' (by simpa using h2) h3)

theorem enT_zero (l : List Int) (k : Nat) (h : k < l.length) (hz : l[k] = 0) : enTF l = ([], 15) := by
  unfold enTF
  rw [if_pos]
  rw [Bool.eq_false_iff]
  intro hall
  rw [List.all_eq_true] at hall
  have := hall l[k] (List.getElem_mem h)
  simp [hz] at this
theorem enT_long (l : List Int) (h : l.all (fun c => decide (¬ c = 0)) = true) (hl : 256 ≤ l.length) : enTF l = ([], 3) := by
  unfold enTF
  rw [h, if_neg (by decide), if_pos hl]
theorem enT_ok (l : List Int) (h : l.all (fun c => decide (¬ c = 0)) = true) (hl : ¬ 256 ≤ l.length) : enTF l = (l ++ [0], 0) := by
  unfold enTF
  rw [h, if_neg (by decide), if_neg hl]

set_option maxHeartbeats 1000000 in
set_option maxRecDepth 100000 in
theorem w_rdecint (v : Value) (xs : List Int) (wo w : World) (hwo : Rd .u8 wo v xs) (hbo : Below wo.heap.size wo w) (hB : bytesL xs) (hz : xs.length ≤ 140737488355328) :
    Calls Try.prog 29 #[v] w fun e w' => ∃ v1, e = .returned (.tuple #[.int .u32 (deIF xs).1, v1, .int .i64 (deIF xs).2.2]) ∧ Rd .u8 wo v1 (deIF xs).2.1 ∧ Below w.heap.size w w' := by
  have h := hwo.below hbo
  have hlen := rd_len h uB (P := Try.prog)
  by_cases h4 : (xs.length : Int) < 4
  · have e : deIF xs = (0, [], 2) := by unfold deIF; rw [if_pos (by omega)]
    rw [e]
    clear e
    go_enter Try.func29, Try.ntmps29
    go_wp2_with fail
    go_ret3
    exact ⟨_, rfl, Rd_nil, Below.refl _ _⟩
  · have e : deIF xs = (beV (xs.take 4), xs.drop 4, 0) := by unfold deIF; rw [if_neg (by omega)]
    rw [e]
    obtain ⟨ad0, b0, r0, c0, l0, u0, g0⟩ := mem_at h hB 0 (by omega) (by omega)
    obtain ⟨ad1, b1, r1, c1, l1, u1, g1⟩ := mem_at h hB 1 (by omega) (by omega)
    obtain ⟨ad2, b2, r2, c2, l2, u2, g2⟩ := mem_at h hB 2 (by omega) (by omega)
    obtain ⟨ad3, b3, r3, c3, l3, u3, g3⟩ := mem_at h hB 3 (by omega) (by omega)
    have ev : beV (xs.take 4) = ((b0 * 256 + b1) * 256 + b2) * 256 + b3 := by
      have e4 := take_more xs 0 3 (by omega)
      rw [take_more xs 1 2 (by omega), take_more xs 2 1 (by omega), take_one xs 3 (by omega)] at e4
      simp only [Int.toNat_zero, show (1 : Int).toNat = 1 from rfl, show (2 : Int).toNat = 2 from rfl, show (3 : Int).toNat = 3 from rfl] at g0 g1 g2 g3
      rw [g0, g1, g2, g3] at e4
      rw [show xs.take 4 = (xs.drop 0).take (3 + 1) by simp, e4]
      simp [beV]
    obtain ⟨R, hR⟩ : ∃ R, beV (xs.take 4) = R := ⟨_, rfl⟩
    have HR := hid (hR.symm.trans ev)
    obtain ⟨va, ra, _, _, c5⟩ := rd_cutI hwo uB zB 4 xs.length (by omega) (by omega) (by omega)
    rw [show (4 : Int).toNat = 4 from rfl, List.take_of_length_le (by simp; omega)] at ra
    have c5' := c5 rfl
    obtain ⟨D, hD⟩ : ∃ D, xs.drop 4 = D := ⟨_, rfl⟩
    rw [hD] at ra
    show Calls _ _ _ _ fun e w' => ∃ v1, e = .returned (.tuple #[.int .u32 (beV (xs.take 4)), v1, .int .i64 0]) ∧ Rd .u8 wo v1 (xs.drop 4) ∧ _
    rw [hR, hD]
    clear e hD ev hR c5 g0 g1 g2 g3
    go_enter Try.func29, Try.ntmps29
    go_wp2_with fail
    go_rounds 5
    go_quiet (fail)
    go_wp2_with fail
    go_ret3
    rw [HR.out]
    exact ⟨va, rfl, ra, below_drewN (Below.refl _ _) _⟩

theorem deT_hit (l : List Int) (i : Nat) (h : i < l.length) (hz : l[i] = 0) (inv : spl 0 [] l = spl 0 (l.take i) (l.drop i)) : deTF l = (l.take i, l.drop (i + 1), 0) := by
  have hl := spl_len 0 (l.drop (i + 1)) []
  unfold deTF
  rw [inv, List.drop_eq_getElem_cons h, spl, if_pos hz]
  cases hq : spl 0 [] (l.drop (i + 1)) with
  | nil => rw [hq] at hl; simp at hl
  | cons q r =>
    simp
    omega
theorem deT_miss (l : List Int) (inv : spl 0 [] l = spl 0 l []) : deTF l = ([], [], 2) := by
  unfold deTF
  rw [inv]
  rfl
theorem spl_step (l : List Int) (i : Nat) (h : i < l.length) (hz : ¬ l[i] = 0) (inv : spl 0 [] l = spl 0 (l.take i) (l.drop i)) : spl 0 [] l = spl 0 (l.take (i + 1)) (l.drop (i + 1)) := by
  rw [inv, List.drop_eq_getElem_cons h, spl, if_neg hz, List.take_succ_eq_append_getElem h]

/-
  bytes and Make of the document's answer for layer 21.
-/
theorem arrL : Try.prog.underlying 25 = some (.array 8 24) := by kernel_rfl
theorem arrL' : Try.prog.underlying 25 = some (.array (Try.prog.arrayLen 25) (Try.prog.elem 25)) := by kernel_rfl
theorem lenL : Try.prog.arrayLen 25 = 8 := by kernel_rfl
theorem elL : Try.prog.elem 25 = 24 := by kernel_rfl
theorem szL : (Try.prog.info? 25).map (·.size) = some 16 := by kernel_rfl
theorem pt_ix (b i : Nat) (k : IntKind) (I : Int) (hi : I = (i : Int)) (h : i < 8) (w : World) : (Instr.indexAt 25 (.pointer (some ⟨b, 0, none⟩)) (.int k I)).run Try.prog w = .ok (.pointer (some ⟨b, 2 * i, none⟩)) w := by
  subst hi
  rw [run_indexAt_array (h := arrL'), lenL, if_pos (by omega), elL, Try.sizeOf24]
  simp only [Result.andThen, Int.toNat_natCast, Addr.add_lit, Nat.zero_add, Nat.mul_comm]

theorem flat_take_be (ps : List Int) (i : Nat) (h : 2 * i + 1 < ps.length) : (ps.take (2 * (i + 1))).flatMap (beB 4) = (ps.take (2 * i)).flatMap (beB 4) ++ beB 4 (ps.getD (2 * i) 0) ++ beB 4 (ps.getD (2 * i + 1) 0) := by
  rw [show 2 * (i + 1) = 2 * i + 1 + 1 by omega, List.take_succ_eq_append_getElem (by omega), List.take_succ_eq_append_getElem (by omega)]
  simp only [List.flatMap_append, List.flatMap_cons, List.flatMap_nil, List.append_nil]
  rw [List.getD_eq_getElem?_getD, List.getD_eq_getElem?_getD, List.getElem?_eq_getElem (by omega), List.getElem?_eq_getElem (by omega)]
  rfl

def k508 : Nat := 508

set_option maxHeartbeats 4000000 in
set_option maxRecDepth 100000 in
theorem w_rbytes21 (ps : List Int) (w : World) (hl : ps.length = 16) (hu : u32L ps) :
    Calls Try.prog 26 #[.agg (ArA .u32 ps)] w fun e w' => ∃ v, e = .returned v ∧ Own8 w.heap.size w' v (lbF ps) ∧ Below w.heap.size w w' := by
  obtain ⟨i0, hi, hz0, hz1, hz2⟩ := info_parts infoU8
  have ba := arat_box .u32 w ps 25
  have bx := box_below w (.cells (ArA .u32 ps) 25)
  have HI := hid (fun (i : Nat) (hi : i < 8) (w' : World) => pt_ix w.heap.size i .i64 (i : Int) rfl hi w')
  go_enter Try.func26, Try.ntmps26
  go_upto_region 2 with fail
  generalize w.alloc (.cells (ArA .u32 ps) 25) = W0 at ba bx ⊢
  have F0 := hid (fun (i : Nat) (hi : 2 * i < 16) (W : World) (h : Below W0.heap.size W0 W) => (show W.cell? ⟨w.heap.size, 2 * i, none⟩ = some (.int .u32 (ps.getD (2 * i) 0)) by have := (ba.below h) (2 * i) (by omega); rwa [Nat.zero_add] at this))
  have F1 := hid (fun (i : Nat) (hi : 2 * i + 1 < 16) (W : World) (h : Below W0.heap.size W0 W) => (show W.cell? ⟨w.heap.size, 2 * i + 1, none⟩ = some (.int .u32 (ps.getD (2 * i + 1) 0)) by have := (ba.below h) (2 * i + 1) (by omega); rwa [Nat.zero_add] at this))
  clear ba
  go_wp2_with fail
  go_loopw [3, 4] (fun V I wx => ∃ i : Nat, i ≤ 8 ∧ I = .int .i64 i ∧ Own8 W0.heap.size wx V ((ps.take (2 * i)).flatMap (beB 4)) ∧ Below W0.heap.size W0 wx) (fun _ I _ => (8 - intOf I).toNat)
  case atStart => exact ⟨0, by omega, rfl, own8_nil _ _, Below.refl _ _⟩
  case round =>
    obtain ⟨i, hi8, rfl, ho, hg⟩ := hrel
    by_cases hlt : (i : Int) < 8
    · have hnx := hid (flat_take_be ps i (by omega))
      have hAl : ((ps.take (2 * i)).flatMap (beB 4)).length = 8 * i := by rw [flat_be_len, List.length_take]; omega
      have hAl : ((ps.take (2 * i)).flatMap (beB 4)).length ≤ 64 := by omega
      have f0 := F0.out i (by omega) wr hg
      have ix := HI.out i (by omega)
      have uP := u32_get hu (2 * i)
      have uQ := u32_get hu (2 * i + 1)
      obtain ⟨A, hA⟩ : ∃ A, (ps.take (2 * i)).flatMap (beB 4) = A := ⟨_, rfl⟩
      obtain ⟨P, hP⟩ : ∃ P, ps.getD (2 * i) 0 = P := ⟨_, rfl⟩
      obtain ⟨Q, hQ⟩ : ∃ Q, ps.getD (2 * i + 1) 0 = Q := ⟨_, rfl⟩
      have F1i := hid (F1.out i (by omega))
      rw [hA, hP, hQ] at hnx
      rw [hA] at ho hAl
      rw [hP] at f0 uP
      rw [hQ] at uQ F1i
      have c1 := fun W => w_rencint P W uP.1 uP.2
      have c2 := fun W => w_rencint Q W uQ.1 uQ.2
      have l1 := be4_len P
      have l2 := be4_len Q
      obtain ⟨E, hE⟩ : ∃ E, beB 4 P = E := ⟨_, rfl⟩
      obtain ⟨G, hG⟩ : ∃ G, beB 4 Q = G := ⟨_, rfl⟩
      rw [hE] at hnx l1
      rw [hG] at hnx l2
      simp only [hE] at c1
      simp only [hG] at c2
      clear hA hP hQ hE hG
      go_upto_region 6 with (first
        | (go_at_call 41; refine (c1 _).mono ?_; rintro e w1 ⟨v1, rfl, o1, b1⟩; have oA : Own8 W0.heap.size w1 _ A := own_below ho b1; have gA := below_trans hg b1)
        | (at_builtin; refine wpList_append_rd (k := .u8) rfl _ _ 27 rfl W0.heap.size 5 i0 1 Try.underlying27 hi hz0 hz1 hz2 _ A rfl oA v1 E rfl (Rd_own o1).1 (by unfold maxLen; omega) (by omega) gA.size ?_; intro v2 w2 o2 g2; have h2 := below_grown gA g2 (fun k hk => (oA.lt k hk).1); have f1 := F1i.out w2 h2))
      go_wp2_with (first
        | (go_at_call 41; refine (c2 _).mono ?_; rintro e w3 ⟨v3, rfl, o3, b3⟩; have oB : Own8 W0.heap.size w3 _ (A ++ E) := own_below o2 b3; have gB := below_trans h2 b3)
        | (at_builtin; refine wpList_append_rd (k := .u8) rfl _ _ 27 rfl W0.heap.size 5 i0 1 Try.underlying27 hi hz0 hz1 hz2 _ (A ++ E) rfl oB v3 G rfl (Rd_own o3).1 (by unfold maxLen; simp only [List.length_append]; omega) (by simp only [List.length_append]; omega) gB.size ?_; intro v4 w4 o4 g4; have h4 := below_grown gB g4 (fun k hk => (oB.lt k hk).1)))
      go_roundw
      case rel => exact ⟨i + 1, by omega, by go_num, by rw [hnx.out]; exact o4, h4⟩
      case measure => simp [intOf]; omega
    · have hi8 : i = 8 := by omega
      subst hi8
      rw [List.take_of_length_le (by omega)] at ho
      have hFl := flat_be_len ps
      obtain ⟨F, hF⟩ : ∃ F, ps.flatMap (beB 4) = F := ⟨_, rfl⟩
      have hlb : Hid (lbF ps = (F ++ List.replicate 444 0 ++ [218, 190]) ++ [(xevF (F ++ List.replicate 444 0 ++ [218, 190]) (0, 0)).1, (xevF (F ++ List.replicate 444 0 ++ [218, 190]) (0, 0)).2]) := by
        show _ = _
        unfold lbF lbH
        rw [hF]
      have hlb2 : Hid (bytesL (F ++ List.replicate 444 0 ++ [218, 190])) := by
        have := lbH_bytes hu
        unfold lbH at this
        rw [hF] at this
        exact this
      rw [hF] at ho hFl
      have hFl : F.length = 64 := by omega
      clear F0 F1 HI hF
      go_wp2_with fail
      go_loopw [3] (fun V wx => ∃ n : Nat, n ≤ 444 ∧ Own8 W0.heap.size wx V (F ++ List.replicate n 0) ∧ Below W0.heap.size W0 wx) (fun V _ => (k508 - lenOf V))
      case atStart => exact ⟨0, by omega, by simpa using ho, hg⟩
      case round =>
        obtain ⟨n, hn, ho, hg⟩ := hrel
        have hL : (F ++ List.replicate n (0 : Int)).length = 64 + n := by rw [List.length_append, List.length_replicate]; omega
        obtain ⟨A, hA⟩ : ∃ A, F ++ List.replicate n (0 : Int) = A := ⟨_, rfl⟩
        rw [hA] at ho hL
        obtain ⟨aa, qa, rfl⟩ := own_form ho
        have hlen := rd_len (Rd_own ho).1 uB (P := Try.prog)
        by_cases hlt : n < 444
        · have hlt2 : (A.length : Int) < 508 := by omega
          have hnx : Hid (F ++ List.replicate (n + 1) 0 = A ++ [0]) := by show _ = _; rw [← hA, List.replicate_succ', List.append_assoc]
          have bk := box_below wr (.cells #[.int .u8 0] 5)
          have oA : Own8 W0.heap.size (wr.alloc (.cells #[.int .u8 0] 5)) _ A := own_below ho bk
          have gA := below_trans hg bk
          have r1 := rd_one (k := .u8) wr 0 5
          clear hA hlt
          go_wp2_with (at_builtin; refine wpList_append_rd (k := .u8) rfl _ _ 27 rfl W0.heap.size 5 i0 1 Try.underlying27 hi hz0 hz1 hz2 _ A rfl oA _ [0] rfl r1 (by unfold maxLen; simp only [List.length_cons, List.length_nil]; omega) (by simp only [List.length_cons, List.length_nil]; omega) gA.size ?_; intro v2 w2 o2 g2; have h2 := below_grown gA g2 (fun k hk => (oA.lt k hk).1))
          obtain ⟨a2, q2, rfl⟩ := own_form o2
          go_roundw
          case rel => exact ⟨n + 1, by omega, by rw [hnx.out]; exact o2, h2⟩
          case measure => simp only [k508, lenOf, List.length_append, List.length_cons, List.length_nil]; omega
        · have hn4 : n = 444 := by omega
          subst hn4
          have hlt2 : ¬ (A.length : Int) < 508 := by omega
          have hA2 : F ++ List.replicate 444 (0 : Int) ++ [218, 190] = A ++ [218, 190] := by rw [hA]
          rw [hA2] at hlb hlb2
          clear hA hA2 hlt
          have hB : Hid (lbF ps = A ++ [218, 190] ++ [(xevF (A ++ [218, 190]) (0, 0)).1, (xevF (A ++ [218, 190]) (0, 0)).2]) := hlb
          clear hlb
          have bk := box_below wr (.cells #[.int .u8 218, .int .u8 190] 5)
          have oA : Own8 W0.heap.size (wr.alloc (.cells #[.int .u8 218, .int .u8 190] 5)) _ A := own_below ho bk
          have gA := below_trans hg bk
          have r1 := rd_lit (k := .u8) wr [218, 190] 5 (by simp) (by simp [maxLen])
          simp only [List.map_cons, List.map_nil, List.length_cons, List.length_nil, Nat.zero_add, Nat.reduceAdd] at r1
          go_upto_region 11 with (at_builtin; refine wpList_append_rd (k := .u8) rfl _ _ 27 rfl W0.heap.size 5 i0 1 Try.underlying27 hi hz0 hz1 hz2 _ A rfl oA _ [218, 190] rfl r1 (by unfold maxLen; simp only [List.length_cons, List.length_nil]; omega) (by simp only [List.length_cons, List.length_nil]; omega) gA.size ?_; intro v2 w2 o2 g2; have h2 := below_grown gA g2 (fun k hk => (oA.lt k hk).1))
          obtain ⟨a2, q2, rfl⟩ := own_form o2
          obtain ⟨H, hH⟩ : ∃ H, A ++ [218, 190] = H := ⟨_, rfl⟩
          have hHl : H.length = 510 := by rw [← hH, List.length_append]; simp only [List.length_cons, List.length_nil]; omega
          rw [hH] at hB hlb2 o2 ⊢
          have hHl2 := rd_len (Rd_own o2).1 uB (P := Try.prog)
          have hHi : (H.length : Int) = 510 := by omega
          clear hHl hH r1 oA gA bk ho hg hL hlen hlt2
          go_wp2_with fail
          go_loopw [5, 6, 7] (fun X Y I wx => ∃ n : Nat, n ≤ 255 ∧ I = .int .i64 (2 * (n : Int)) ∧ X = .int .u8 (xevF (H.take (2 * n)) (0, 0)).1 ∧ Y = .int .u8 (xevF (H.take (2 * n)) (0, 0)).2 ∧ Below w2.heap.size w2 wx) (fun _ _ I _ => (510 - intOf I).toNat)
          case atStart => exact ⟨0, by omega, rfl, rfl, rfl, Below.refl _ _⟩
          case round =>
            obtain ⟨n, hn, rfl, rfl, rfl, hg⟩ := hrel
            have hxb := xev_byte n (H.take (2 * n)) (0, 0) (by rw [List.length_take]; omega) (bytes_take hlb2.out _) ⟨by decide, by decide⟩ ⟨by decide, by decide⟩
            have o3 := own_below o2 hg
            by_cases hlt : n < 255
            · have hlt2 : 2 * (n : Int) < (H.length : Int) := by omega
              obtain ⟨ad, b, q1, q2', q3, q4, q5⟩ := mem_at (Rd_own o3).1 hlb2.out (2 * (n : Int)) (by omega) (by omega)
              obtain ⟨ae, c, p1, p2, p3, p4, p5⟩ := mem_at (Rd_own o3).1 hlb2.out (2 * (n : Int) + 1) (by omega) (by omega)
              have hnx : Hid (xevF (H.take (2 * (n + 1))) (0, 0) = (xorI (xevF (H.take (2 * n)) (0, 0)).1 b, xorI (xevF (H.take (2 * n)) (0, 0)).2 c)) := by
                show _ = _
                rw [show 2 * (n + 1) = 2 * n + 1 + 1 by omega, List.take_succ_eq_append_getElem (by omega), List.take_succ_eq_append_getElem (by omega), List.append_assoc, List.singleton_append]
                rw [xev_app n _ _ _ _ (by rw [List.length_take]; omega)]
                rw [show (2 * (n : Int)).toNat = 2 * n by omega, List.getD_eq_getElem?_getD, List.getElem?_eq_getElem (by omega)] at q5
                rw [show (2 * (n : Int) + 1).toNat = 2 * n + 1 by omega, List.getD_eq_getElem?_getD, List.getElem?_eq_getElem (by omega)] at p5
                simp only [Option.getD_some] at q5 p5
                rw [q5, p5]
              obtain ⟨x, hx⟩ : ∃ x, (xevF (H.take (2 * n)) (0, 0)).1 = x := ⟨_, rfl⟩
              obtain ⟨y, hy⟩ : ∃ y, (xevF (H.take (2 * n)) (0, 0)).2 = y := ⟨_, rfl⟩
              rw [hx, hy] at hxb hnx
              rw [hx, hy]
              obtain ⟨⟨x0, x1⟩, y0, y1⟩ := hxb
              have e1 : bits .xor .u8 x b = xorI x b := u8_xor x b x0 x1 q3 q4
              have e2 : bits .xor .u8 y c = xorI y c := u8_xor y c y0 y1 p3 p4
              clear hx hy q5 p5
              go_wp2_with fail
              go_quiet (fail)
              go_wp2_with fail
              go_roundw
              case rel => exact ⟨n + 1, by omega, by go_num, by rw [hnx.out], by rw [hnx.out], below_drewN hg _⟩
              case measure => simp [intOf]; omega
            · have hn5 : n = 255 := by omega
              subst hn5
              rw [List.take_of_length_le (by omega)] at hxb ⊢
              have hlt2 : ¬ (2 * ((255 : Nat) : Int)) < (H.length : Int) := by omega
              obtain ⟨x, hx⟩ : ∃ x, (xevF H (0, 0)).1 = x := ⟨_, rfl⟩
              obtain ⟨y, hy⟩ : ∃ y, (xevF H (0, 0)).2 = y := ⟨_, rfl⟩
              rw [hx, hy] at hB ⊢
              clear hx hy hxb hlt
              have bk := box_below wr (.cells #[.int .u8 x, .int .u8 y] 5)
              have oA : Own8 W0.heap.size (wr.alloc (.cells #[.int .u8 x, .int .u8 y] 5)) _ H := own_below o3 bk
              have gA := below_trans (below_trans h2 hg) bk
              have r1 := rd_lit (k := .u8) wr [x, y] 5 (by simp) (by simp [maxLen])
              simp only [List.map_cons, List.map_nil, List.length_cons, List.length_nil, Nat.zero_add, Nat.reduceAdd] at r1
              go_wp2_with (at_builtin; refine wpList_append_rd (k := .u8) rfl _ _ 27 rfl W0.heap.size 5 i0 1 Try.underlying27 hi hz0 hz1 hz2 _ H rfl oA _ [x, y] rfl r1 (by unfold maxLen; simp only [List.length_cons, List.length_nil]; omega) (by simp only [List.length_cons, List.length_nil]; omega) gA.size ?_; intro v5 w5 o5 g5; have h5 := below_grown gA g5 (fun k hk => (oA.lt k hk).1))
              go_ret
              refine ⟨_, rfl, ?_, below_trans bx h5⟩
              rw [hB.out]
              exact own8_base o5 bx.size

/-
  Make and Select of the document's answer for layer 21.
-/
theorem lb_step (ps : List Int) (i : Nat) (h : 2 * i + 1 < ps.length) : lb64 (ps.take (2 * (i + 1))) = (lb64 (ps.take (2 * i)) && (decide (ps.getD (2 * i) 0 ≤ 64) && decide (ps.getD (2 * i + 1) 0 ≤ 64))) := by
  rw [show 2 * (i + 1) = 2 * i + 1 + 1 by omega, List.take_succ_eq_append_getElem (by omega), List.take_succ_eq_append_getElem (by omega)]
  unfold lb64
  rw [List.getD_eq_getElem?_getD, List.getD_eq_getElem?_getD, List.getElem?_eq_getElem (by omega), List.getElem?_eq_getElem (by omega)]
  simp only [List.all_append, List.all_cons, List.all_nil, Bool.and_true, Option.getD_some, Bool.and_assoc]
theorem lb_false (ps : List Int) (n : Nat) (h : lb64 (ps.take n) = false) : lb64 ps = false := by
  cases hq : lb64 ps with
  | false => rfl
  | true =>
    unfold lb64 at h hq
    rw [List.all_eq_true] at hq
    have : (ps.take n).all (fun x => decide (x ≤ 64)) = true := List.all_eq_true.2 fun x hx => hq x (List.mem_of_mem_take hx)
    rw [this] at h
    cases h

set_option maxHeartbeats 4000000 in
set_option maxRecDepth 100000 in
theorem w_rmake21 (ps : List Int) (w : World) (hl : ps.length = 16) (hu : u32L ps) :
    Calls Try.prog 11 #[.agg (ArA .u32 ps)] w fun e w' => ∃ v, e = .returned (.tuple #[v, .int .i64 (mkF ps).2]) ∧ Own8 w.heap.size w' v (mkF ps).1 ∧ Below w.heap.size w w' := by
  have ba := arat_box .u32 w ps 25
  have bx := box_below w (.cells (ArA .u32 ps) 25)
  have HI := hid (fun (i : Nat) (hi : i < 8) (w' : World) => pt_ix w.heap.size i .i64 (i : Int) rfl hi w')
  have cb := fun W => w_rbytes21 ps W hl hu
  go_enter Try.func11, Try.ntmps11
  go_upto_region 1 with fail
  generalize w.alloc (.cells (ArA .u32 ps) 25) = W0 at ba bx ⊢
  have F0 := hid (fun (i : Nat) (hi : 2 * i < 16) => (show W0.cell? ⟨w.heap.size, 2 * i, none⟩ = some (.int .u32 (ps.getD (2 * i) 0)) by have := ba (2 * i) (by omega); rwa [Nat.zero_add] at this))
  have F1 := hid (fun (i : Nat) (hi : 2 * i + 1 < 16) => (show W0.cell? ⟨w.heap.size, 2 * i + 1, none⟩ = some (.int .u32 (ps.getD (2 * i + 1) 0)) by have := ba (2 * i + 1) (by omega); rwa [Nat.zero_add] at this))
  have BA := hid ba
  have CB := hid cb
  clear ba cb
  go_wp2_with fail
  go_loopw [4] (fun I wx => ∃ i : Nat, i ≤ 8 ∧ I = .int .i64 i ∧ Hid (lb64 (ps.take (2 * i)) = true) ∧ wx = W0) (fun I _ => (8 - intOf I).toNat)
  case atStart => exact ⟨0, by omega, rfl, rfl, rfl⟩
  case round =>
    obtain ⟨i, hi8, rfl, hp, rfl⟩ := hrel
    by_cases hlt : (i : Int) < 8
    · have hnx := lb_step ps i (by omega)
      rw [hp.out, Bool.true_and] at hnx
      have f0 := F0.out i (by omega)
      have f1 := F1.out i (by omega)
      have ix := HI.out i (by omega)
      obtain ⟨P, hP⟩ : ∃ P, ps.getD (2 * i) 0 = P := ⟨_, rfl⟩
      obtain ⟨Q, hQ⟩ : ∃ Q, ps.getD (2 * i + 1) 0 = Q := ⟨_, rfl⟩
      rw [hP] at f0 hnx
      rw [hQ] at f1 hnx
      clear hP hQ
      by_cases h0 : P ≤ 64
      · by_cases h1 : Q ≤ 64
        · rw [decide_eq_true h0, decide_eq_true h1] at hnx
          have HN := hid hnx
          have g0 : ¬ 64 < P := by omega
          have g1 : ¬ 64 < Q := by omega
          clear hnx h0 h1
          go_wp2_with fail
          go_roundw
          case rel => exact ⟨i + 1, by omega, by go_num, HN.out, trivial⟩
          case measure => simp [intOf]; omega
        · rw [decide_eq_false h1, Bool.and_false] at hnx
          have hm : Hid (mkF ps = ([], 1)) := by show _ = _; unfold mkF; rw [lb_false ps _ hnx]; rfl
          have g0 : ¬ 64 < P := by omega
          have g1 : 64 < Q := by omega
          clear hnx h0 h1
          go_wp2_with fail
          go_ret2
          rw [hm.out]
          exact ⟨_, rfl, own8_nil _ _, bx⟩
      · rw [decide_eq_false h0, Bool.false_and] at hnx
        have hm : Hid (mkF ps = ([], 1)) := by show _ = _; unfold mkF; rw [lb_false ps _ hnx]; rfl
        have g0 : 64 < P := by omega
        clear hnx h0
        go_wp2_with fail
        go_ret2
        rw [hm.out]
        exact ⟨_, rfl, own8_nil _ _, bx⟩
    · have hi8 : i = 8 := by omega
      subst hi8
      rw [List.take_of_length_le (by omega)] at hp
      have hm : Hid (mkF ps = (lbF ps, 0)) := by show _ = _; unfold mkF; rw [if_pos hp.out]
      obtain ⟨F, hF⟩ : ∃ F, lbF ps = F := ⟨_, rfl⟩
      rw [hF] at hm
      have cb := CB.out
      rw [hF] at cb
      have CC := hid cb
      clear hF cb
      go_upto_region 6 with fail
      refine wp_region_lit ?_
      refine wpList_load_ar rfl 25 (.tmp 1) rfl w.heap.size 0 rfl ps BA.out _ arrL rfl (by rw [hl]; exact szL) ?_
      go_wp2_with (go_at_call 26; refine (CC.out _).mono ?_; rintro e w1 ⟨v1, rfl, o1, b1⟩)
      go_ret2
      rw [hm.out]
      exact ⟨_, rfl, own8_base o1 bx.size, below_trans bx b1⟩

theorem lb_from (s : ByteArray) (k : Nat) : LB (s.extract k s.size) = (LB s).drop k := by
  unfold LB
  rw [ByteArray.data_extract, Array.toList_extract, List.extract_eq_take_drop, ← List.map_drop, List.take_of_length_le (by rw [List.length_drop]; exact Nat.le_refl _)]
/-- a byte of a text -/
theorem run_atT (s : ByteArray) (k : Nat) (h : k < s.size) (w : World) : (Instr.index 9 (.string s) (.int .i64 (k : Int))).run Try.prog w = .ok (.int .u8 ((LB s).getD k 0)) w := by
  rw [run_index_string (h := Try.underlying9)]
  have : (LB s).getD k 0 = (s[k].toNat : Int) := by
    unfold LB
    rw [List.getD_eq_getElem?_getD, List.getElem?_map]
    have h2 : s.data.toList[k]? = some s[k] := by rw [Array.getElem?_toList, Array.getElem?_eq_getElem h]; rfl
    rw [h2]
    rfl
  rw [this]
  simp [h]

set_option maxHeartbeats 4000000 in
set_option maxRecDepth 100000 in
theorem w_rselect21 (s : ByteArray) (w : World) (hs : s.size ≤ maxLen) :
    Calls Try.prog 16 #[.string s] w fun e w' => ∃ t, e = .returned (.tuple #[.int .i64 (slF (LB s)).1, .string t, .int .i64 (slF (LB s)).2.2]) ∧ LB t = (slF (LB s)).2.1 ∧ Below w.heap.size w w' := by
  unfold maxLen at hs
  have hL : (LB s).length = s.size := LB_len s
  by_cases h0 : s.size = 0
  · have hz : LB s = [] := List.eq_nil_of_length_eq_zero (by omega)
    have hq : s = ⟨#[]⟩ := by
      have := nums_LB s
      rw [hz] at this
      exact this.symm
    rw [hz]
    subst hq
    go_enter Try.func16, Try.ntmps16
    go_wp2_with fail
    go_ret3
    exact ⟨⟨#[]⟩, rfl, rfl, Below.refl _ _⟩
  · have r0 : ∀ w, (Instr.index 9 (.string s) (.int .i64 0)).run Try.prog w = .ok (.int .u8 ((LB s).getD 0 0)) w := run_atT s 0 (by omega)
    have b0 := byt_get (LB_bytes s) 0
    have hsl := sl_eq (LB s) (by omega)
    have he : ¬ s = ⟨#[]⟩ := by
      intro h
      rw [h] at h0
      exact h0 rfl
    have hq : (s.toList == []) = false := by
      rw [show ([] : List UInt8) = (⟨#[]⟩ : ByteArray).toList from by rw [ByteArray.toList_eq]]
      rw [str_beq, decide_eq_false he]
    have hq1 := str_beq s ⟨#[]⟩
    rw [decide_eq_false he] at hq1
    obtain ⟨c, hc⟩ : ∃ c, (LB s).getD 0 0 = c := ⟨_, rfl⟩
    rw [hc] at r0 b0 hsl
    obtain ⟨b00, b01⟩ := b0
    rw [hsl, hL]
    clear hsl hc
    by_cases h1 : c < 97
    · rw [if_pos (Or.inl h1)]
      clear hL
      go_enter Try.func16, Try.ntmps16
      go_wp2_with fail
      go_ret3
      exact ⟨⟨#[]⟩, rfl, rfl, Below.refl _ _⟩
    · by_cases h2 : 104 < c
      · rw [if_pos (Or.inr (Or.inl h2))]
        clear hL
        go_enter Try.func16, Try.ntmps16
        go_wp2_with fail
        go_ret3
        exact ⟨⟨#[]⟩, rfl, rfl, Below.refl _ _⟩
      · have w1 : IntKind.u8.wrap (c - 97) = c - 97 := by rw [IntKind.wrap_u8]; omega
        have w2 : IntKind.i64.wrap (c - 97) = c - 97 := by rw [IntKind.wrap_i64]; omega
        by_cases h3 : 1 < s.size
        · have r1 : ∀ w, (Instr.index 9 (.string s) (.int .i64 1)).run Try.prog w = .ok (.int .u8 ((LB s).getD 1 0)) w := run_atT s 1 (by omega)
          obtain ⟨y, hy⟩ : ∃ y, (LB s).getD 1 0 = y := ⟨_, rfl⟩
          have b1 := byt_get (LB_bytes s) 1
          rw [hy] at r1 b1 ⊢
          obtain ⟨b10, b11⟩ := b1
          have g3 : (1 : Int) < s.size := by omega
          by_cases h4 : y = 44
          · rw [if_neg (by omega)]
            clear hy hL
            subst h4
            by_cases h5 : 2 < s.size
            · have g5 : (2 : Int) < s.size := by omega
              go_enter Try.func16, Try.ntmps16
              go_wp2_with fail
              go_quiet (fail)
              go_wp2_with fail
              go_ret3
              exact ⟨_, rfl, lb_from s 2, below_drewN (Below.refl _ _) _⟩
            · have g5 : ¬ (2 : Int) < s.size := by omega
              have hd : (LB s).drop 2 = [] := List.drop_of_length_le (by rw [LB_len]; omega)
              rw [hd]
              go_enter Try.func16, Try.ntmps16
              go_wp2_with fail
              go_ret3
              exact ⟨⟨#[]⟩, rfl, rfl, Below.refl _ _⟩
          · rw [if_pos (Or.inr (Or.inr ⟨h3, h4⟩))]
            clear hy hL
            go_enter Try.func16, Try.ntmps16
            go_wp2_with fail
            go_ret3
            exact ⟨⟨#[]⟩, rfl, rfl, Below.refl _ _⟩
        · rw [if_neg (by omega)]
          have g3 : ¬ (1 : Int) < s.size := by omega
          have g5 : ¬ (2 : Int) < s.size := by omega
          have hd : (LB s).drop 2 = [] := List.drop_of_length_le (by rw [LB_len]; omega)
          rw [hd]
          clear hL
          go_enter Try.func16, Try.ntmps16
          go_wp2_with fail
          go_ret3
          exact ⟨⟨#[]⟩, rfl, rfl, Below.refl _ _⟩

end Go.Proofs.Ytnaoefjcfmdenaa
