/-
  Texts of one proof, laid one behind the other: Plb Lbi Tro Lpa Lbc Ow3.
-/
import Derived.Test.YtnaoefjcfmdenabB3
import Derived.Lib.Bytealg
import Derived.Lib.BytesEntry
import Derived.Lib.ConvBytes
import Derived.Lib.AtoiErrMem
import Derived.Lib.Slices
import Derived.Laws.Externs
import Derived.Lib.Strings
import Derived.Lib.Walk
import Derived.Lib.BufferWrite
import Derived.Lib.UnsafeStr
import Derived.Lib.Hide
import Derived.Lib.IfaceEq
import Derived.Laws.MakeOwn
import Derived.Laws.Strings3
import Derived.Laws.Closers25
import Derived.Laws.Closers25b
import Derived.BigCall
import Derived.BigGuard
import Derived.Laws.BitsAllLaws
import Derived.Test.YtnaoefjcfmdenabRows
import Derived.SizedLaws
import Derived.ChangeSame
import Derived.ChangeKeysEq
import Derived.Laws.StructEq
import Derived.Laws.IdiomCopy
namespace Go.Proofs.Ytnaoefjcfmdenab
open Go.ChangeShapes Go.WideShapes Go.ChangeAt Go.RowKit
set_option linter.unusedVariables false
set_option linter.unusedSimpArgs false

/-
  The library's functions that package prop leans on, as plain functions of lists of numbers: IndexByte, Clone, Cut at a comma.
-/
/-- where c stands first: -1, or the place -/
def AtB (l : List Int) (c i : Int) : Prop := (i = -1 ∧ ∀ x ∈ l, ¬ x = c) ∨ ∃ k : Nat, i = k ∧ k < l.length ∧ l = l.take k ++ c :: l.drop (k + 1) ∧ ∀ x ∈ l.take k, ¬ x = c
theorem atB_index (u : UInt8) : ∀ l : List UInt8, AtB (l.map fun c => (c.toNat : Int)) u.toNat (Lib.indexByte l u)
  | [] => Or.inl ⟨rfl, fun x hx => by simp at hx⟩
  | b :: l => by
    unfold Lib.indexByte
    by_cases hb : b = u
    · subst hb
      simp only [beq_self_eq_true, if_true]
      exact Or.inr ⟨0, rfl, by simp, by simp, fun x hx => by simp at hx⟩
    · have hne : (b == u) = false := by simpa using hb
      have hni : ¬ (b.toNat : Int) = u.toNat := by
        intro h
        exact hb (UInt8.toNat_inj.1 (by omega))
      rw [hne]
      simp only [Bool.false_eq_true, if_false]
      rcases atB_index u l with ⟨h1, h2⟩ | ⟨k, h1, h2, h3, h4⟩
      · rw [h1]
        refine Or.inl ⟨rfl, fun x hx => ?_⟩
        simp only [List.map_cons, List.mem_cons] at hx
        rcases hx with rfl | hx
        · exact hni
        · exact h2 x hx
      · rw [h1]
        have : ((k : Int) == -1) = false := by rw [beq_eq_false_iff_ne]; omega
        rw [this]
        simp only [Bool.false_eq_true, if_false]
        refine Or.inr ⟨k + 1, by simp, by simp only [List.map_cons, List.length_cons]; omega, ?_, fun x hx => ?_⟩
        · simp only [List.map_cons, List.take_succ_cons, List.drop_succ_cons, List.cons_append]
          rw [← h3]
        · simp only [List.map_cons, List.take_succ_cons, List.mem_cons] at hx
          rcases hx with rfl | hx
          · exact hni
          · exact h4 x hx
theorem byte_of {c : Int} (h0 : 0 ≤ c) (h1 : c < 256) : ((c.toNat.toUInt8).toNat : Int) = c := by
  rw [UInt8.toNat_ofNat']
  omega
theorem bytes_map {xs : List Int} (hB : bytesL xs) : (Lib.bytesOf xs).map (fun c => (c.toNat : Int)) = xs := by
  unfold Lib.bytesOf
  rw [List.map_map]
  conv => rhs; rw [← List.map_id xs]
  apply List.map_congr_left
  intro x hx
  have := hB x hx
  simp only [Function.comp, id]
  exact byte_of this.1 this.2

set_option maxHeartbeats 1000000 in
set_option maxRecDepth 100000 in
theorem w_slib (s : ByteArray) (c : Int) (w : World) (h0 : 0 ≤ c) (h1 : c < 256) :
    Calls Try.prog 33 #[.string s, .int .u8 c] w fun e w' => ∃ i, e = .returned (.int .i64 i) ∧ AtB (L s) c i ∧ w' = w := by
  go_enter Try.func33, Try.ntmps33
  go_wp2
  rw [run_callFunc_extern Try.func37 (by kernel_rfl) (by kernel_rfl) (by kernel_rfl) (e := Extern.BytealgIndexByte.indexByte) (by kernel_rfl), Lib.run_indexByteString]
  simp only [Result.andThen]
  rw [Oper.upon_value]
  go_wp2
  go_ret
  refine ⟨_, rfl, ?_, rfl⟩
  have := atB_index c.toNat.toUInt8 s.data.toList
  rw [byte_of h0 h1] at this
  exact this

theorem bib_run (v : Value) (xs : List Int) (c : Int) (w : World) (h : Rd .u8 w v xs) (hB : bytesL xs) (h0 : 0 ≤ c) (h1 : c < 256) : ∃ i, AtB xs c i ∧ (Extern.BytealgIndexByte.indexByte #[v, .int .u8 c]).run Try.prog w = .ok (.int .i64 i) w := by
  rcases h with ⟨ao, cap, rfl, hn, rfl⟩ | ⟨b, off, cap, rfl, hp, hc1, hc2, hc⟩
  · refine ⟨-1, Or.inl ⟨rfl, fun x hx => by simp at hx⟩, ?_⟩
    cases ao with
    | none => exact Lib.run_indexByteNil (P := Try.prog) (w := w) 0 cap c
    | some a => exact Lib.run_indexByteString (P := Try.prog) .empty c w
  · refine ⟨Lib.indexByte (Lib.bytesOf xs) c.toNat.toUInt8, ?_, Lib.run_indexByteSlice w b off xs.length cap xs rfl hc c⟩
    have := atB_index c.toNat.toUInt8 (Lib.bytesOf xs)
    rw [byte_of h0 h1, bytes_map hB] at this
    exact this

set_option maxHeartbeats 1000000 in
set_option maxRecDepth 100000 in
theorem w_slix (s : ByteArray) (w : World) :
    Calls Try.prog 32 #[.string s, .string ⟨#[44]⟩] w fun e w' => ∃ i, e = .returned (.int .i64 i) ∧ AtB (L s) 44 i ∧ w' = w := by
  go_enter Try.func32, Try.ntmps32
  go_wp2_with (go_at_call 33; refine (w_slib s 44 _ (by decide) (by decide)).mono ?_; rintro e w1 ⟨i, rfl, hi, rfl⟩)
  · have h : ([44] == s.toList) = true := by assumption
    go_ret
    have e : s.data.toList = [44] := by rw [← ByteArray.toList_eq]; exact (beq_iff_eq.1 h).symm
    refine ⟨_, rfl, Or.inr ⟨0, rfl, ?_, ?_, fun x hx => by simp at hx⟩, rfl⟩
    · simp [L, e]
    · simp [L, e]
  · go_ret
    exact ⟨i, rfl, hi, rfl⟩

/-- what Cut at a comma answers -/
def CutC (l : List Int) (A B : ByteArray) (f : Bool) : Prop := (f = false ∧ L A = l ∧ ∀ x ∈ l, ¬ x = 44) ∨ (f = true ∧ l = L A ++ 44 :: L B ∧ ∀ x ∈ L A, ¬ x = 44)

set_option maxHeartbeats 1000000 in
set_option maxRecDepth 100000 in
theorem w_slcut (s : ByteArray) (w : World) (hs : s.size ≤ maxLen) :
    Calls Try.prog 30 #[.string s, .string ⟨#[44]⟩] w fun e w' => ∃ A B f, e = .returned (.tuple #[.string A, .string B, .bool f]) ∧ CutC (L s) A B f ∧ Below w.heap.size w w' := by
  unfold maxLen at hs
  go_enter Try.func30, Try.ntmps30
  go_wp2_with (go_at_call 32; refine (w_slix s _).mono ?_; rintro e w1 ⟨i, rfl, hi, rfl⟩; refine Hid.out ?_)
  rcases hi with ⟨rfl, h2⟩ | ⟨k, rfl, h2, h3, h4⟩
  · refine hid ?_
    have H2 := hid h2
    clear h2
    go_wp2_with fail
    go_ret3
    exact ⟨s, _, false, rfl, Or.inl ⟨rfl, rfl, H2.out⟩, Below.refl _ _⟩
  · refine hid ?_
    rw [L_len] at h2
    have H3 := hid h3
    have H4 := hid h4
    clear h3 h4
    have c1 : (0 : Int) ≤ k := by omega
    have c2 : (k : Int) ≤ s.size := by omega
    have c3 : (0 : Int) ≤ (k : Int) + 1 := by omega
    have c4 : (k : Int) + 1 ≤ s.size := by omega
    go_wp2_with fail
    go_quiet (fail)
    go_wp2_with fail
    go_ret3
    refine ⟨_, _, true, rfl, Or.inr ⟨rfl, ?_, ?_⟩, below_drewN (Below.refl _ _) _⟩
    · rw [L_extract s 0 k (by omega), L_from]
      simpa using H3.out
    · rw [L_extract s 0 k (by omega)]
      simpa using H4.out

set_option maxHeartbeats 1000000 in
set_option maxRecDepth 100000 in
theorem w_cut (s : ByteArray) (w : World) (hs : s.size ≤ maxLen) :
    Calls Try.prog 21 #[.string s, .string ⟨#[44]⟩] w fun e w' => ∃ A B f, e = .returned (.tuple #[.string A, .string B, .bool f]) ∧ CutC (L s) A B f ∧ Below w.heap.size w w' := by
  go_enter Try.func21, Try.ntmps21
  go_wp2_with (go_at_call 30; refine (w_slcut s _ hs).mono ?_; rintro e w1 ⟨A, B, f, rfl, h1, h2⟩)
  go_ret3
  exact ⟨A, B, f, rfl, h1, h2⟩

/-
  What the landed package label calls of package prop and of the library: numbers encoded and decoded in a row, a text's Clone, Cut at a comma.
-/
theorem or_join (y b k : Nat) (h : b < 2 ^ k) : (y * 2 ^ k ||| b) = y * 2 ^ k + b := by
  rw [Nat.mul_comm, Nat.two_pow_add_eq_or_of_lt h]
theorem or32 (y b : Int) (k : Nat) (y0 : 0 ≤ y) (b0 : 0 ≤ b) (hb : b < 2 ^ k) (hy : y * 2 ^ k + b < 4294967296) : bits .or .u32 (y * 2 ^ k) b = y * 2 ^ k + b := by
  obtain ⟨n, rfl⟩ := Int.eq_ofNat_of_zero_le y0
  obtain ⟨m, rfl⟩ := Int.eq_ofNat_of_zero_le b0
  have e : (n : Int) * 2 ^ k = ((n * 2 ^ k : Nat) : Int) := by simp
  have hm : m < 2 ^ k := by
    have : (m : Int) < ((2 ^ k : Nat) : Int) := by simpa using hb
    omega
  rw [e] at hy ⊢
  rw [u32_or _ _ (by omega) (by omega) (by omega) (by omega), Int.toNat_natCast, Int.toNat_natCast, or_join n m k hm]
  simp

set_option maxHeartbeats 1000000 in
set_option maxRecDepth 100000 in
theorem w_pfirst (v : Value) (xs : List Int) (w : World) (h : Rd .u8 w v xs) (hB : bytesL xs) (h4 : 4 ≤ xs.length) :
    Calls Try.prog 29 #[v] w fun e w' => e = .returned (.int .u32 (beV (xs.take 4))) ∧ Below w.heap.size w w' := by
  obtain ⟨ad0, b0, r0, c0, l0, u0, g0⟩ := mem_at h hB 0 (by omega) (by omega)
  obtain ⟨ad1, b1, r1, c1, l1, u1, g1⟩ := mem_at h hB 1 (by omega) (by omega)
  obtain ⟨ad2, b2, r2, c2, l2, u2, g2⟩ := mem_at h hB 2 (by omega) (by omega)
  obtain ⟨ad3, b3, r3, c3, l3, u3, g3⟩ := mem_at h hB 3 (by omega) (by omega)
  have ev : beV (xs.take 4) = ((b0 * 256 + b1) * 256 + b2) * 256 + b3 := by
    have e4 := take_more xs 0 3 (by omega)
    rw [take_more xs 1 2 (by omega), take_more xs 2 1 (by omega), take_one xs 3 (by omega)] at e4
    simp only [Int.toNat_zero, show (1 : Int).toNat = 1 from rfl, show (2 : Int).toNat = 2 from rfl, show (3 : Int).toNat = 3 from rfl] at g0 g1 g2 g3
    rw [g0, g1, g2, g3] at e4
    rw [show xs.take 4 = (xs.drop 0).take (3 + 1) by simp, e4]
    simp [beV]
  have o1 : bits .or .u32 (b0 * 16777216) (b1 * 65536) = b0 * 16777216 + b1 * 65536 := or32 b0 (b1 * 65536) 24 l0 (by omega) (by omega) (by omega)
  have o2 : bits .or .u32 (b0 * 16777216 + b1 * 65536) (b2 * 256) = b0 * 16777216 + b1 * 65536 + b2 * 256 := by
    have := or32 (b0 * 256 + b1) (b2 * 256) 16 (by omega) (by omega) (by omega) (by omega)
    rw [show (b0 * 256 + b1) * 2 ^ 16 = b0 * 16777216 + b1 * 65536 by omega] at this
    exact this
  have o3 : bits .or .u32 (b0 * 16777216 + b1 * 65536 + b2 * 256) b3 = b0 * 16777216 + b1 * 65536 + b2 * 256 + b3 := by
    have := or32 (b0 * 65536 + b1 * 256 + b2) b3 8 (by omega) (by omega) (by omega) (by omega)
    rw [show (b0 * 65536 + b1 * 256 + b2) * 2 ^ 8 = b0 * 16777216 + b1 * 65536 + b2 * 256 by omega] at this
    exact this
  obtain ⟨R, hR⟩ : ∃ R, beV (xs.take 4) = R := ⟨_, rfl⟩
  have HR := hid (hR.symm.trans ev)
  rw [hR]
  clear ev hR g0 g1 g2 g3 hB
  go_enter Try.func29, Try.ntmps29
  go_wp2_with fail
  go_quiet (fail)
  go_wp2_with fail
  go_ret
  refine ⟨ret_i ?_, below_drewN (Below.refl _ _) _⟩
  rw [HR.out]
  omega

set_option maxHeartbeats 1000000 in
set_option maxRecDepth 100000 in
theorem w_pintsO21 (v : Value) (xs : List Int) (w : World) (h : Rd .u8 w v xs) (hB : bytesL xs) (hz : xs.length ≤ 140737488355328) :
    Calls Try.prog 20 #[v] w fun e w' => ∃ v1, e = .returned (.tuple #[v1, .int .i64 (intF xs).2]) ∧ w'.ownsRow w.heap.size 27 1 v1 (intF xs).1.length ((intF xs).1.map (Value.int .u32)) ∧ Below w.heap.size w w' := by
  have hlen := rd_len h uB (P := Try.prog)
  have htm : ((xs.length : Int)).tmod 4 = (xs.length : Int) % 4 := Int.tmod_eq_emod_of_nonneg (by omega)
  by_cases h4 : (xs.length : Int) % 4 = 0
  · have e : intF xs = (intL xs, 0) := by unfold intF; rw [if_pos (by omega)]
    rw [e]
    obtain ⟨A, hA⟩ : ∃ A, intL xs = A := ⟨_, rfl⟩
    show Calls _ _ _ _ fun e w' => ∃ v1, e = .returned (.tuple #[v1, .int .i64 0]) ∧ w'.ownsRow w.heap.size 27 1 v1 (intL xs).length ((intL xs).map (Value.int .u32)) ∧ _
    rw [hA]
    have HA := hid hA
    obtain ⟨i0, hi, hz0, hz1, hz2⟩ := info_parts infoU32
    clear e hA
    go_enter Try.func20, Try.ntmps20
    go_wp2_with fail
    go_loopw [0, 4] (fun B U wx => ∃ (r ys : List Int), Rd .u8 w B r ∧ bytesL r ∧ (r.length : Int) % 4 = 0 ∧ Hid (ys ++ intL r = A) ∧ 4 * (ys.length : Int) + r.length = xs.length ∧ wx.ownsRow w.heap.size 27 1 U ys.length (ys.map (Value.int .u32)) ∧ Below w.heap.size w wx) (fun B _ _ => lenOf B)
    case atStart => exact ⟨xs, [], h, hB, h4, hid (by rw [List.nil_append]; exact HA.out), by simp, World.ownsRow_nil _ _ _ _, Below.refl _ _⟩
    case round =>
      obtain ⟨r, ys, hr, hrb, hr4, hin, hll, ho, hb⟩ := hrel
      have hlr := rd_len hr uB (P := Try.prog)
      by_cases hlt : (0 : Int) < r.length
      · have c1 := w_pfirst _ r wr (hr.below hb) hrb (by omega)
        have hn := beV_u32 (r.take 4) (by simp; omega) (bytes_take hrb 4)
        have hin2 : Hid (ys ++ [beV (r.take 4)] ++ intL (r.drop 4) = A) := by
          show _ = _
          rw [← hin.out, int_step r (by omega), List.append_assoc]
          rfl
        have hdl : ((r.drop 4).length : Int) = r.length - 4 := by simp; omega
        have hdb := bytes_drop hrb 4
        obtain ⟨va, ra, _, _, c5⟩ := rd_cutI hr uB zB 4 r.length (by omega) (by omega) (by omega)
        rw [show (4 : Int).toNat = 4 from rfl, List.take_of_length_le (by simp; omega)] at ra
        have c5' := c5 rfl
        obtain ⟨x, hx⟩ : ∃ x, beV (r.take 4) = x := ⟨_, rfl⟩
        obtain ⟨D, hD⟩ : ∃ D, r.drop 4 = D := ⟨_, rfl⟩
        simp only [hx, hD] at c1 hn hin2 hdl hdb
        rw [hD] at ra
        obtain ⟨n0, n1⟩ := hn
        clear hx hD c5
        have hrl := rd_lenOf hr
        go_wp2_with (first
          | (go_at_call 29; refine c1.mono ?_; rintro e w1 ⟨rfl, b1⟩; have ho1 := own_below ho b1; have ho2 := World.ownsRow.alloc ho1 (.cells #[.int .u32 x] 27); have hb1 := below_trans hb b1; have hb2 := hb1.alloc hb1.size (.cells #[.int .u32 x] 27))
          | (at_builtin; refine wpList_append_rd (k := .u32) rfl _ _ 54 rfl w.heap.size 27 i0 4 Try.underlying54 hi hz0 hz1 hz2 _ ys rfl ho2 _ [x] rfl (rd_one _ x 27) (by unfold maxLen; simp; omega) (by simp; omega) hb2.size ?_; intro v4 w4 ho4 hg4))
        have hb4 := below_grown hb2 hg4 (fun k hk => (ho2.lt k hk).1)
        have hvl := rd_lenOf ra
        go_roundw
        case rel => exact ⟨D, ys ++ [x], ra, hdb, by omega, hin2, by simp; omega, ho4, hb4⟩
        case measure => rw [hrl, hvl]; omega
      · have e : Hid (A = ys) := by
          show _ = _
          rw [← hin.out, int_none r (by omega), List.append_nil]
        go_wp2_with fail
        go_ret2
        rw [e.out]
        exact ⟨_, rfl, ho, hb⟩
  · have e : intF xs = ([], 15) := by unfold intF; rw [if_neg (by omega)]
    rw [e]
    have hne : ((xs.length : Int) % 4 != 0) = true := by simpa using h4
    clear e h4
    go_enter Try.func20, Try.ntmps20
    go_wp2_with fail
    go_ret2
    exact ⟨_, rfl, World.ownsRow_nil _ _ _ _, Below.refl _ _⟩

set_option maxHeartbeats 1000000 in
set_option maxRecDepth 100000 in
theorem w_pencint (n : Int) (w : World) (h0 : 0 ≤ n) (h1 : n < 4294967296) :
    Calls Try.prog 10 #[.int .u32 n] w fun e w' => ∃ v, e = .returned v ∧ Rd .u8 w' v (beB 4 n) ∧ Below w.heap.size w w' := by
  have e : beB 4 n = [n / 16777216, n / 65536 % 256, n / 256 % 256, n % 256] := by simp [beB]; omega
  rw [e]
  go_enter Try.func10, Try.ntmps10
  go_wp2_with fail
  go_ret
  exact ⟨_, rfl, rd_lit w [n / 16777216, n / 65536 % 256, n / 256 % 256, n % 256] 5 (by simp) (by simp [maxLen]), box_below _ _⟩

set_option maxHeartbeats 4000000 in
set_option maxRecDepth 100000 in
theorem w_slcl (s : ByteArray) (w : World) (hlim : s.size ≤ 281474976710656) :
    Calls Try.prog 31 #[.string s] w fun e w' => e = .returned (.string s) ∧ Below w.heap.size w w' := by
  by_cases h0 : s.size = 0
  · have hs : s = ⟨#[]⟩ := by
      apply ByteArray.ext
      exact Array.eq_empty_of_size_eq_zero h0
    subst hs
    go_enter Try.func31, Try.ntmps31
    go_wp2
    go_ret
    exact ⟨rfl, Below.refl _ _⟩
  · obtain ⟨i0, hi, hz0, hz1, hz2⟩ := info_parts infoU8
    have hinfo : (Try.prog.info? 5).map (·.size) = some 1 := by rw [hi]; simp [hz1]
    have hco : Try.prog.cellsOf 5 = 1 := by simp [Program.cellsOf, hi, hz1]
    obtain ⟨M, hM⟩ : ∃ M, M = madeCells (Value.int .u8 0).cells (((s.size : Nat) : Int).toNat * i0.size) := ⟨_, rfl⟩
    have hMs : M.size = s.size := by rw [hM, size_madeCells, hz1]; simp
    have hmk : ∀ W : World, (Instr.makeSlice 23 (.int .i64 (s.size : Int)) (.int .i64 (s.size : Int))).run Try.prog W = .ok (.slice (some ⟨W.heap.size, 0, none⟩) s.size s.size) (W.alloc (.cells M 5)) := fun W => by
      have h := run_make (P := Try.prog) W 23 5 i0 (.int .u8 0) Try.underlying23 hi hz0 .i64 .i64 (s.size : Int) (s.size : Int) (by omega) (by omega) (by rw [hz2]; omega) (by omega)
      rw [← hM] at h
      simpa using h
    clear hM
    have hcp := Lib.run_copy_row_string (P := Try.prog) (w.alloc (.cells M 5)) 23 9 3 5 w.heap.size 0 s.size s.size s M 5 Try.underlying23 hinfo (heap_alloc_new w _) (Nat.le_refl _) (by omega)
    obtain ⟨Y, hY⟩ : ∃ Y, Y = (M.toList.take 0 ++ Lib.byteCells s.data.toList ++ M.toList.drop (0 + s.size)).toArray := ⟨_, rfl⟩
    rw [← hY] at hcp
    have hYl : Y.toList = Lib.byteCells s.data.toList := by
      rw [hY, List.toList_toArray, List.take_zero, List.nil_append, List.drop_of_length_le (by rw [Array.length_toList]; omega), List.append_nil]
    have hYs : Y.size = s.size := by rw [← Array.length_toList, hYl, Lib.byteCells_length, ← Lib.size_eq]
    have hgY : ((w.alloc (.cells M 5)).setRow w.heap.size Y).heap[w.heap.size]? = some (.cells Y 5 (0, 0)) := setRow_heap _ _ M _ 5 (0, 0) (heap_alloc_new w _)
    have hne : s.data.toList ≠ [] := fun e => h0 (by rw [Lib.size_eq, e]; rfl)
    have hUS := Lib.run_unsafeString_row (P := Try.prog) ((w.alloc (.cells M 5)).setRow w.heap.size Y) 76 3 9 5 Try.underlying76 hco w.heap.size Y.size (by unfold World.shape?; rw [hgY]) s.data.toList hne (by rw [← Lib.size_eq]; omega) (by rw [← Lib.size_eq]; omega)
      (fun j x hx => Lib.cells_of_row hgY Y.size j _ (by rw [List.take_of_length_le (by rw [Array.length_toList]; exact Nat.le_refl _), hYl]; simp [Lib.byteCells, hx]))
    rw [← Lib.size_eq] at hUS
    clear hY
    go_enter Try.func31, Try.ntmps31
    go_wp2
    go_ret
    have hb1 : Below w.heap.size w (w.alloc (.cells M 5)) := (Below.refl _ w).alloc (Nat.le_refl _) _
    have hb2 : Below w.heap.size (w.alloc (.cells M 5)) ((w.alloc (.cells M 5)).setRow w.heap.size Y) := ⟨rfl, rfl, rfl, by simp, fun k hk => setRow_other _ _ _ _ (by omega)⟩
    exact ⟨rfl, Lib.below_freeze (hb1.trans hb2) (p := ⟨w.heap.size, 0, none⟩) (Nat.le_refl _) _⟩

set_option maxHeartbeats 1000000 in
theorem w_clone (s : ByteArray) (w : World) (hlim : s.size ≤ 281474976710656) :
    Calls Try.prog 22 #[.string s] w fun e w' => e = .returned (.string s) ∧ Below w.heap.size w w' := by
  go_enter Try.func22, Try.ntmps22
  go_wp2_with (go_at_call 31; refine (w_slcl s _ hlim).mono ?_; rintro e w1 ⟨rfl, hb⟩)
  go_ret
  exact ⟨rfl, hb⟩

/-
  What came in, read with its weight: slices of rows, slices of integers, structs of one-cell fields.
-/
theorem wf8 {n : Int} (h : (Lit.int .u32 n).wf = true) : 0 ≤ n ∧ n < 4294967296 := by
  simp [Lit.wf, IntKind.min, IntKind.max, IntKind.bits, IntKind.signed] at h
  omega
theorem all_weights {H : Type} {P : Program} {e : TypeId} {d : DataW H} {n : Nat} : ∀ {ds : List (DataW H)}, d ∈ ds → n ∈ d.weights P e → n ∈ DataW.weightsAll P e ds
  | x :: r, h, hn => by
    simp only [DataW.weightsAll, List.mem_append]
    rcases List.mem_cons.1 h with rfl | h
    · exact Or.inl hn
    · exact Or.inr (all_weights h hn)
/-- a slice's rows, each read as R says, each of which Q is true -/
theorem slr_trod {α H : Type} {enc : TypeId × Value → H} {W : World} {t e : TypeId} {cs : List Value} {y : DataW H × List MemPlace} {sz fuel : Nat} (R : World → List Value → α → Prop) (Q : α → Prop)
    (ht : Try.prog.underlying t = some (.slice e)) (hc : Try.prog.cellsOf e = sz) (hsz : 0 < sz) (h : DataW.trod enc Try.prog W 0 (fun _ => true) true fuel t cs = some y) (hw : ∀ n ∈ y.1.weights Try.prog t, n ≤ reachBytes)
    (hR : ∀ n cs z, DataW.trod enc Try.prog W 0 (fun _ => true) true n e cs = some z → (∀ m ∈ z.1.weights Try.prog e, m ≤ reachBytes) → ∃ x, R W cs x ∧ Q x) :
    ∃ a l c xs, cs = [.slice a l c] ∧ SlR sz R W (.slice a l c) xs ∧ (∀ x ∈ xs, Q x) ∧ xs.length * Try.prog.bytesOf e ≤ reachBytes := by
  have g' : ∃ x l c, cs = [.slice x l c] := by
    rcases DataW.trod_slice ht h with ⟨h0, _⟩ | ⟨x, l, c, _, _, _, _, h0, _⟩
    · exact ⟨none, 0, 0, h0⟩
    · exact ⟨some x, l, c, h0⟩
  obtain ⟨a, l, c, rfl⟩ := g'
  obtain ⟨d, ps⟩ := y
  obtain ⟨rows, h1, h2, h3⟩ := slc_open ht hc hsz h
  rcases h3 with ⟨rfl, rfl⟩ | ⟨ds, zs, rfl, hl, h3⟩
  · exact ⟨a, l, c, [], rfl, ⟨[], h1, rfl, fun i hi => by simp at hi⟩, fun x hx => by simp at hx, by simp⟩
  · have hwt : (ds.length + zs.length) * Try.prog.bytesOf e ≤ reachBytes := hw _ (by simp [DataW.weights, ht])
    obtain ⟨xs, hx1, hx2⟩ := choose_list (rows.zip ds) (fun (r : List Value × DataW H) (x : α) => R W r.1 x ∧ Q x) (fun r hr => by
      obtain ⟨i, hi, rfl⟩ := List.getElem_of_mem hr
      have hi2 : i < rows.length := by simp at hi; omega
      obtain ⟨n, y, g, g2⟩ := h3 i hi2
      rw [List.getD_eq_getElem?_getD, List.getElem?_eq_getElem hi2] at g
      obtain ⟨x, k1, k2⟩ := hR _ _ _ g (fun m hm => hw m (by
        simp only [DataW.weights, ht, List.mem_cons, List.mem_append]
        exact Or.inr (Or.inl (all_weights (List.mem_of_getElem? g2) hm))))
      refine ⟨x, ?_, k2⟩
      rw [List.getElem_zip]; exact k1)
    have hzl : (rows.zip ds).length = rows.length := by simp [hl]
    refine ⟨a, l, c, xs, rfl, ⟨rows, h1, by omega, fun i hi => ?_⟩, fun x hx => ?_, ?_⟩
    · have := (hx2 i (by omega) hi).1
      rw [List.getElem_zip] at this
      rw [List.getD_eq_getElem?_getD, List.getElem?_eq_getElem (by omega)]
      exact this
    · obtain ⟨i, hi, rfl⟩ := List.getElem_of_mem hx
      exact (hx2 i (by omega) hi).2
    · refine Nat.le_trans (Nat.mul_le_mul_right _ ?_) hwt
      omega
/-- a slice of integers -/
theorem rd_trod {H : Type} {enc : TypeId × Value → H} {W : World} {t e : TypeId} {k : IntKind} {cs : List Value} {y : DataW H × List MemPlace} {fuel : Nat}
    (ht : Try.prog.underlying t = some (.slice e)) (he : Try.prog.underlying e = some (.int k)) (hc : Try.prog.cellsOf e = 1) (h : DataW.trod enc Try.prog W 0 (fun _ => true) true fuel t cs = some y) (hw : ∀ n ∈ y.1.weights Try.prog t, n ≤ reachBytes) :
    ∃ a l c xs, cs = [.slice a l c] ∧ Rd k W (.slice a l c) xs ∧ (∀ n ∈ xs, (Lit.int k n).wf = true) ∧ xs.length * Try.prog.bytesOf e ≤ reachBytes := by
  have g' : ∃ x l c, cs = [.slice x l c] := by
    rcases DataW.trod_slice ht h with ⟨h0, _⟩ | ⟨x, l, c, _, _, _, _, h0, _⟩
    · exact ⟨none, 0, 0, h0⟩
    · exact ⟨some x, l, c, h0⟩
  obtain ⟨a, l, c, rfl⟩ := g'
  obtain ⟨d, ps⟩ := y
  obtain ⟨u, hu, hf, hd⟩ := rd_open (k := k) (d := d) (ps := ps) ht he hc ⟨_, h⟩
  refine ⟨a, l, c, u, rfl, hu, hf, ?_⟩
  rcases hd with rfl | ⟨ys, zs, rfl, hle⟩
  · simp
  · have hwt : (ys.length + zs.length) * Try.prog.bytesOf e ≤ reachBytes := hw _ (by simp [DataW.weights, ht])
    refine Nat.le_trans (Nat.mul_le_mul_right _ ?_) hwt
    omega
/-- a struct's fields, one after another: each field's cells are one, its weights are the struct's -/
theorem str_field {H : Type} {enc : TypeId × Value → H} {W : World} {t : TypeId} {fs : Array Field} {cs : List Value} {xs : List (DataW H × List MemPlace)} {n : Nat} (hu : Try.prog.underlying t = some (.struct fs))
    (hf : ∀ (i : Nat) f, fs[i]? = some f → DataW.trod enc Try.prog W 0 (fun _ => true) true n f.type ((cs.drop f.offset).take (Try.prog.cellsOf f.type)) = xs[i]?) {l : List (TypeId × Nat)} (hl : fs.toList.map (fun f => (f.type, f.offset)) = l) (hw : ∀ m ∈ (DataW.agg (xs.map (·.1))).weights Try.prog t, m ≤ reachBytes)
    (i : Nat) (a : TypeId) (o : Nat) (h : l[i]? = some (a, o)) (hc : Try.prog.cellsOf a = 1) (hi : i < xs.length) :
    DataW.trod enc Try.prog W 0 (fun _ => true) true n a ((cs.drop o).take 1) = some xs[i] ∧ ∀ m ∈ xs[i].1.weights Try.prog a, m ≤ reachBytes := by
  subst hl
  rw [List.getElem?_map] at h
  obtain ⟨f, g1, g2⟩ := Option.map_eq_some_iff.1 h
  obtain ⟨rfl, rfl⟩ := Prod.mk.inj g2
  have h1 := hf i f (by rw [← Array.getElem?_toList]; exact g1)
  rw [hc, List.getElem?_eq_getElem hi] at h1
  refine ⟨h1, fun m hm => hw m ?_⟩
  simp only [DataW.weights, hu]
  refine DataW.weights_mem_each (j := i) (t := f.type) (d := xs[i].1) ?_ ?_ m hm
  · rw [List.getElem?_map, g1]; rfl
  · rw [List.getElem?_map, List.getElem?_eq_getElem hi]; rfl
/-- a field of several cells -/
theorem str_fieldN {H : Type} {enc : TypeId × Value → H} {W : World} {t : TypeId} {fs : Array Field} {cs : List Value} {xs : List (DataW H × List MemPlace)} {n : Nat} (hu : Try.prog.underlying t = some (.struct fs))
    (hf : ∀ (i : Nat) f, fs[i]? = some f → DataW.trod enc Try.prog W 0 (fun _ => true) true n f.type ((cs.drop f.offset).take (Try.prog.cellsOf f.type)) = xs[i]?) {l : List (TypeId × Nat)} (hl : fs.toList.map (fun f => (f.type, f.offset)) = l) (hw : ∀ m ∈ (DataW.agg (xs.map (·.1))).weights Try.prog t, m ≤ reachBytes)
    (i : Nat) (a : TypeId) (o c : Nat) (h : l[i]? = some (a, o)) (hc : Try.prog.cellsOf a = c) (hi : i < xs.length) :
    DataW.trod enc Try.prog W 0 (fun _ => true) true n a ((cs.drop o).take c) = some xs[i] ∧ ∀ m ∈ xs[i].1.weights Try.prog a, m ≤ reachBytes := by
  subst hl
  rw [List.getElem?_map] at h
  obtain ⟨f, g1, g2⟩ := Option.map_eq_some_iff.1 h
  obtain ⟨rfl, rfl⟩ := Prod.mk.inj g2
  have h1 := hf i f (by rw [← Array.getElem?_toList]; exact g1)
  rw [hc, List.getElem?_eq_getElem hi] at h1
  refine ⟨h1, fun m hm => hw m ?_⟩
  simp only [DataW.weights, hu]
  refine DataW.weights_mem_each (j := i) (t := f.type) (d := xs[i].1) ?_ ?_ m hm
  · rw [List.getElem?_map, g1]; rfl
  · rw [List.getElem?_map, List.getElem?_eq_getElem hi]; rfl

/-
  Partitions, and what is asked of windows, that came in; equality of partitions.
-/
theorem fld_trod {H : Type} {enc : TypeId × Value → H} {W : World} {fs : Array Field} {cs : List Value} {xs : List (DataW H × List MemPlace)} {n : Nat}
    (hf : ∀ (i : Nat) f, fs[i]? = some f → DataW.trod enc Try.prog W 0 (fun _ => true) true n f.type ((cs.drop f.offset).take (Try.prog.cellsOf f.type)) = xs[i]?) {l : List (TypeId × Nat)} (hl : fs.toList.map (fun f => (f.type, f.offset)) = l)
    (i : Nat) (a : TypeId) (o : Nat) (h : l[i]? = some (a, o)) (hc : Try.prog.cellsOf a = 1) (hi : i < xs.length) :
    DataW.trod enc Try.prog W 0 (fun _ => true) true n a ((cs.drop o).take 1) = some xs[i] := by
  subst hl
  rw [List.getElem?_map] at h
  obtain ⟨f, g1, g2⟩ := Option.map_eq_some_iff.1 h
  obtain ⟨rfl, rfl⟩ := Prod.mk.inj g2
  have h1 := hf i f (by rw [← Array.getElem?_toList]; exact g1)
  rw [hc, List.getElem?_eq_getElem hi] at h1
  exact h1
theorem pt_str : Try.prog.underlying 29 = some (.struct (Try.prog.fieldsOf 29)) := by kernel_rfl
theorem ptFs : (Try.prog.fieldsOf 29).toList.map (fun f => (f.type, f.offset)) = [(27, 0), (27, 1)] := by kernel_rfl
theorem u32_wf {n : Int} (h : (Lit.int .u32 n).wf = true) : 0 ≤ n ∧ n < 4294967296 := by
  simp [Lit.wf, IntKind.min, IntKind.max, IntKind.bits, IntKind.signed] at h
  omega
set_option maxRecDepth 100000 in
theorem pt_trod {H : Type} {enc : TypeId × Value → H} {W : World} (fuel : Nat) (c0 c1 : Value) (y : DataW H × List MemPlace) (h : DataW.trod enc Try.prog W 0 (fun _ => true) true fuel 29 [c0, c1] = some y) :
    ∃ x0 x1 : Int, c0 = .int .u32 x0 ∧ c1 = .int .u32 x1 ∧ (0 ≤ x0 ∧ x0 < 4294967296) ∧ (0 ≤ x1 ∧ x1 < 4294967296) := by
  obtain ⟨xs, n, _, rfl, hl, hlen, hf⟩ := DataW.trod_struct pt_str h
  rw [show (Try.prog.fieldsOf 29).size = 2 by kernel_rfl] at hlen
  have g0 := fld_trod hf ptFs 0 27 0 rfl (by kernel_rfl) (by omega)
  have g1 := fld_trod hf ptFs 1 27 1 rfl (by kernel_rfl) (by omega)
  obtain ⟨k, k1, k2, k3⟩ := DataW.trod_int Try.underlying27 g0
  obtain ⟨u, u1, u2, u3⟩ := DataW.trod_int Try.underlying27 g1
  simp at k1 u1
  exact ⟨k, u, k1, u1, u32_wf k3, u32_wf u3⟩
set_option maxRecDepth 100000 in
set_option maxHeartbeats 2000000 in
theorem pts_open {H : Type} {enc : TypeId × Value → H} {W : World} {base : Nat} {v : Value} {d : DataW H} {ps : List MemPlace} (hv : Value.okWide Try.prog W .any base 30 v) (h : DataW.Trod enc Try.prog W 0 (fun _ => true) true 30 v d ps) :
    ∃ l : List Int, v = .agg (ArA .u32 l) ∧ l.length = 16 ∧ u32L l := by
  obtain ⟨cs0, rfl, _, _⟩ : ∃ cs, v = .agg cs ∧ cs.size = Try.prog.cellsOf 30 ∧ Row.okWide Try.prog W .any base 30 cs := by
    simpa [Value.okWide, arrL] using hv
  obtain ⟨fuel, hf0⟩ := h
  have hf2 : DataW.trod enc Try.prog W 0 (fun _ => true) true fuel 30 cs0.toList = some (d, ps) := hf0
  obtain ⟨xs, m, _, _, hl, hlen, hel⟩ := DataW.trod_array arrL hf2
  rw [show Try.prog.cellsOf 30 = 16 by kernel_rfl] at hl
  rw [show Try.prog.cellsOf 29 = 2 by kernel_rfl] at hel
  obtain ⟨cs⟩ := cs0
  simp only at hl hel
  match cs, hl with
  | [c0, c1, c2, c3, c4, c5, c6, c7, c8, c9, c10, c11, c12, c13, c14, c15], _ =>
    have e := fun i (hi : i < 8) => (hel i hi).trans (List.getElem?_eq_getElem (by omega))
    obtain ⟨x0, x1, rfl, rfl, a0, a1⟩ := pt_trod m c0 c1 _ (e 0 (by omega))
    obtain ⟨x2, x3, rfl, rfl, a2, a3⟩ := pt_trod m c2 c3 _ (e 1 (by omega))
    obtain ⟨x4, x5, rfl, rfl, a4, a5⟩ := pt_trod m c4 c5 _ (e 2 (by omega))
    obtain ⟨x6, x7, rfl, rfl, a6, a7⟩ := pt_trod m c6 c7 _ (e 3 (by omega))
    obtain ⟨x8, x9, rfl, rfl, a8, a9⟩ := pt_trod m c8 c9 _ (e 4 (by omega))
    obtain ⟨x10, x11, rfl, rfl, a10, a11⟩ := pt_trod m c10 c11 _ (e 5 (by omega))
    obtain ⟨x12, x13, rfl, rfl, a12, a13⟩ := pt_trod m c12 c13 _ (e 6 (by omega))
    obtain ⟨x14, x15, rfl, rfl, a14, a15⟩ := pt_trod m c14 c15 _ (e 7 (by omega))
    refine ⟨[x0, x1, x2, x3, x4, x5, x6, x7, x8, x9, x10, x11, x12, x13, x14, x15], rfl, rfl, ?_⟩
    intro x hx
    simp only [List.mem_cons, List.not_mem_nil, or_false] at hx
    rcases hx with rfl | rfl | rfl | rfl | rfl | rfl | rfl | rfl | rfl | rfl | rfl | rfl | rfl | rfl | rfl | rfl <;> assumption

theorem i64_wf {n : Int} (h : (Lit.int .i64 n).wf = true) : -9223372036854775808 ≤ n ∧ n < 9223372036854775808 := by
  simp [Lit.wf, IntKind.min, IntKind.max, IntKind.bits, IntKind.signed] at h
  omega

theorem lg_bytes {d a : List Int} {at_ n : Int} (h : bytesL d) : bytesL (lgF d a at_ n).1 := by
  unfold lgF
  split
  · exact dkGt_bytes h _ _
  · intro x hx; simp at hx
theorem lp_bytes {d a b : List Int} {at_ : Int} (h : bytesL d) (hb : bytesL b) : bytesL (lpF d a at_ b).1 := by
  unfold lpF
  split
  · exact dkPt_bytes h hb _
  · intro x hx; simp at hx
theorem pt_held : Try.prog.stoodInHeld 29 = false := by kernel_rfl
theorem pts_guard : Try.prog.eqGuardType Try.prog.depth 30 = false := by kernel_rfl
theorem pt_eqIn (w : World) (a b c e : Int) : (Op.equalIn 9999 29 (.agg #[.int .u32 a, .int .u32 b]) (.agg #[.int .u32 c, .int .u32 e])).run Try.prog w = .ok (a == c && b == e) w := by
  rw [run_equalIn_agg w _ _ _ _ pt_str pt_held]
  cases h1 : (a == c) <;> cases h2 : (b == e)
  all_goals simp [go_sem, h1, h2]
theorem pt_part (ps : List Int) (j : Nat) (h : 2 * j + 1 < ps.length) (w : World) : (part 29 (ArA .u32 ps) (j * 2)).run Try.prog w = .ok (.agg #[.int .u32 (ps.getD (2 * j) 0), .int .u32 (ps.getD (2 * j + 1) 0)]) w := by
  have e : (ArA .u32 ps).extract (j * 2) (j * 2 + 2) = #[.int .u32 (ps.getD (2 * j) 0), .int .u32 (ps.getD (2 * j + 1) 0)] := by
    apply Array.ext_getElem?
    intro i
    rw [Array.getElem?_extract, ara_size]
    match i with
    | 0 =>
      rw [if_pos (by omega), show j * 2 + 0 = 2 * j by omega, ara_at _ (by omega)]
      rfl
    | 1 =>
      rw [if_pos (by omega), show j * 2 + 1 = 2 * j + 1 by omega, ara_at _ (by omega)]
      rfl
    | i + 2 =>
      rw [if_neg (by omega)]
      rfl
  unfold part
  simp [Sem.run_bind, Try.isAgg29, Try.sizeOf29, e]
theorem pt_items (ps qs : List Int) (hp : ps.length = 16) (hq : qs.length = 16) (w : World) : ∀ is : List Nat, (∀ j ∈ is, j < 8) →
    (Op.eqItems 9999 29 2 (ArA .u32 ps) (ArA .u32 qs) is).run Try.prog w = .ok (is.all fun j => ps.getD (2 * j) 0 == qs.getD (2 * j) 0 && ps.getD (2 * j + 1) 0 == qs.getD (2 * j + 1) 0) w
  | [], _ => by simp [Op.eqItems]
  | j :: is, h => by
    have hj := h j (by simp)
    have ih := pt_items ps qs hp hq w is (fun x hx => h x (by simp [hx]))
    unfold Op.eqItems
    simp only [Sem.run_bind, pt_part ps j (by omega), pt_part qs j (by omega), pt_eqIn, Result.andThen_ok]
    cases hb : (ps.getD (2 * j) 0 == qs.getD (2 * j) 0 && ps.getD (2 * j + 1) 0 == qs.getD (2 * j + 1) 0)
    · rw [List.all_cons, hb, Bool.false_and]
      rfl
    · rw [List.all_cons, hb, Bool.true_and, ← ih]
      rfl
theorem pts_eql (ps qs : List Int) (hp : ps.length = 16) (hq : qs.length = 16) (w : World) : (binOp .eql 30 (.agg (ArA .u32 ps)) (.agg (ArA .u32 qs))).run Try.prog w = .ok (.bool (decide (ps = qs))) w := by
  have hi : ∃ i, Try.prog.info? 29 = some i := by
    have : (Try.prog.info? 29).isSome = true := by kernel_rfl
    exact Option.isSome_iff_exists.1 this
  obtain ⟨i, hi⟩ := hi
  rw [run_eql_struct, run_equalIn_array w 9999 (ArA .u32 ps) (ArA .u32 qs) arrL hi, show Try.prog.cellsOf 29 = 2 by kernel_rfl, pt_items ps qs hp hq w _ (fun j hj => by simpa using hj)]
  have e : ((List.range 8).all fun j => ps.getD (2 * j) 0 == qs.getD (2 * j) 0 && ps.getD (2 * j + 1) 0 == qs.getD (2 * j + 1) 0) = decide (ps = qs) := by
    rw [Bool.eq_iff_iff, List.all_eq_true]
    simp only [List.mem_range, Bool.and_eq_true, beq_iff_eq, decide_eq_true_eq]
    constructor
    · intro h
      apply ext_getDD (by omega)
      intro i hi2
      have hj := h (i / 2) (by omega)
      by_cases hev : i % 2 = 0
      · have := hj.1
        rwa [show 2 * (i / 2) = i by omega] at this
      · have := hj.2
        rwa [show 2 * (i / 2) + 1 = i by omega] at this
    · rintro rfl j _
      exact ⟨rfl, rfl⟩
  rw [e]
  rfl

/-
  The landed package label: Parse and Select.
-/
theorem uN21 : Try.prog.underlying 54 = some (.slice (Try.prog.elem 54)) := by kernel_rfl
theorem eN21 : Try.prog.elem 54 = 27 := by kernel_rfl
theorem zN21 (w : World) : (sizeOf (Try.prog.elem 54)).run Try.prog w = .ok 1 w := by rw [eN21]; exact Try.sizeOf27 w
theorem two_set (L : List Int) (i : Nat) (P Q : Int) : ((ArA .u32 L).setIfInBounds (2 * i) (.int .u32 P)).setIfInBounds (2 * i + 1) (.int .u32 Q) = ArA .u32 ((L.set (2 * i) P).set (2 * i + 1) Q) := by
  rw [ara_set, ara_set]

set_option maxHeartbeats 4000000 in
set_option maxRecDepth 100000 in
theorem w_pparse21 (v : Value) (b : List Int) (w : World) (h : Rd .u8 w v b) (hb : bytesL b) (hz : b.length ≤ 140737488351232) :
    Calls Try.prog 9 #[v] w fun e w' => e = .returned (.tuple #[.agg (ArA .u32 (psF b).1), .int .i64 (psF b).2]) ∧ Below w.heap.size w w' := by
  have z := zeroL.1
  obtain ⟨Z, hZ⟩ : ∃ Z, ArA .u32 (List.replicate 16 0) = Z := ⟨_, rfl⟩
  rw [hZ] at z
  have zs : Z.size = 16 := by rw [← hZ, ara_size, List.length_replicate]
  have zo : Z.all (·.oneCell') = true := by rw [← hZ]; exact ara_one _ _
  have HZ := hid hZ
  have HS := hid (show (Try.prog.info? 30).map (·.size) = some Z.size by rw [zs]; exact szL)
  have s0 := (stands_new w Z 30).below (box_below _ (.cells Z 30))
  have s1 := stands_new (w.alloc (.cells Z 30)) Z 30
  rw [size_al] at s1
  have b1 := below_trans (box_below w (.cells Z 30)) (box_below _ (.cells Z 30))
  have hW : w.heap.size + 1 < ((w.alloc (.cells Z 30)).alloc (.cells Z 30)).heap.size := by rw [size_al, size_al]; omega
  have e := ps_fm hb
  have cf := w_pformed21 v b _ (h.below b1) hb hz
  by_cases hf : fmF b = true
  · rw [if_pos hf] at e
    rw [e]
    obtain ⟨hl, -⟩ := (fm_ps hb).1 hf
    rw [hf] at cf
    obtain ⟨vc, rc, -, sc, -⟩ := rd_cutI h uB zB 0 64 (by omega) (by omega) (by omega)
    have sc := sc rfl
    rw [show (0 : Int).toNat = 0 from rfl, List.drop_zero, show ((64 : Int) - 0).toNat = 64 from rfl] at rc
    have ci := fun W r => w_pintsO21 vc (b.take 64) W r (bytes_take hb _) (by rw [List.length_take]; omega)
    rw [int_take b hl] at ci
    have hUl := un_len 16 b
    obtain ⟨U, hU⟩ : ∃ U, unF b 16 = U := ⟨_, rfl⟩
    rw [hU] at hUl ⊢
    simp only [hU] at ci
    clear hU e hf hZ
    go_enter Try.func9, Try.ntmps9
    go_upto_region 2 with fail
    generalize (w.alloc (.cells Z 30)).alloc (.cells Z 30) = W1 at s0 s1 b1 cf hW ⊢
    go_wp2_with (first
      | (go_at_call 19; refine cf.mono ?_; rintro e w2 ⟨rfl, b2⟩; have g2 := below_trans b1 b2)
      | (go_at_call 20; refine (ci _ (rc.below g2)).mono ?_; rintro e w3 ⟨vu, rfl, ru, b3⟩; have hB := b2.size; have t0 := (s0.below b2).below b3; have t1 := (s1.below b2).below b3; have g3 := below_trans g2 b3))
    clear cf ci
    go_loopw [18] (fun I wx => ∃ i : Nat, i ≤ 8 ∧ I = .int .i64 i ∧ wx.ownsRow w2.heap.size 27 1 vu U.length (U.map (Value.int .u32)) ∧ Stands wx w.heap.size Z 30 ∧ Stands wx (w.heap.size + 1) (ArA .u32 (U.take (2 * i) ++ List.replicate (16 - 2 * i) 0)) 30 ∧ Below w.heap.size w wx) (fun I _ => (8 - intOf I).toNat)
    case atStart => exact ⟨0, by omega, rfl, ru, t0, by rw [← HZ.out] at t1; exact t1, g3⟩
    case round =>
      obtain ⟨i, hi8, rfl, hu, hs0, hs1, hg⟩ := hrel
      clear s0 s1 b1 b2 g2 ru b3 t0 t1 g3
      by_cases hlt : (i : Int) < 8
      · have ix : ∀ w', (Instr.indexAt 30 (.pointer (some ⟨w.heap.size + 1, 0, none⟩)) (.int .i64 (i : Int))).run Try.prog w' = .ok (.pointer (some ⟨w.heap.size + 1, 2 * i, none⟩)) w' := fun w' => pt_ix (w.heap.size + 1) i .i64 (i : Int) rfl (by omega) w'
        obtain ⟨a1, i1, c1⟩ := rd_idx (Rd_own hu).1 uN21 zN21 (2 * (i : Int)) (by omega) (by omega)
        obtain ⟨a2, i2, c2⟩ := rd_idx (Rd_own hu).1 uN21 zN21 (2 * (i : Int) + 1) (by omega) (by omega)
        rw [show (2 * (i : Int)).toNat = 2 * i by omega] at c1
        rw [show (2 * (i : Int) + 1).toNat = 2 * i + 1 by omega] at c2
        have hwa : IntKind.i64.wrap (2 * (i : Int)) = 2 * (i : Int) := by rw [IntKind.wrap_i64]; omega
        have hwc : IntKind.i64.wrap (2 * (i : Int) + 1) = 2 * (i : Int) + 1 := by rw [IntKind.wrap_i64]; omega
        have hLl : (U.take (2 * i) ++ List.replicate (16 - 2 * i) (0 : Int)).length = 16 := by rw [List.length_append, List.length_take, List.length_replicate]; omega
        have hset : Hid (((U.take (2 * i) ++ List.replicate (16 - 2 * i) (0 : Int)).set (2 * i) (U.getD (2 * i) 0)).set (2 * i + 1) (U.getD (2 * i + 1) 0) = U.take (2 * (i + 1)) ++ List.replicate (16 - 2 * (i + 1)) 0) := by
          show _ = _
          have t1 : U.take (2 * i + 1) = U.take (2 * i) ++ [U.getD (2 * i) 0] := by
            rw [List.take_succ_eq_append_getElem (by omega), List.getD_eq_getElem?_getD, List.getElem?_eq_getElem (by omega)]
            rfl
          have t2 : U.take (2 * i + 1 + 1) = U.take (2 * i + 1) ++ [U.getD (2 * i + 1) 0] := by
            rw [List.take_succ_eq_append_getElem (by omega), List.getD_eq_getElem?_getD, List.getElem?_eq_getElem (by omega)]
            rfl
          rw [show 16 - 2 * i = (16 - 2 * i - 1) + 1 by omega, set_next _ _ _ _ (by rw [List.length_take]; omega), ← t1, show 16 - 2 * i - 1 = (16 - 2 * (i + 1)) + 1 by omega, set_next _ _ _ _ (by rw [List.length_take]; omega), ← t2, show 2 * (i + 1) = 2 * i + 1 + 1 by omega]
        obtain ⟨L, hL⟩ : ∃ L, U.take (2 * i) ++ List.replicate (16 - 2 * i) (0 : Int) = L := ⟨_, rfl⟩
        rw [hL] at hs1 hLl hset
        obtain ⟨P, hP⟩ : ∃ P, U.getD (2 * i) 0 = P := ⟨_, rfl⟩
        obtain ⟨Q, hQ⟩ : ∃ Q, U.getD (2 * i + 1) 0 = Q := ⟨_, rfl⟩
        rw [hP] at c1 hset
        rw [hQ] at c2 hset
        have f0 := hs1.cell (2 * i) _ (ara_at _ (by omega))
        have f1 := hs1.cell (2 * i + 1) _ (ara_at _ (by omega))
        have z0 := hs1.free (2 * i)
        have z1 := hs1.free (2 * i + 1)
        obtain ⟨E0, hE0⟩ : ∃ E, Value.int .u32 (L.getD (2 * i) 0) = E := ⟨_, rfl⟩
        obtain ⟨E1, hE1⟩ : ∃ E, Value.int .u32 (L.getD (2 * i + 1) 0) = E := ⟨_, rfl⟩
        rw [hE0] at f0
        rw [hE1] at f1
        have HL := hid hLl
        clear hL hP hQ hLl hE0 hE1
        go_wp2_with fail
        go_region
        have q0 := (hs0.other (b' := w.heap.size + 1) (2 * i) (.int .u32 P) (by omega)).other (b' := w.heap.size + 1) (2 * i + 1) (.int .u32 Q) (by omega)
        have q1 := (hs1.set (2 * i) (.int .u32 P)).set (2 * i + 1) (.int .u32 Q)
        rw [ara_set, ara_set, hset.out] at q1
        have qu := own_other (own_other hu (w.heap.size + 1) (2 * i) (.int .u32 P) (by omega)) (w.heap.size + 1) (2 * i + 1) (.int .u32 Q) (by omega)
        have qb := below_set (below_set hg (w.heap.size + 1) (2 * i) (.int .u32 P) (by omega)) (w.heap.size + 1) (2 * i + 1) (.int .u32 Q) (by omega)
        generalize (wr.setCell ⟨w.heap.size + 1, 2 * i, none⟩ (.int .u32 P)).setCell ⟨w.heap.size + 1, 2 * i + 1, none⟩ (.int .u32 Q) = W5 at q0 q1 qu qb ⊢
        go_wp2_with fail
        go_roundw
        case rel => exact ⟨i + 1, by omega, by go_num, qu, q0, q1, below_drewN qb 1⟩
        case measure => simp [intOf]; omega
      · have hi8 : i = 8 := by omega
        subst hi8
        have hU : U.take (2 * 8) ++ List.replicate (16 - 2 * 8) (0 : Int) = U := by
          rw [List.take_of_length_le (by omega), show 16 - 2 * 8 = 0 by omega, List.replicate_zero, List.append_nil]
        rw [hU] at hs1
        have hUs : (ArA .u32 U).size = 16 := by rw [ara_size]; exact hUl
        go_upto_region 10 with fail
        refine wp_region_lit ?_
        refine wpList_load_row rfl 30 (.tmp 4) rfl (w.heap.size + 1) rfl 30 _ (0, 0) _ hs1 arrL rfl (by rw [hUs]; exact szL) ?_
        refine wpList_store_row rfl 30 (.tmp 2) (.tmp 36) rfl w.heap.size (ArA .u32 U) rfl rfl 30 _ hs0 (by rw [hUs]; exact szL) (by rw [hUs, zs]) (ara_one _ _) ?_
        have u0 := setRow_heap wr w.heap.size _ (ArA .u32 U) 30 (0, 0) hs0
        have bb := below_setRow hg (Nat.le_refl _) (ArA .u32 U)
        generalize wr.setRow w.heap.size (ArA .u32 U) = W9 at u0 bb ⊢
        iterate 7 go_step
        (try simp only [Exit.inBlock, Exit.then])
        refine bodyPost_ret (v := .tuple #[.agg (ArA .u32 U), .int .i64 0]) ?_ rfl ⟨rfl, bb⟩
        exact (res_row2 (fn := Try.f9) (p := 2) (a := 3) (ty := 30) rfl _ W9 w.heap.size 30 (ArA .u32 U) (0, 0) _ rfl u0 arrL rfl (by rw [hUs]; exact szL)).trans rfl
  · rw [if_neg hf] at e
    rw [e, HZ.out]
    have hf2 : fmF b = false := by simpa using hf
    rw [hf2] at cf
    clear e hf hf2 hZ
    go_enter Try.func9, Try.ntmps9
    go_upto_region 2 with fail
    generalize (w.alloc (.cells Z 30)).alloc (.cells Z 30) = W1 at s0 s1 b1 cf hW ⊢
    go_upto_region 3 with (go_at_call 19; refine cf.mono ?_; rintro e w2 ⟨rfl, b2⟩; have t0 := s0.below b2; have t1 := s1.below b2; have g2 := below_trans b1 b2)
    refine wp_region_lit ?_
    refine wpList_load_row rfl 30 (.tmp 4) rfl (w.heap.size + 1) rfl 30 _ (0, 0) _ t1 arrL rfl HS.out ?_
    refine wpList_store_row rfl 30 (.tmp 2) (.tmp 11) rfl w.heap.size Z rfl rfl 30 _ t0 HS.out rfl zo ?_
    have u0 := setRow_heap w2 w.heap.size _ Z 30 (0, 0) t0
    have bb := below_setRow g2 (Nat.le_refl _) Z
    generalize w2.setRow w.heap.size Z = W9 at u0 bb ⊢
    iterate 7 go_step
    (try simp only [Exit.inBlock, Exit.then])
    refine bodyPost_ret (v := .tuple #[.agg Z, .int .i64 24]) ?_ rfl ⟨rfl, bb⟩
    exact (res_row2 (fn := Try.f9) (p := 2) (a := 3) (ty := 30) rfl _ W9 w.heap.size 30 Z (0, 0) _ rfl u0 arrL rfl HS.out).trans rfl

/-- what Cut at a comma answers: nothing behind where there is none -/
def CutD (l : List Int) (A B : ByteArray) (f : Bool) : Prop := (f = false ∧ L A = l ∧ B = ⟨#[]⟩ ∧ ∀ x ∈ l, ¬ x = 44) ∨ (f = true ∧ l = L A ++ 44 :: L B ∧ ∀ x ∈ L A, ¬ x = 44)

set_option maxHeartbeats 1000000 in
set_option maxRecDepth 100000 in
theorem w_slcut21 (s : ByteArray) (w : World) (hs : s.size ≤ maxLen) :
    Calls Try.prog 30 #[.string s, .string ⟨#[44]⟩] w fun e w' => ∃ A B f, e = .returned (.tuple #[.string A, .string B, .bool f]) ∧ CutD (L s) A B f ∧ Below w.heap.size w w' := by
  unfold maxLen at hs
  go_enter Try.func30, Try.ntmps30
  go_wp2_with (go_at_call 32; refine (w_slix s _).mono ?_; rintro e w1 ⟨i, rfl, hi, rfl⟩; refine Hid.out ?_)
  rcases hi with ⟨rfl, h2⟩ | ⟨k, rfl, h2, h3, h4⟩
  · refine hid ?_
    have H2 := hid h2
    clear h2
    go_wp2_with fail
    go_ret3
    exact ⟨s, ⟨#[]⟩, false, rfl, Or.inl ⟨rfl, rfl, rfl, H2.out⟩, Below.refl _ _⟩
  · refine hid ?_
    rw [L_len] at h2
    have H3 := hid h3
    have H4 := hid h4
    clear h3 h4
    have c1 : (0 : Int) ≤ k := by omega
    have c2 : (k : Int) ≤ s.size := by omega
    have c3 : (0 : Int) ≤ (k : Int) + 1 := by omega
    have c4 : (k : Int) + 1 ≤ s.size := by omega
    go_wp2_with fail
    go_quiet (fail)
    go_wp2_with fail
    go_ret3
    refine ⟨_, _, true, rfl, Or.inr ⟨rfl, ?_, ?_⟩, below_drewN (Below.refl _ _) _⟩
    · rw [L_extract s 0 k (by omega), L_from]
      simpa using H3.out
    · rw [L_extract s 0 k (by omega)]
      simpa using H4.out

set_option maxHeartbeats 1000000 in
set_option maxRecDepth 100000 in
theorem w_cut21 (s : ByteArray) (w : World) (hs : s.size ≤ maxLen) :
    Calls Try.prog 21 #[.string s, .string ⟨#[44]⟩] w fun e w' => ∃ A B f, e = .returned (.tuple #[.string A, .string B, .bool f]) ∧ CutD (L s) A B f ∧ Below w.heap.size w w' := by
  go_enter Try.func21, Try.ntmps21
  go_wp2_with (go_at_call 30; refine (w_slcut21 s _ hs).mono ?_; rintro e w1 ⟨A, B, f, rfl, h1, h2⟩)
  go_ret3
  exact ⟨A, B, f, rfl, h1, h2⟩

theorem less_one (A : ByteArray) (c : Int) (d : UInt8) (h : L A = [c]) : Op.bytesLess A.toList [d] = decide (c < (d.toNat : Int)) ∧ (A.toList == [d]) = decide (c = (d.toNat : Int)) := by
  have h1 : A.data.toList.map (fun c => (c.toNat : Int)) = [c] := h
  have hl : A.data.toList.length = 1 := by have := congrArg List.length h1; simpa using this
  obtain ⟨u, hu⟩ := List.length_eq_one_iff.1 hl
  rw [hu] at h1
  have hc : (u.toNat : Int) = c := by simpa using h1
  rw [ByteArray.toList_eq, hu]
  constructor
  · rw [← hc]
    simp only [Op.bytesLess, Bool.and_false, Bool.or_false]
    rw [Bool.eq_iff_iff, decide_eq_true_iff, decide_eq_true_iff, UInt8.lt_iff_toNat_lt]
    omega
  · rw [← hc, Bool.eq_iff_iff, decide_eq_true_iff, beq_iff_eq]
    simp only [List.cons.injEq, and_true]
    rw [← UInt8.toNat_inj]
    omega
/-- an argument, by what stands ahead of the comma -/
theorem sl_cut (a : List Int) (A B : ByteArray) (f : Bool) (h : CutD a A B f) (ha : a ≠ []) :
    slF a = if (L A).length = 1 ∧ 97 ≤ (L A).getD 0 0 ∧ (L A).getD 0 0 ≤ 104 then ((L A).getD 0 0 - 97, L B, 0) else (0, [], 15) := by
  rw [sl_eq a (List.length_pos_iff.2 ha)]
  rcases h with ⟨-, h1, h2, h3⟩ | ⟨-, h1, h2⟩
  · rw [h1, h2]
    by_cases hl : a.length = 1
    · have hd : a.drop 2 = L ⟨#[]⟩ := by rw [List.drop_of_length_le (by omega)]; rfl
      rw [hd]
      by_cases hc : 97 ≤ a.getD 0 0 ∧ a.getD 0 0 ≤ 104
      · rw [if_neg (by omega), if_pos ⟨hl, hc⟩]
      · rw [if_pos (by omega), if_neg (fun x => hc x.2)]
    · rw [if_neg (c := a.length = 1 ∧ _) (fun x => hl x.1)]
      match a, ha, hl, h3 with
      | [x], _, hl, _ => exact absurd rfl hl
      | x :: y :: r, _, _, h3 =>
        rw [if_pos]
        exact Or.inr (Or.inr ⟨by simp, h3 y (by simp)⟩)
  · match hA : L A with
    | [] =>
      rw [hA] at h1
      rw [h1, if_pos (by simp), if_neg (by simp)]
    | [x] =>
      rw [hA] at h1
      rw [h1]
      by_cases hc : 97 ≤ x ∧ x ≤ 104
      · rw [if_neg (by simp; omega), if_pos ⟨rfl, hc⟩]
        simp
      · rw [if_pos (by simp; omega), if_neg (fun y => hc y.2)]
    | x :: y :: r =>
      rw [hA] at h1 h2
      have hy := h2 y (by simp)
      rw [h1, if_pos (Or.inr (Or.inr ⟨by simp, by simpa using hy⟩)), if_neg (by simp)]

set_option maxHeartbeats 4000000 in
set_option maxRecDepth 100000 in
theorem w_pselect21 (s : ByteArray) (w : World) (hs : s.size ≤ 140737488351232) :
    Calls Try.prog 13 #[.string s] w fun e w' => ∃ t, e = .returned (.tuple #[.int .i64 (slF (LB s)).1, .string t, .int .i64 (slF (LB s)).2.2]) ∧ LB t = (slF (LB s)).2.1 ∧ Below w.heap.size w w' := by
  have hL : (LB s).length = s.size := LB_len s
  by_cases h0 : s.size = 0
  · have hz : LB s = [] := List.eq_nil_of_length_eq_zero (by omega)
    have hq : s = ⟨#[]⟩ := by
      have := nums_LB s
      rw [hz] at this
      exact this.symm
    rw [hz]
    subst hq
    go_enter Try.func13, Try.ntmps13
    go_wp2_with fail
    go_ret3
    exact ⟨⟨#[]⟩, rfl, rfl, Below.refl _ _⟩
  · have he : ¬ s = ⟨#[]⟩ := by
      intro h
      rw [h] at h0
      exact h0 rfl
    have hq : (s.toList == []) = false := by
      rw [show ([] : List UInt8) = (⟨#[]⟩ : ByteArray).toList from by rw [ByteArray.toList_eq]]
      rw [str_beq, decide_eq_false he]
    have hne : LB s ≠ [] := by intro h; rw [h] at hL; exact h0 hL.symm
    have hsl := fun A B f hh => sl_cut (LB s) A B f hh hne
    obtain ⟨S, hS⟩ : ∃ S, slF (LB s) = S := ⟨_, rfl⟩
    rw [hS]
    simp only [hS] at hsl
    have cc := w_cut21 s w (Nat.le_trans hs (by unfold maxLen; omega))
    have HS := hid hsl
    clear hL he hne hS hsl h0
    go_enter Try.func13, Try.ntmps13
    go_upto_region 4 with (go_at_call 21; refine cc.mono ?_; rintro e w1 ⟨A, B, f, rfl, hd, b1⟩)
    have hsl := HS.out A B f hd
    have hAL := L_len A
    have hAs : A.size ≤ 281474976710656 ∧ B.size ≤ 281474976710656 := by
      have h1 : (L s).length ≤ 140737488355328 := by rw [L_len]; omega
      rcases hd with ⟨-, x1, x2, -⟩ | ⟨-, x1, -⟩
      · have := congrArg List.length x1
        rw [L_len] at this
        rw [x2]
        exact ⟨by omega, by decide⟩
      · have := congrArg List.length x1
        rw [List.length_append, List.length_cons, L_len A, L_len B] at this
        omega
    clear HS cc hd
    by_cases h1 : A.size = 1
    · have hA1 : (A.size : Int) = 1 := by omega
      obtain ⟨c, hc⟩ := List.length_eq_one_iff.1 (hAL.trans h1)
      have hl1 := (less_one A c 97 hc).1
      have hl2 := (less_one A c 104 hc).1
      have hl3 := (less_one A c 104 hc).2
      have hcb : 0 ≤ c ∧ c < 256 := LB_bytes A c (by show c ∈ L A; rw [hc]; simp)
      have r0 : ∀ w, (Instr.index 9 (.string A) (.int .i64 0)).run Try.prog w = .ok (.int .u8 c) w := fun W => by
        have := run_atT A 0 (by omega) W
        rw [show (LB A).getD 0 0 = c by show (L A).getD 0 0 = c; rw [hc]; rfl] at this
        exact this
      rw [hc] at hsl
      rw [show ((97 : UInt8).toNat : Int) = 97 from rfl] at hl1
      rw [show ((104 : UInt8).toNat : Int) = 104 from rfl] at hl2 hl3
      by_cases h2 : c < 97
      · rw [if_neg (by simp; omega)] at hsl
        rw [decide_eq_true h2] at hl1
        have HS := hid hsl
        clear hsl hl2 hl3 h2 hc r0
        go_wp2_with fail
        go_ret3
        rw [HS.out]
        exact ⟨⟨#[]⟩, rfl, rfl, b1⟩
      · rw [decide_eq_false h2] at hl1
        by_cases h3 : 104 < c
        · rw [if_neg (by simp; omega)] at hsl
          rw [decide_eq_false (by omega)] at hl2 hl3
          have HS := hid hsl
          clear hsl h2 h3 hc r0
          go_wp2_with fail
          go_ret3
          rw [HS.out]
          exact ⟨⟨#[]⟩, rfl, rfl, b1⟩
        · rw [if_pos (by simp; omega)] at hsl
          have HS := hid hsl
          have cl := fun W => w_clone B W hAs.2
          have w1' : IntKind.u8.wrap (c - 97) = c - 97 := by rw [IntKind.wrap_u8]; omega
          have w2' : IntKind.i64.wrap (c - 97) = c - 97 := by rw [IntKind.wrap_i64]; omega
          have hg : (Op.bytesLess A.toList [104] = true ∧ (A.toList == [104]) = false) ∨ (Op.bytesLess A.toList [104] = false ∧ (A.toList == [104]) = true) := by
            rw [hl2, hl3]
            by_cases h4 : c = 104
            · exact Or.inr ⟨decide_eq_false (by omega), decide_eq_true h4⟩
            · exact Or.inl ⟨decide_eq_true (by omega), decide_eq_false h4⟩
          clear hsl hc hl2 hl3
          rcases hg with ⟨hl2, hl3⟩ | ⟨hl2, hl3⟩
          · go_wp2_with fail
            go_region_with (go_at_call 22; refine (cl _).mono ?_; rintro e w2 ⟨rfl, b2⟩)
            all_goals
              go_wp2_with fail
              go_ret3
              rw [HS.out]
              exact ⟨B, rfl, rfl, below_trans (below_drewN b1 1) b2⟩
          · go_wp2_with fail
            go_region_with (go_at_call 22; refine (cl _).mono ?_; rintro e w2 ⟨rfl, b2⟩)
            all_goals
              go_wp2_with fail
              go_ret3
              rw [HS.out]
              exact ⟨B, rfl, rfl, below_trans (below_drewN b1 1) b2⟩
    · rw [if_neg (fun x => h1 (by rw [hAL] at x; exact x.1))] at hsl
      have hq1 : ((A.size : Int) != 1) = true := by simp; omega
      have HS := hid hsl
      clear hsl h1
      go_wp2_with fail
      go_ret3
      rw [HS.out]
      exact ⟨⟨#[]⟩, rfl, rfl, b1⟩

/-
  Rows of the call's own written at several cells, and cut short. No Go text in sight.
-/
/-- cells written one behind the other -/
def setL {α : Type} (cs : List α) : Nat → List α → List α
  | _, [] => cs
  | o, v :: r => setL (cs.set o v) (o + 1) r
theorem setL_len {α : Type} : ∀ (news : List α) (cs : List α) (o : Nat), (setL cs o news).length = cs.length
  | [], cs, o => rfl
  | v :: r, cs, o => by rw [setL, setL_len r]; simp
theorem setL_get {α : Type} : ∀ (news : List α) (cs : List α) (o : Nat), o + news.length ≤ cs.length → ∀ i, (setL cs o news)[i]? = if i < o then cs[i]? else if i < o + news.length then news[i - o]? else cs[i]?
  | [], cs, o, h, i => by simp only [setL, List.length_nil, Nat.add_zero]; split <;> (try split) <;> first | rfl | omega
  | v :: r, cs, o, h, i => by
    rw [setL, setL_get r (cs.set o v) (o + 1) (by simp at h ⊢; omega) i]
    simp only [List.length_cons] at h ⊢
    by_cases h1 : i < o
    · rw [if_pos (by omega), if_pos h1, List.getElem?_set_ne (by omega)]
    · rw [if_neg h1]
      by_cases h2 : i = o
      · subst h2
        rw [if_pos (by omega), if_pos (by omega), List.getElem?_set_self (by omega), Nat.sub_self]
        rfl
      · rw [if_neg (by omega)]
        by_cases h3 : i < o + (r.length + 1)
        · rw [if_pos (by omega), if_pos h3, show i - o = (i - (o + 1)) + 1 by omega]
          rfl
        · rw [if_neg (by omega), if_neg h3, List.getElem?_set_ne (by omega)]
theorem setL_eq {α : Type} (news cs : List α) (o : Nat) (h : o + news.length ≤ cs.length) : setL cs o news = cs.take o ++ news ++ cs.drop (o + news.length) := by
  apply List.ext_getElem?
  intro i
  rw [setL_get news cs o h]
  by_cases h1 : i < o
  · rw [if_pos h1, List.append_assoc, List.getElem?_append_left (by simp; omega), List.getElem?_take, if_pos h1]
  · rw [if_neg h1]
    by_cases h2 : i < o + news.length
    · rw [if_pos h2, List.getElem?_append_left (by simp; omega), List.getElem?_append_right (by simp; omega)]
      congr 1
      simp
      omega
    · rw [if_neg h2, List.getElem?_append_right (by simp; omega), List.getElem?_drop]
      congr 1
      simp
      omega
theorem own_setCells {base : Nat} {e : TypeId} {sz g n cap : Nat} : ∀ (news : List Value) (w : World) (cs : List Value) (o : Nat), w.ownsRow base e sz (.slice (some ⟨g, 0, none⟩) n cap) n cs →
    (w.setCells g o news).ownsRow base e sz (.slice (some ⟨g, 0, none⟩) n cap) n (setL cs o news) ∧ w.grownBy (w.setCells g o news) (some g)
  | [], w, cs, o, h => ⟨h, ⟨rfl, rfl, rfl, Nat.le_refl _, fun _ _ _ => rfl⟩⟩
  | v :: r, w, cs, o, h => by
    obtain ⟨h1, h2⟩ := h.stored o v
    obtain ⟨h3, h4⟩ := own_setCells r (w.setCell ⟨g, o, none⟩ v) (cs.set o v) (o + 1) h1
    exact ⟨h3, h4.os.trans h2.os, h4.tape.trans h2.tape, h4.output.trans h2.output, Nat.le_trans h2.size h4.size, fun k hk hne => (h4.block k (Nat.lt_of_lt_of_le hk h2.size) hne).trans (h2.block k hk hne)⟩
/-- the first ones of an own row -/
theorem own_take {w : World} {base : Nat} {e : TypeId} {sz g n cap : Nat} {cs : List Value} (h : w.ownsRow base e sz (.slice (some ⟨g, 0, none⟩) n cap) n cs) (m : Nat) (hm : m ≤ n) : w.ownsRow base e sz (.slice (some ⟨g, 0, none⟩) m cap) m (cs.take (m * sz)) := by
  obtain ⟨hl, h⟩ := h
  have hle : m * sz ≤ n * sz := Nat.mul_le_mul_right _ hm
  refine ⟨by rw [List.length_take]; omega, ?_⟩
  rcases h with ⟨h, _⟩ | ⟨g', cap', cur, he, hb, hg, hc, hx, hs, ht⟩
  · simp at h
  · simp at he
    obtain ⟨rfl, rfl⟩ := he
    refine Or.inr ⟨g, cap, cur, rfl, hb, hg, by omega, hx, hs, ?_⟩
    rw [← ht, List.take_take, Nat.min_eq_left hle]
theorem flat_take {α : Type} : ∀ (rows : List (List α)) (sz j : Nat), (∀ r ∈ rows, r.length = sz) → rows.flatten.take (j * sz) = (rows.take j).flatten
  | [], sz, j, h => by simp
  | r :: rows, sz, 0, h => by simp
  | r :: rows, sz, j + 1, h => by
    have hr := h r (by simp)
    have ih := flat_take rows sz j (fun x hx => h x (by simp [hx]))
    rw [List.flatten_cons, List.take_succ_cons, List.flatten_cons, List.take_append, hr, Nat.add_mul, Nat.one_mul, show j * sz + sz - sz = j * sz by omega, ih, List.take_of_length_le (by omega)]
theorem flat_drop {α : Type} : ∀ (rows : List (List α)) (sz j : Nat), (∀ r ∈ rows, r.length = sz) → rows.flatten.drop (j * sz) = (rows.drop j).flatten
  | [], sz, j, h => by simp
  | r :: rows, sz, 0, h => by simp
  | r :: rows, sz, j + 1, h => by
    have hr := h r (by simp)
    have ih := flat_drop rows sz j (fun x hx => h x (by simp [hx]))
    rw [List.flatten_cons, List.drop_succ_cons, List.drop_append, hr, Nat.add_mul, Nat.one_mul, show j * sz + sz - sz = j * sz by omega, ih, List.drop_of_length_le (by omega), List.nil_append]

end Go.Proofs.Ytnaoefjcfmdenab
