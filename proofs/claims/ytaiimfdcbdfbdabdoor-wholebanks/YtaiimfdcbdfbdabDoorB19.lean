/-
  Texts of one proof, laid one behind the other: Nva Nvb Nvc Nvd.
-/
import Derived.Test.YtaiimfdcbdfbdabDoorB18
import Derived.Deep.MidRow
import Derived.Deep.WholeRow
import Derived.Deep.RegionHeld
namespace Go.Proofs.YtaiimfdcbdfbdabDoor
open Go.ChangeShapes Go.WideShapes Go.ChangeAt Go.RowKit
set_option linter.unusedVariables false
set_option linter.unusedSimpArgs false

/-
  The landed package nvram: what its small functions call: prop.EncodeInt, prop.DecodeInt, slices.Clone, bytes.Clone at this seat.
-/
set_option maxRecDepth 100000

set_option maxHeartbeats 1000000 in
set_option maxRecDepth 100000 in
theorem w_bcl18 (v : Value) (xs : List Int) (w : World) (h : Rd .u8 w v xs) (hz : xs.length ≤ 140737488355328) :
    Calls Tryd.prog 78 #[v] w fun e w' => ∃ v', e = .returned v' ∧ Rd .u8 w' v' xs ∧ Below w.heap.size w w' := by
  obtain ⟨i0, hi, hz0, hz1, hz2⟩ := info_parts infoU8
  obtain ⟨ao, cap, rfl, hc, hn, hx⟩ := rd_form h
  cases ao with
  | none =>
    have hc0 := hn rfl
    have hl : xs = [] := List.eq_nil_of_length_eq_zero (by omega)
    subst hl
    subst hc0
    show Calls _ _ #[.slice none 0 0] _ _
    have q := Lib.run_eql_slice_nil (P := Tryd.prog) w 22 5 none 0 0 0 0 Tryd.underlying22
    go_enter Tryd.func78, Tryd.ntmps78
    go_wp2_with fail
    go_ret
    exact ⟨_, rfl, Rd_nil, Below.refl _ _⟩
  | some a =>
    have q := Lib.run_eql_slice_nil (P := Tryd.prog) w 22 5 (some a) xs.length cap 0 0 Tryd.underlying22
    have ha := h.below (box_below w (.cells #[] 5))
    go_enter Tryd.func78, Tryd.ntmps78
    go_wp2_with (at_builtin; refine wpList_append_rd (k := .u8) rfl _ _ 22 rfl w.heap.size 5 i0 1 Tryd.underlying22 hi hz0 hz1 hz2 _ [] rfl (World.ownsRow_made w #[] 0 (Nat.le_refl _) (Nat.zero_le _) rfl) _ xs rfl ha (by unfold maxLen; simp; omega) (by simp; omega) (by simp) ?_; intro v5 w5 ho5 hg5)
    go_ret
    refine ⟨v5, rfl, (Rd_own (by simpa using ho5)).1, below_grown (box_below w _) hg5 (fun k hk => by simp [Value.ownBlock, Act.eval] at hk; omega)⟩

set_option maxHeartbeats 1000000 in
set_option maxRecDepth 100000 in
theorem w_pclo18 (v : Value) (xs : List Int) (w : World) (h : Rd .u8 w v xs) (hz : xs.length ≤ 140737488355328) :
    Calls Tryd.prog 28 #[v] w fun e w' => ∃ v', e = .returned v' ∧ Own8 w.heap.size w' v' xs ∧ Below w.heap.size w w' := by
  obtain ⟨i0, hi, hz0, hz1, hz2⟩ := info_parts infoU8
  obtain ⟨ao, cap, rfl, hc, hn, hx⟩ := rd_form h
  cases ao with
  | none =>
    have hc0 := hn rfl
    have hl : xs = [] := List.eq_nil_of_length_eq_zero (by omega)
    subst hl
    subst hc0
    show Calls _ _ #[.slice none 0 0] _ _
    have q := Lib.run_eql_slice_nil (P := Tryd.prog) w 22 5 none 0 0 0 0 Tryd.underlying22
    go_enter Tryd.func28, Tryd.ntmps28
    go_wp2_with fail
    go_ret
    exact ⟨_, rfl, ⟨by simp, Or.inl ⟨rfl, rfl⟩⟩, Below.refl _ _⟩
  | some a =>
    have q := Lib.run_eql_slice_nil (P := Tryd.prog) w 22 5 (some a) xs.length cap 0 0 Tryd.underlying22
    have ha := h.below (box_below w (.cells #[] 5))
    go_enter Tryd.func28, Tryd.ntmps28
    go_wp2_with (at_builtin; refine wpList_append_rd (k := .u8) rfl _ _ 22 rfl w.heap.size 5 i0 1 Tryd.underlying22 hi hz0 hz1 hz2 _ [] rfl (World.ownsRow_made w #[] 0 (Nat.le_refl _) (Nat.zero_le _) rfl) _ xs rfl ha (by unfold maxLen; simp; omega) (by simp; omega) (by simp) ?_; intro v5 w5 ho5 hg5)
    go_ret
    refine ⟨v5, rfl, by simpa [Own8] using ho5, below_grown (box_below w _) hg5 (fun k hk => by simp [Value.ownBlock, Act.eval] at hk; omega)⟩

theorem or_join18 (y b k : Nat) (h : b < 2 ^ k) : (y * 2 ^ k ||| b) = y * 2 ^ k + b := by
  rw [Nat.mul_comm, Nat.two_pow_add_eq_or_of_lt h]
theorem or32_18 (y b : Int) (k : Nat) (y0 : 0 ≤ y) (b0 : 0 ≤ b) (hb : b < 2 ^ k) (hy : y * 2 ^ k + b < 4294967296) : bits .or .u32 (y * 2 ^ k) b = y * 2 ^ k + b := by
  obtain ⟨n, rfl⟩ := Int.eq_ofNat_of_zero_le y0
  obtain ⟨m, rfl⟩ := Int.eq_ofNat_of_zero_le b0
  have e : (n : Int) * 2 ^ k = ((n * 2 ^ k : Nat) : Int) := by simp
  have hm : m < 2 ^ k := by
    have : (m : Int) < ((2 ^ k : Nat) : Int) := by simpa using hb
    omega
  rw [e] at hy ⊢
  rw [u32_or _ _ (by omega) (by omega) (by omega) (by omega), Int.toNat_natCast, Int.toNat_natCast, or_join18 n m k hm]
  simp

set_option maxHeartbeats 1000000 in
set_option maxRecDepth 100000 in
theorem w_pfirst18 (v : Value) (xs : List Int) (w : World) (h : Rd .u8 w v xs) (hB : bytesL xs) (h4 : 4 ≤ xs.length) :
    Calls Tryd.prog 77 #[v] w fun e w' => e = .returned (.int .u32 (beV (xs.take 4))) ∧ Below w.heap.size w w' := by
  obtain ⟨ad0, b0, r0, c0, l0, u0, g0⟩ := mem_at h hB 0 (by omega) (by omega)
  obtain ⟨ad1, b1, r1, c1, l1, u1, g1⟩ := mem_at h hB 1 (by omega) (by omega)
  obtain ⟨ad2, b2, r2, c2, l2, u2, g2⟩ := mem_at h hB 2 (by omega) (by omega)
  obtain ⟨ad3, b3, r3, c3, l3, u3, g3⟩ := mem_at h hB 3 (by omega) (by omega)
  have ev : beV (xs.take 4) = ((b0 * 256 + b1) * 256 + b2) * 256 + b3 := by
    have e4 := take_more xs 0 3 (by omega)
    rw [take_more xs 1 2 (by omega), take_more xs 2 1 (by omega), take_one xs 3 (by omega)] at e4
    simp only [Int.toNat_zero, show (1 : Int).toNat = 1 from rfl, show (2 : Int).toNat = 2 from rfl, show (3 : Int).toNat = 3 from rfl] at g0 g1 g2 g3
    rw [g0, g1, g2, g3] at e4
    rw [show xs.take 4 = (xs.drop 0).take (3 + 1) by simp, e4]
    simp [beV]
  have o1 : bits .or .u32 (b0 * 16777216) (b1 * 65536) = b0 * 16777216 + b1 * 65536 := or32_18 b0 (b1 * 65536) 24 l0 (by omega) (by omega) (by omega)
  have o2 : bits .or .u32 (b0 * 16777216 + b1 * 65536) (b2 * 256) = b0 * 16777216 + b1 * 65536 + b2 * 256 := by
    have := or32_18 (b0 * 256 + b1) (b2 * 256) 16 (by omega) (by omega) (by omega) (by omega)
    rw [show (b0 * 256 + b1) * 2 ^ 16 = b0 * 16777216 + b1 * 65536 by omega] at this
    exact this
  have o3 : bits .or .u32 (b0 * 16777216 + b1 * 65536 + b2 * 256) b3 = b0 * 16777216 + b1 * 65536 + b2 * 256 + b3 := by
    have := or32_18 (b0 * 65536 + b1 * 256 + b2) b3 8 (by omega) (by omega) (by omega) (by omega)
    rw [show (b0 * 65536 + b1 * 256 + b2) * 2 ^ 8 = b0 * 16777216 + b1 * 65536 + b2 * 256 by omega] at this
    exact this
  obtain ⟨R, hR⟩ : ∃ R, beV (xs.take 4) = R := ⟨_, rfl⟩
  have HR := hid (hR.symm.trans ev)
  rw [hR]
  clear ev hR g0 g1 g2 g3 hB
  go_enter Tryd.func77, Tryd.ntmps77
  go_wp2_with fail
  go_quiet (fail)
  go_wp2_with fail
  go_ret
  refine ⟨ret_i ?_, below_drewN (Below.refl _ _) _⟩
  rw [HR.out]
  omega

set_option maxHeartbeats 1000000 in
set_option maxRecDepth 100000 in
theorem w_pdecint18 (v : Value) (xs : List Int) (w : World) (h : Rd .u8 w v xs) (hB : bytesL xs) (hl : 4 ≤ xs.length) (hz : xs.length ≤ 140737488355328) :
    Calls Tryd.prog 72 #[v] w fun e w' => ∃ v1, e = .returned (.tuple #[.int .u32 (beV (xs.take 4)), v1, .int .i64 0]) ∧ Below w.heap.size w w' := by
  have hlen := rd_len h uB (P := Tryd.prog)
  have h4 : ¬ (xs.length : Int) < 4 := by omega
  have cf := fun w h => w_pfirst18 v xs w h hB (by omega)
  obtain ⟨va, ra, _, _, c5⟩ := rd_cutI h uB zB 4 xs.length (by omega) (by omega) (by omega)
  rw [show (4 : Int).toNat = 4 from rfl, List.take_of_length_le (by simp; omega)] at ra
  have c5' := c5 rfl
  have hdl : (xs.drop 4).length ≤ xs.length := by simp
  obtain ⟨D, hD⟩ : ∃ D, xs.drop 4 = D := ⟨_, rfl⟩
  obtain ⟨R, hR⟩ : ∃ R, beV (xs.take 4) = R := ⟨_, rfl⟩
  simp only [hR] at cf
  rw [hD] at ra hdl
  rw [hR]
  clear hD hR c5
  go_enter Tryd.func72, Tryd.ntmps72
  go_wp2_with fail
  have B0 : Below w.heap.size w w.drew := below_drewN (Below.refl _ _) 1
  have hz2 : D.length ≤ 140737488355328 := by omega
  go_region_with (first
    | (go_at_call 77; refine (cf _ (h.below B0)).mono ?_; rintro e w1 ⟨rfl, b1⟩)
    | (go_at_call 77; refine (cf _ ((h.below B0).below b2)).mono ?_; rintro e w1 ⟨rfl, b1⟩)
    | (go_at_call 78; refine (w_bcl18 va D _ (ra.below B0) hz2).mono ?_; rintro e w2 ⟨v2, rfl, r2, b2⟩)
    | (go_at_call 78; refine (w_bcl18 va D _ ((ra.below B0).below b1) hz2).mono ?_; rintro e w2 ⟨v2, rfl, r2, b2⟩))
  all_goals (
    go_wp2_with fail
    go_ret3
    exact ⟨v2, rfl, below_trans B0 (below_trans b1 b2)⟩)

set_option maxHeartbeats 1000000 in
set_option maxRecDepth 100000 in
theorem w_pencint18 (n : Int) (w : World) (h0 : 0 ≤ n) (h1 : n < 4294967296) :
    Calls Tryd.prog 56 #[.int .u32 n] w fun e w' => ∃ v, e = .returned v ∧ Rd .u8 w' v (beB 4 n) ∧ Below w.heap.size w w' := by
  have e : beB 4 n = [n / 16777216, n / 65536 % 256, n / 256 % 256, n % 256] := by simp [beB]; omega
  rw [e]
  go_enter Tryd.func56, Tryd.ntmps56
  go_wp2_with fail
  go_ret
  exact ⟨_, rfl, rd_lit w [n / 16777216, n / 65536 % 256, n / 256 % 256, n % 256] 5 (by simp) (by simp [maxLen]), box_below _ _⟩

/-
  The landed package nvram: the sum; a bank taken as a value: how long its data are.
-/
set_option maxRecDepth 100000

theorem fnv_step (a b : Int) (a0 : 0 ≤ a) (a1 : a < 4294967296) (b0 : 0 ≤ b) (b1 : b < 256) : ∃ Y : Int, bits .xor .u32 a b = Y ∧ 0 ≤ Y ∧ Y < 4294967296 ∧ fnvS a b = Y * 16777619 % 4294967296 := by
  refine ⟨((a.toNat ^^^ b.toNat : Nat) : Int), u32_xor _ _ (by omega) (by omega) (by omega) (by omega), by omega, ?_, ?_⟩
  · have := xor_lt32 (a := a.toNat) (b := b.toNat) (by omega) (by omega)
    omega
  · unfold fnvS
    omega

set_option maxHeartbeats 2000000 in
theorem w_pmix18 (s : Int) (v : Value) (xs : List Int) (w : World) (s0 : 0 ≤ s) (s1 : s < 4294967296) (h : Rd .u8 w v xs) (hb : bytesL xs) (hz : xs.length ≤ 140737488351232) :
    Calls Tryd.prog 68 #[.int .u32 s, v] w fun e w' => e = .returned (.int .u32 (fnvL s xs)) ∧ w' = w := by
  have hlen := rd_len h uB (P := Tryd.prog)
  have hyt := fun k => fnvL_bd (xs.take k) s ⟨s0, s1⟩
  go_enter Tryd.func68, Tryd.ntmps68
  go_wp2_with fail
  go_loopw [0, 9] (fun U I wx => ∃ k : Nat, (k : Int) ≤ xs.length ∧ I = .int .i64 k ∧ U = .int .u32 (fnvL s (xs.take k)) ∧ wx = w) (fun _ I _ => (xs.length - intOf I).toNat)
  case atStart => exact ⟨0, by omega, rfl, rfl, rfl⟩
  case round =>
    obtain ⟨k, hk, rfl, rfl, rfl⟩ := hrel
    by_cases hlt : (k : Int) < xs.length
    · obtain ⟨ad, b, q1, q2, q3, q4, q5⟩ := mem_at h hb k (by omega) (by omega)
      have hkk : k < xs.length := by omega
      have hsm := hyt k
      have hnx : Hid (fnvL s (xs.take (k + 1)) = fnvS (fnvL s (xs.take k)) b) := by
        show _ = _
        rw [List.take_succ_eq_append_getElem hkk, fnvL_snoc]
        congr 1
        rw [← q5, List.getD_eq_getElem?_getD]
        simp [hkk]
      obtain ⟨a, ha⟩ : ∃ a, fnvL s (xs.take k) = a := ⟨_, rfl⟩
      rw [ha] at hsm hnx ⊢
      obtain ⟨m0, m1⟩ := hsm
      obtain ⟨Y, x1, x2, x3, x7⟩ := fnv_step a b m0 m1 q3 q4
      have HF := hid x7
      have t5 : IntKind.u32.wrap (Y * 16777619) = Y * 16777619 % 4294967296 := by rw [IntKind.wrap_u32]
      clear ha q5 x7 hyt
      go_wp2_with fail
      go_roundw
      case rel => exact ⟨k + 1, by omega, by go_num, by rw [hnx.out, HF.out], trivial⟩
      case measure => simp [intOf]; omega
    · have e : Hid (xs.take k = xs) := List.take_of_length_le (by omega)
      have hsm := hyt k
      obtain ⟨m0, m1⟩ := hsm
      go_wp2_with fail
      go_ret
      rw [e.out]
      exact ⟨rfl, rfl⟩

set_option maxHeartbeats 2000000 in
theorem w_psum18 (g : Int) (v : Value) (xs : List Int) (w : World) (g0 : 0 ≤ g) (g1 : g < 256) (h : Rd .u8 w v xs) (hb : bytesL xs) (hz : xs.length ≤ 140737488351232) :
    Calls Tryd.prog 57 #[.int .u8 g, v] w fun e w' => e = .returned (.int .u32 (nsF g xs)) ∧ Below w.heap.size w w' := by
  have hlen := rd_len h uB (P := Tryd.prog)
  obtain ⟨L, hL⟩ : ∃ L : Int, (xs.length : Int) = L := ⟨_, rfl⟩
  have hns : Hid (nsF g xs = fnvL (fnvL 2166136261 [g, L / 256 % 256, L % 256]) xs) := by show _ = _; rw [← hL]; unfold nsF fnvL; rw [List.foldl_append]
  have hL0 : 0 ≤ L := by omega
  have hL1 : L ≤ 140737488351232 := by omega
  rw [hL] at hlen
  have HL := hid hL
  clear hL
  have w1 : IntKind.u8.wrap (L / 256) = L / 256 % 256 := by rw [IntKind.wrap_u8]
  have w2 : IntKind.u8.wrap L = L % 256 := by rw [IntKind.wrap_u8]
  have r0 := rd_lit (k := .u8) w [g, L / 256 % 256, L % 256] 5 (by simp) (by simp [maxLen])
  simp only [List.map_cons, List.map_nil, List.length_cons, List.length_nil, Nat.zero_add, Nat.reduceAdd] at r0
  have b0 := box_below w (.cells #[.int .u8 g, .int .u8 (L / 256 % 256), .int .u8 (L % 256)] 5)
  have c0 := w_pmix18 2166136261 _ [g, L / 256 % 256, L % 256] _ (by omega) (by omega) r0 (fun x hx => by simp only [List.mem_cons, List.not_mem_nil, or_false] at hx; omega) (by simp)
  have hs := fnvL_bd [g, L / 256 % 256, L % 256] 2166136261 (by omega)
  obtain ⟨S, hS⟩ : ∃ S, fnvL 2166136261 [g, L / 256 % 256, L % 256] = S := ⟨_, rfl⟩
  rw [hS] at c0 hs hns
  have c1 := w_pmix18 S v xs _ hs.1 hs.2 (h.below b0) hb hz
  clear hS r0
  go_enter Tryd.func57, Tryd.ntmps57
  go_upto_region 3 with (go_at_call 68; refine c0.mono ?_; rintro e w1 ⟨rfl, rfl⟩)
  go_wp2_with (go_at_call 68; refine c1.mono ?_; rintro e w2 ⟨rfl, rfl⟩)
  go_ret
  rw [hns.out]
  exact ⟨rfl, b0⟩

/-- a bank's cells -/
def BkA (B : List Int) : Array Value := (B.map (Value.int .u8)).toArray
theorem bka_at {B : List Int} (i : Nat) (h : i < B.length) : (BkA B)[i]? = some (.int .u8 (B.getD i 0)) := by
  simp [BkA, List.getD_eq_getElem?_getD, List.getElem?_eq_getElem h]
theorem bka_size (B : List Int) : (BkA B).size = B.length := by simp [BkA]
theorem bka_one (B : List Int) : (BkA B).all (·.oneCell') = true := by
  rw [Array.all_eq_true_iff_forall_mem]
  intro v hv
  simp only [BkA, List.mem_toArray, List.mem_map] at hv
  obtain ⟨x, _, rfl⟩ := hv
  rfl
theorem or64_18 (y b : Int) (y0 : 0 ≤ y) (y1 : y < 256) (b0 : 0 ≤ b) (b1 : b < 256) : bits .or .i64 (y * 256) b = 256 * y + b := by
  obtain ⟨n, rfl⟩ := Int.eq_ofNat_of_zero_le y0
  obtain ⟨m, rfl⟩ := Int.eq_ofNat_of_zero_le b0
  have := or_join18 n m 8 (by omega)
  unfold bits
  simp only
  have e1 : BitVec.ofInt 64 ((n : Int) * 256) = BitVec.ofNat 64 (n * 256) := by
    rw [show (n : Int) * 256 = ((n * 256 : Nat) : Int) by simp]; rfl
  have e2 : BitVec.ofInt 64 (m : Int) = BitVec.ofNat 64 m := rfl
  show IntKind.i64.wrap ((BitVec.ofInt 64 ((n : Int) * 256) ||| BitVec.ofInt 64 (m : Int)).toNat : Int) = _
  rw [e1, e2, BitVec.toNat_or, BitVec.toNat_ofNat, BitVec.toNat_ofNat, Nat.mod_eq_of_lt (by omega), Nat.mod_eq_of_lt (by omega), show (256 : Nat) = 2 ^ 8 from rfl, this, IntKind.wrap_i64]
  omega
theorem arrB : Tryd.prog.underlying 66 = some (.array 256 5) := by kernel_rfl
theorem arrB' : Tryd.prog.underlying 66 = some (.array (Tryd.prog.arrayLen 66) (Tryd.prog.elem 66)) := by kernel_rfl
theorem lenB : Tryd.prog.arrayLen 66 = 256 := by kernel_rfl
theorem elB : Tryd.prog.elem 66 = 5 := by kernel_rfl
theorem szB : (Tryd.prog.info? 66).map (·.size) = some 256 := by kernel_rfl
/-- the address of a byte of a bank -/
theorem bk_ix (b o i : Nat) (k : IntKind) (I : Int) (hi : I = (i : Int)) (h : i < 256) (w : World) : (Instr.indexAt 66 (.pointer (some ⟨b, o, none⟩)) (.int k I)).run Tryd.prog w = .ok (.pointer (some ⟨b, o + i, none⟩)) w := by
  subst hi
  rw [run_indexAt_array (h := arrB'), lenB, if_pos (by omega), elB, Tryd.sizeOf5]
  simp only [Result.andThen, Int.toNat_natCast, Nat.mul_one, Addr.add_lit]

set_option maxHeartbeats 2000000 in
theorem w_plen18 (B : List Int) (w : World) (hl : B.length = 256) (hb : bytesL B) :
    Calls Tryd.prog 55 #[.agg (BkA B)] w fun e w' => e = .returned (.int .i64 (bkN B)) ∧ Below w.heap.size w w' := by
  have q2 := bka_at (B := B) 2 (by omega)
  have q3 := bka_at (B := B) 3 (by omega)
  have x2 := getD_byte hb 2
  have x3 := getD_byte hb 3
  have hN : Hid (bkN B = 256 * B.getD 2 0 + B.getD 3 0) := rfl
  obtain ⟨b2, h2⟩ : ∃ b, B.getD 2 0 = b := ⟨_, rfl⟩
  obtain ⟨b3, h3⟩ : ∃ b, B.getD 3 0 = b := ⟨_, rfl⟩
  rw [h2] at q2 x2 hN
  rw [h3] at q3 x3 hN
  obtain ⟨x20, x21⟩ := x2
  obtain ⟨x30, x31⟩ := x3
  have o := or64_18 b2 b3 x20 x21 x30 x31
  have i2 := fun w' => bk_ix w.heap.size 0 2 .i64 2 rfl (by omega) w'
  have i3 := fun w' => bk_ix w.heap.size 0 3 .i64 3 rfl (by omega) w'
  have c2 := box_cell w (BkA B) 66 2 _ q2
  have c3 := box_cell w (BkA B) 66 3 _ q3
  have bx := box_below w (.cells (BkA B) 66)
  clear h2 h3 hb
  go_enter Tryd.func55, Tryd.ntmps55
  go_wp2_with fail
  go_ret
  rw [hN.out]
  exact ⟨rfl, bx⟩

/-
  The landed package nvram: a bank's data, and whether it is right.
-/
set_option maxRecDepth 100000

/-- from place o of block b on these bytes lie -/
def BkAt (w : World) (b o : Nat) (B : List Int) : Prop := ∀ i, i < B.length → w.cell? ⟨b, o + i, none⟩ = some (.int .u8 (B.getD i 0))
theorem BkAt.below {w w' : World} {b o : Nat} {B : List Int} (h : BkAt w b o B) (g : Below w.heap.size w w') : BkAt w' b o B := fun i hi => below_cell g (h i hi)
theorem bkat_box (w : World) (B : List Int) (T : TypeId) : BkAt (w.alloc (.cells (BkA B) T)) w.heap.size 0 B := fun i hi => by
  rw [Nat.zero_add]
  exact box_cell w (BkA B) T i _ (bka_at i hi)
theorem bkat_part {w : World} {b : Nat} {xs : List Int} (h : BkAt w b 0 xs) (hl : xs.length = 512) (k : Nat) (hk : k < 2) : BkAt w b (256 * k) (bkF xs k) := fun i hi => by
  have hL : (bkF xs k).length = 256 := by simp only [bkF, List.length_take, List.length_drop]; omega
  have := h (256 * k + i) (by omega)
  rw [Nat.zero_add] at this
  rw [this]
  simp only [bkF, List.getD_eq_getElem?_getD, List.getElem?_take, List.getElem?_drop]
  rw [if_pos (by omega), show ((256 : Int) * (k : Int)).toNat = 256 * k by omega]
theorem bkat_range {w : World} {b o : Nat} {B : List Int} (h : BkAt w b o B) : w.rangeAt b o (B.map (Value.int .u8)) := fun j v hv => by
  rw [List.getElem?_map] at hv
  rcases Nat.lt_or_ge j B.length with hj | hj
  · rw [h j hj]
    rw [List.getElem?_eq_getElem hj] at hv
    simp only [Option.map_some] at hv
    rw [← hv, List.getD_eq_getElem?_getD, List.getElem?_eq_getElem hj]
    rfl
  · rw [List.getElem?_eq_none hj] at hv
    cases hv
/-- a bank is read whole -/
theorem wpList_load_bk {ops : Array Oper} {rest : List Oper} {op : Oper} {a : Act} {w : World} {Q : Exit → Act → World → Prop} (hgd : op.guard = none) (x : Operand) (ho : op.op = .load 66 x)
    (b o : Nat) (hx : a.eval x = .pointer (some ⟨b, o, none⟩)) (B : List Int) (hc : BkAt w b o B) (hl : B.length = 256)
    (h : wpList Tryd.prog ops Q rest (a.put op.dst (.agg (BkA B))) w) : wpList Tryd.prog ops Q (op :: rest) a w :=
  wpList_load_mid hgd 66 x ho b o hx (B.map (Value.int .u8)) _ (bkat_range hc) arrB rfl (by rw [szB, List.length_map, hl]) h
theorem wpList_load_bkG {ops : Array Oper} {rest : List Oper} {op : Oper} {a : Act} {w : World} {Q : Exit → Act → World → Prop} (hgd : Region.wanted op (yielded ops a.tmps) = true) (x : Operand) (ho : op.op = .load 66 x)
    (b o : Nat) (hx : a.eval x = .pointer (some ⟨b, o, none⟩)) (B : List Int) (hc : BkAt w b o B) (hl : B.length = 256)
    (h : wpList Tryd.prog ops Q rest (a.put op.dst (.agg (BkA B))) w) : wpList Tryd.prog ops Q (op :: rest) a w :=
  wpList_step fun K hK => by
    rw [if_pos hgd]
    exact wp_load_mid 66 x ho b o hx (B.map (Value.int .u8)) _ (bkat_range hc) arrB rfl (by rw [szB, List.length_map, hl]) (hK _ _ h)
theorem bk_cut {w : World} {b o : Nat} {B : List Int} (h : BkAt w b o B) (hl : B.length = 256) (lo hi : Int) (h0 : 0 ≤ lo) (h1 : lo ≤ hi) (h2 : hi ≤ 256) :
    ∃ v, Rd .u8 w v ((B.drop lo.toNat).take (hi - lo).toNat) ∧ ∀ w', (Instr.sliceAt 66 (.pointer (some ⟨b, o, none⟩)) (some (.int .i64 lo)) (some (.int .i64 hi)) none).run Tryd.prog w' = .ok v w' := by
  refine ⟨slicedAt ⟨b, o, none⟩ lo.toNat hi.toNat 256 1, ?_, fun w' => ?_⟩
  · have hL : ((B.drop lo.toNat).take (hi - lo).toNat).length = (hi - lo).toNat := by simp; omega
    unfold slicedAt
    by_cases he : hi = lo
    · subst he
      rw [Nat.sub_self, show (hi - hi).toNat = 0 by omega, List.take_zero]
      exact Or.inl ⟨_, _, rfl, (fun h => by cases h), rfl⟩
    · refine Or.inr ⟨b, o + lo.toNat, 256 - lo.toNat, ?_, by omega, by omega, by unfold maxLen; omega, fun i hi2 => ?_⟩
      · rw [if_neg (by omega), hL, Nat.mul_one, Addr.add_lit, show hi.toNat - lo.toNat = (hi - lo).toNat by omega]
      · rw [hL] at hi2
        have := h (lo.toNat + i) (by omega)
        rw [show o + lo.toNat + i = o + (lo.toNat + i) by omega, this]
        simp only [List.getD_eq_getElem?_getD, List.getElem?_take, List.getElem?_drop]
        rw [if_pos hi2]
  · rw [run_sliceAt_array_lh w' 66 ⟨b, o, none⟩ arrB' .i64 .i64 lo hi h0 h1 (by rw [lenB]; omega), elB, Tryd.sizeOf5, lenB]
    rfl

set_option maxHeartbeats 2000000 in
theorem w_pdata18 (B : List Int) (w : World) (hl : B.length = 256) (hb : bytesL B) (hn : bkN B ≤ 248) :
    Calls Tryd.prog 43 #[.agg (BkA B)] w fun e w' => ∃ v', e = .returned v' ∧ Own8 w.heap.size w' v' (bkD B) ∧ Below w.heap.size w w' := by
  have x2 := getD_byte hb 2
  have x3 := getD_byte hb 3
  have hn0 : 0 ≤ bkN B := by unfold bkN; omega
  have ba := bkat_box w B 66
  have bx := box_below w (.cells (BkA B) 66)
  have cl := w_plen18 B (w.alloc (.cells (BkA B) 66)) hl hb
  obtain ⟨vs, rs, sa⟩ := bk_cut ba hl 8 (8 + bkN B) (by omega) (by omega) (by omega)
  rw [show (B.drop (8 : Int).toNat).take (8 + bkN B - 8).toNat = bkD B by unfold bkD; congr 1; omega] at rs
  have hD := bkD_le B (by omega)
  obtain ⟨D, hDe⟩ : ∃ D, bkD B = D := ⟨_, rfl⟩
  obtain ⟨N, hNe⟩ : ∃ N, bkN B = N := ⟨_, rfl⟩
  rw [hDe] at rs hD ⊢
  rw [hNe] at cl sa hn hn0
  have hw : IntKind.i64.wrap (8 + N) = 8 + N := by rw [IntKind.wrap_i64]; omega
  have HB := hid ba
  clear hDe hNe x2 x3 hb ba
  go_enter Tryd.func43, Tryd.ntmps43
  go_upto_region 1 with fail
  refine wp_region_lit ?_
  refine wpList_load_bk rfl (.tmp 1) rfl w.heap.size 0 rfl B HB.out hl ?_
  go_wp2_with (first
    | (go_at_call 55; refine cl.mono ?_; rintro e w1 ⟨rfl, b1⟩)
    | (go_at_call 28; refine (w_pclo18 vs D _ (rs.below b1) (by omega)).mono ?_; rintro e w2 ⟨v2, rfl, o2, b2⟩))
  go_ret
  exact ⟨v2, rfl, own_le (below_trans bx b1).size o2, below_trans bx (below_trans b1 b2)⟩

/-
  The landed package nvram: whether a bank is right.
-/
set_option maxRecDepth 100000

set_option maxHeartbeats 2000000 in
theorem w_pright18 (B : List Int) (w : World) (hl : B.length = 256) (hb : bytesL B) :
    Calls Tryd.prog 61 #[.agg (BkA B)] w fun e w' => e = .returned (.bool (bkR B)) ∧ Below w.heap.size w w' := by
  have ba := bkat_box w B 66
  have bx := box_below w (.cells (BkA B) 66)
  have c0 := ba 0 (by omega)
  have c1 := ba 1 (by omega)
  rw [Nat.zero_add] at c0 c1
  have i0 := fun w' => bk_ix w.heap.size 0 0 .i64 0 rfl (by omega) w'
  have i1 := fun w' => bk_ix w.heap.size 0 1 .i64 1 rfl (by omega) w'
  have hm0 : Hid (bkR B = (decide (B.getD 0 0 = 165) && decide (bkN B ≤ 248) && decide (bkS B = nsF (B.getD 1 0) (bkD B)))) := rfl
  have x0 := getD_byte hb 0
  have x1 := getD_byte hb 1
  have cl := w_plen18 B (w.alloc (.cells (BkA B) 66)) hl hb
  have cd := fun W => w_pdata18 B W hl hb
  have cs := fun v W r => w_psum18 (B.getD 1 0) v (bkD B) W x1.1 x1.2 r (bytes_take (bytes_drop hb _) _) (by have := bkD_le B (by omega); omega)
  obtain ⟨m, hm⟩ : ∃ m, B.getD 0 0 = m := ⟨_, rfl⟩
  obtain ⟨g, hg⟩ : ∃ g, B.getD 1 0 = g := ⟨_, rfl⟩
  obtain ⟨N, hN⟩ : ∃ N, bkN B = N := ⟨_, rfl⟩
  rw [hm] at c0 hm0 x0
  rw [hg] at c1 cs hm0 x1
  rw [hN] at cl cd hm0
  rw [hm0.out]
  clear hm hg hm0
  by_cases hq : m = 165
  · subst hq
    by_cases hn : N ≤ 248
    · rw [decide_eq_true hn, show decide ((165 : Int) = 165) = true from rfl]
      have cd := fun W => cd W hn
      have hn2 : decide (248 < N) = false := by rw [decide_eq_false_iff_not]; omega
      have HB := hid ba
      obtain ⟨vs, rs, sa⟩ := bk_cut ba hl 4 8 (by omega) (by omega) (by omega)
      rw [show (B.drop (4 : Int).toNat).take ((8 : Int) - 4).toNat = (B.drop 4).take 4 from rfl] at rs
      have HR := hid rs
      obtain ⟨Z, hZ⟩ : ∃ Z, nsF g (bkD B) = Z := ⟨_, rfl⟩
      rw [hZ] at cs ⊢
      clear hZ
      have HC := hid cs
      have hS : bkS B = beV (((B.drop 4).take 4).take 4) := by unfold bkS; rw [List.take_take]; rfl
      have h4 : ((B.drop 4).take 4).length = 4 := by simp; omega
      have h4b : bytesL ((B.drop 4).take 4) := bytes_take (bytes_drop hb _) _
      rw [hS]
      have ci := fun W r => w_pdecint18 vs ((B.drop 4).take 4) W r h4b (by omega) (by omega)
      obtain ⟨S, hSe⟩ : ∃ S, beV (((B.drop 4).take 4).take 4) = S := ⟨_, rfl⟩
      rw [hSe] at ci ⊢
      have CI := hid ci
      clear hS hSe h4 h4b ci
      have HD := hid cd
      clear rs cs cd ba
      go_enter Tryd.func61, Tryd.ntmps61
      go_upto_region 1 with fail
      refine wp_region_lit ?_
      iterate 12 go_step
      refine wpList_load_bkG (by kernel_rfl) (.tmp 1) rfl w.heap.size 0 rfl B HB.out hl ?_
      go_upto_region 3 with (go_at_call 55; refine cl.mono ?_; rintro e w1 ⟨rfl, b01⟩)
      have CD := CI.out w1 (HR.out.below b01)
      go_upto_region 4 with (go_at_call 72; refine CD.mono ?_; rintro e w2 ⟨v2, rfl, b12⟩)
      have b02 := below_trans b01 b12
      have ba := HB.out
      have cd := HD.out
      have cs := HC.out
      refine wp_region_held_drew (S := fun W => BkAt W w.heap.size 0 B ∧ W.cell? ⟨w.heap.size, 1, none⟩ = some (.int .u8 g) ∧ Below w.heap.size w W) (by kernel_rfl) (⟨ba.below (below_drewN b02 1), below_cell (below_drewN b02 1) c1, below_trans bx (below_drewN b02 1)⟩) (fun hHeld => ?_)
      refine wpAnyH_take (i := 0) (v := ?v1) rfl (by kernel_rfl) (by kernel_rfl) (by kernel_rfl) (fun _ _ _ h => h) (Or.inl ⟨by kernel_rfl, ?h1⟩) hHeld ?r1
      case h1 => intro W hSw; (try dsimp only at hSw); obtain ⟨hA, hB, hC⟩ := hSw; go_simp; try with_reducible rfl
      simp only [Act.put, List.setIfInBounds_toArray, List.set_cons_zero, List.set_cons_succ]
      refine wpAnyH_take (i := 1) (v := ?v2) rfl (by kernel_rfl) (by kernel_rfl) (by kernel_rfl) (fun _ _ _ h => h) (Or.inl ⟨by kernel_rfl, ?h2⟩) hHeld ?r2
      case h2 => intro W hSw; (try dsimp only at hSw); obtain ⟨hA, hB, hC⟩ := hSw; go_simp; try with_reducible rfl
      simp only [Act.put, List.setIfInBounds_toArray, List.set_cons_zero, List.set_cons_succ]
      refine wpAnyH_take (i := 2) (v := ?v3) rfl (by kernel_rfl) (by kernel_rfl) (by kernel_rfl) (fun _ _ _ h => h) (Or.inl ⟨by kernel_rfl, ?h3⟩) hHeld ?r3
      case h3 => intro W hSw; (try dsimp only at hSw); obtain ⟨hA, hB, hC⟩ := hSw; go_simp; try with_reducible rfl
      simp only [Act.put, List.setIfInBounds_toArray, List.set_cons_zero, List.set_cons_succ]
      refine wpAnyH_take (i := 3) (v := .agg (BkA B)) rfl (by kernel_rfl) (by kernel_rfl) (by kernel_rfl) (fun _ _ _ h => h) (yieldsIf_load_mid (by kernel_rfl) 66 (.tmp 1) rfl w.heap.size 0 rfl (B.map (Value.int .u8)) _ (fun W hW => bkat_range hW.1) arrB rfl (by rw [szB, List.length_map, hl])) hHeld ?_
      simp only [Act.put, List.setIfInBounds_toArray, List.set_cons_zero, List.set_cons_succ]
      refine wpAnyH_ready (rs := [4]) (by kernel_rfl) (by simp) ?_
      refine AllReadyH.cons rfl (fun K hK => ?_) AllReadyH.nil
      go_simp
      go_wp2_with (first | (go_at_call 43; refine (cd _).mono ?_; rintro e w3 ⟨v3, rfl, o3, b3⟩))
      refine hK.out _ _ (⟨hHeld.1.below b3, below_cell b3 hHeld.2.1, below_trans hHeld.2.2 b3⟩) (fun hHeld => ?_)
      clear hK K
      (try simp only [Act.put, List.setIfInBounds_toArray, List.set_cons_zero, List.set_cons_succ])
      refine wpAnyH_ready (rs := [5]) (by kernel_rfl) (by simp) ?_
      refine AllReadyH.cons rfl (fun K hK => ?_) AllReadyH.nil
      go_simp
      go_wp2_with (first | (go_at_call 57; refine (cs v3 _ (Rd_own o3).1).mono ?_; rintro e w4 ⟨rfl, b4⟩))
      refine hK.out _ _ (⟨hHeld.1.below b4, below_cell b4 hHeld.2.1, below_trans hHeld.2.2 b4⟩) (fun hHeld => ?_)
      clear hK K
      (try simp only [Act.put, List.setIfInBounds_toArray, List.set_cons_zero, List.set_cons_succ])
      refine wpAnyH_take (i := 6) (v := ?v4) rfl (by kernel_rfl) (by kernel_rfl) (by kernel_rfl) (fun _ _ _ h => h) (Or.inl ⟨by kernel_rfl, ?h4⟩) hHeld ?r4
      case h4 => intro W hSw; (try dsimp only at hSw); obtain ⟨hA, hB, hC⟩ := hSw; go_simp; try with_reducible rfl
      simp only [Act.put, List.setIfInBounds_toArray, List.set_cons_zero, List.set_cons_succ]
      refine wpAnyH_ready (rs := [7]) (by kernel_rfl) (by simp) ?_
      refine AllReadyH.cons rfl (fun K hK => ?_) AllReadyH.nil
      go_simp
      refine hK.out _ _ (hHeld) (fun hHeld => ?_)
      clear hK K
      (try simp only [Act.put, List.setIfInBounds_toArray, List.set_cons_zero, List.set_cons_succ])
      refine wpAnyH_done (by kernel_rfl) ?_ _
      go_wp2_with fail
      go_ret
      refine ⟨ret_b ?_, hHeld.2.2⟩
      rw [Bool.eq_iff_iff]
      simp
    · rw [decide_eq_false hn, Bool.and_false, Bool.false_and]
      have hn2 : decide (248 < N) = true := by rw [decide_eq_true_iff]; omega
      have HB := hid ba
      clear cs cd ba
      go_enter Tryd.func61, Tryd.ntmps61
      go_upto_region 1 with fail
      refine wp_region_lit ?_
      iterate 12 go_step
      refine wpList_load_bkG (by kernel_rfl) (.tmp 1) rfl w.heap.size 0 rfl B HB.out hl ?_
      go_wp2_with (go_at_call 55; refine cl.mono ?_; rintro e w1 ⟨rfl, b01⟩)
      go_ret
      exact ⟨rfl, below_trans bx b01⟩
  · rw [decide_eq_false hq, Bool.false_and, Bool.false_and]
    have hq2 : (m != 165) = true := by simpa using hq
    clear cs cd ba cl
    go_enter Tryd.func61, Tryd.ntmps61
    go_wp2_with fail
    go_ret
    exact ⟨rfl, bx⟩

end Go.Proofs.YtaiimfdcbdfbdabDoor
