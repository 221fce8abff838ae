/-
  The landed package nvram: the sum; a bank taken as a value: how long its data are.
-/
import Derived.Test.YtlnlifijnijgmaaNva
namespace Go.Proofs.Ytlnlifijnijgmaa
open Go.ChangeShapes Go.WideShapes Go.ChangeAt Go.RowKit
set_option linter.unusedVariables false
set_option linter.unusedSimpArgs false

theorem fnv_step (a b : Int) (a0 : 0 ≤ a) (a1 : a < 4294967296) (b0 : 0 ≤ b) (b1 : b < 256) : ∃ Y : Int, bits .xor .u32 a b = Y ∧ 0 ≤ Y ∧ Y < 4294967296 ∧ fnvS a b = Y * 16777619 % 4294967296 := by
  refine ⟨((a.toNat ^^^ b.toNat : Nat) : Int), u32_xor _ _ (by omega) (by omega) (by omega) (by omega), by omega, ?_, ?_⟩
  · have := xor_lt32 (a := a.toNat) (b := b.toNat) (by omega) (by omega)
    omega
  · unfold fnvS
    omega

set_option maxHeartbeats 2000000 in
theorem w_pmix18 (s : Int) (v : Value) (xs : List Int) (w : World) (s0 : 0 ≤ s) (s1 : s < 4294967296) (h : Rd .u8 w v xs) (hb : bytesL xs) (hz : xs.length ≤ 140737488351232) :
    Calls Try.prog 21 #[.int .u32 s, v] w fun e w' => e = .returned (.int .u32 (fnvL s xs)) ∧ w' = w := by
  have hlen := rd_len h uB (P := Try.prog)
  have hyt := fun k => fnvL_bd (xs.take k) s ⟨s0, s1⟩
  go_enter Try.func21, Try.ntmps21
  go_wp2_with fail
  go_loopw [0, 9] (fun U I wx => ∃ k : Nat, (k : Int) ≤ xs.length ∧ I = .int .i64 k ∧ U = .int .u32 (fnvL s (xs.take k)) ∧ wx = w) (fun _ I _ => (xs.length - intOf I).toNat)
  case atStart => exact ⟨0, by omega, rfl, rfl, rfl⟩
  case round =>
    obtain ⟨k, hk, rfl, rfl, rfl⟩ := hrel
    by_cases hlt : (k : Int) < xs.length
    · obtain ⟨ad, b, q1, q2, q3, q4, q5⟩ := mem_at h hb k (by omega) (by omega)
      have hkk : k < xs.length := by omega
      have hsm := hyt k
      have hnx : Hid (fnvL s (xs.take (k + 1)) = fnvS (fnvL s (xs.take k)) b) := by
        show _ = _
        rw [List.take_succ_eq_append_getElem hkk, fnvL_snoc]
        congr 1
        rw [← q5, List.getD_eq_getElem?_getD]
        simp [hkk]
      obtain ⟨a, ha⟩ : ∃ a, fnvL s (xs.take k) = a := ⟨_, rfl⟩
      rw [ha] at hsm hnx ⊢
      obtain ⟨m0, m1⟩ := hsm
      obtain ⟨Y, x1, x2, x3, x7⟩ := fnv_step a b m0 m1 q3 q4
      have HF := hid x7
      have t5 : IntKind.u32.wrap (Y * 16777619) = Y * 16777619 % 4294967296 := by rw [IntKind.wrap_u32]
      clear ha q5 x7 hyt
      go_wp2_with fail
      go_roundw
      case rel => exact ⟨k + 1, by omega, by go_num, by rw [hnx.out, HF.out], trivial⟩
      case measure => simp [intOf]; omega
    · have e : Hid (xs.take k = xs) := List.take_of_length_le (by omega)
      have hsm := hyt k
      obtain ⟨m0, m1⟩ := hsm
      go_wp2_with fail
      go_ret
      rw [e.out]
      exact ⟨rfl, rfl⟩

set_option maxHeartbeats 2000000 in
theorem w_psum18 (g : Int) (v : Value) (xs : List Int) (w : World) (g0 : 0 ≤ g) (g1 : g < 256) (h : Rd .u8 w v xs) (hb : bytesL xs) (hz : xs.length ≤ 140737488351232) :
    Calls Try.prog 10 #[.int .u8 g, v] w fun e w' => e = .returned (.int .u32 (nsF g xs)) ∧ Below w.heap.size w w' := by
  have hlen := rd_len h uB (P := Try.prog)
  obtain ⟨L, hL⟩ : ∃ L : Int, (xs.length : Int) = L := ⟨_, rfl⟩
  have hns : Hid (nsF g xs = fnvL (fnvL 2166136261 [g, L / 256 % 256, L % 256]) xs) := by show _ = _; rw [← hL]; unfold nsF fnvL; rw [List.foldl_append]
  have hL0 : 0 ≤ L := by omega
  have hL1 : L ≤ 140737488351232 := by omega
  rw [hL] at hlen
  have HL := hid hL
  clear hL
  have w1 : IntKind.u8.wrap (L / 256) = L / 256 % 256 := by rw [IntKind.wrap_u8]
  have w2 : IntKind.u8.wrap L = L % 256 := by rw [IntKind.wrap_u8]
  have r0 := rd_lit (k := .u8) w [g, L / 256 % 256, L % 256] 5 (by simp) (by simp [maxLen])
  simp only [List.map_cons, List.map_nil, List.length_cons, List.length_nil, Nat.zero_add, Nat.reduceAdd] at r0
  have b0 := box_below w (.cells #[.int .u8 g, .int .u8 (L / 256 % 256), .int .u8 (L % 256)] 5)
  have c0 := w_pmix18 2166136261 _ [g, L / 256 % 256, L % 256] _ (by omega) (by omega) r0 (fun x hx => by simp only [List.mem_cons, List.not_mem_nil, or_false] at hx; omega) (by simp)
  have hs := fnvL_bd [g, L / 256 % 256, L % 256] 2166136261 (by omega)
  obtain ⟨S, hS⟩ : ∃ S, fnvL 2166136261 [g, L / 256 % 256, L % 256] = S := ⟨_, rfl⟩
  rw [hS] at c0 hs hns
  have c1 := w_pmix18 S v xs _ hs.1 hs.2 (h.below b0) hb hz
  clear hS r0
  go_enter Try.func10, Try.ntmps10
  go_upto_region 3 with (go_at_call 21; refine c0.mono ?_; rintro e w1 ⟨rfl, rfl⟩)
  go_wp2_with (go_at_call 21; refine c1.mono ?_; rintro e w2 ⟨rfl, rfl⟩)
  go_ret
  rw [hns.out]
  exact ⟨rfl, b0⟩

/-- a bank's cells -/
def BkA (B : List Int) : Array Value := (B.map (Value.int .u8)).toArray
theorem bka_at {B : List Int} (i : Nat) (h : i < B.length) : (BkA B)[i]? = some (.int .u8 (B.getD i 0)) := by
  simp [BkA, List.getD_eq_getElem?_getD, List.getElem?_eq_getElem h]
theorem bka_size (B : List Int) : (BkA B).size = B.length := by simp [BkA]
theorem bka_one (B : List Int) : (BkA B).all (·.oneCell') = true := by
  rw [Array.all_eq_true_iff_forall_mem]
  intro v hv
  simp only [BkA, List.mem_toArray, List.mem_map] at hv
  obtain ⟨x, _, rfl⟩ := hv
  rfl
theorem or64_18 (y b : Int) (y0 : 0 ≤ y) (y1 : y < 256) (b0 : 0 ≤ b) (b1 : b < 256) : bits .or .i64 (y * 256) b = 256 * y + b := by
  obtain ⟨n, rfl⟩ := Int.eq_ofNat_of_zero_le y0
  obtain ⟨m, rfl⟩ := Int.eq_ofNat_of_zero_le b0
  have := or_join18 n m 8 (by omega)
  unfold bits
  simp only
  have e1 : BitVec.ofInt 64 ((n : Int) * 256) = BitVec.ofNat 64 (n * 256) := by
    rw [show (n : Int) * 256 = ((n * 256 : Nat) : Int) by simp]; rfl
  have e2 : BitVec.ofInt 64 (m : Int) = BitVec.ofNat 64 m := rfl
  show IntKind.i64.wrap ((BitVec.ofInt 64 ((n : Int) * 256) ||| BitVec.ofInt 64 (m : Int)).toNat : Int) = _
  rw [e1, e2, BitVec.toNat_or, BitVec.toNat_ofNat, BitVec.toNat_ofNat, Nat.mod_eq_of_lt (by omega), Nat.mod_eq_of_lt (by omega), show (256 : Nat) = 2 ^ 8 from rfl, this, IntKind.wrap_i64]
  omega
theorem arrB : Try.prog.underlying 47 = some (.array 256 5) := by kernel_rfl
theorem arrB' : Try.prog.underlying 47 = some (.array (Try.prog.arrayLen 47) (Try.prog.elem 47)) := by kernel_rfl
theorem lenB : Try.prog.arrayLen 47 = 256 := by kernel_rfl
theorem elB : Try.prog.elem 47 = 5 := by kernel_rfl
theorem szB : (Try.prog.info? 47).map (·.size) = some 256 := by kernel_rfl
/-- the address of a byte of a bank -/
theorem bk_ix (b o i : Nat) (k : IntKind) (I : Int) (hi : I = (i : Int)) (h : i < 256) (w : World) : (Instr.indexAt 47 (.pointer (some ⟨b, o, none⟩)) (.int k I)).run Try.prog w = .ok (.pointer (some ⟨b, o + i, none⟩)) w := by
  subst hi
  rw [run_indexAt_array (h := arrB'), lenB, if_pos (by omega), elB, Try.sizeOf5]
  simp only [Result.andThen, Int.toNat_natCast, Nat.mul_one, Addr.add_lit]

set_option maxHeartbeats 2000000 in
theorem w_plen18 (B : List Int) (w : World) (hl : B.length = 256) (hb : bytesL B) :
    Calls Try.prog 33 #[.agg (BkA B)] w fun e w' => e = .returned (.int .i64 (bkN B)) ∧ Below w.heap.size w w' := by
  have q2 := bka_at (B := B) 2 (by omega)
  have q3 := bka_at (B := B) 3 (by omega)
  have x2 := getD_byte hb 2
  have x3 := getD_byte hb 3
  have hN : Hid (bkN B = 256 * B.getD 2 0 + B.getD 3 0) := rfl
  obtain ⟨b2, h2⟩ : ∃ b, B.getD 2 0 = b := ⟨_, rfl⟩
  obtain ⟨b3, h3⟩ : ∃ b, B.getD 3 0 = b := ⟨_, rfl⟩
  rw [h2] at q2 x2 hN
  rw [h3] at q3 x3 hN
  obtain ⟨x20, x21⟩ := x2
  obtain ⟨x30, x31⟩ := x3
  have o := or64_18 b2 b3 x20 x21 x30 x31
  have i2 := fun w' => bk_ix w.heap.size 0 2 .i64 2 rfl (by omega) w'
  have i3 := fun w' => bk_ix w.heap.size 0 3 .i64 3 rfl (by omega) w'
  have c2 := box_cell w (BkA B) 47 2 _ q2
  have c3 := box_cell w (BkA B) 47 3 _ q3
  have bx := box_below w (.cells (BkA B) 47)
  clear h2 h3 hb
  go_enter Try.func33, Try.ntmps33
  go_wp2_with fail
  go_ret
  rw [hN.out]
  exact ⟨rfl, bx⟩
end Go.Proofs.Ytlnlifijnijgmaa
