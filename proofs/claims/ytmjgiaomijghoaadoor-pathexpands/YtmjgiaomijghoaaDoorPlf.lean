/-
  The library's AppendUint at base 16: the digits of a number of 32 bits behind a row of the call's own.
-/
import Derived.Test.YtmjgiaomijghoaaDoorPlp
import Derived.Laws.BitsAllLaws
namespace Go.Proofs.YtmjgiaomijghoaaDoor
open Go.ChangeShapes Go.WideShapes Go.ChangeAt Go.RowKit
set_option linter.unusedVariables false
set_option linter.unusedSimpArgs false

/-- the digits laid so far stand at the row's end -/
def Lain (c : Array Value) (p : Nat) (D : List Int) : Prop := c.size = 65 ∧ p + D.length = 65 ∧ ∀ j, j < D.length → c[p + j]? = some (.int .u8 (D.getD j 0))
theorem lain0 (c : Array Value) (h : c.size = 65) : Lain c 65 [] := ⟨h, rfl, fun j hj => by simp at hj⟩
theorem lain_step (c : Array Value) (p : Nat) (D : List Int) (h : Lain c (p + 1) D) (x : Int) : Lain (c.setIfInBounds p (.int .u8 x)) p (x :: D) := by
  obtain ⟨h1, h2, h3⟩ := h
  refine ⟨by simpa using h1, by simp; omega, fun j hj => ?_⟩
  rw [Array.getElem?_setIfInBounds]
  cases j with
  | zero => rw [if_pos (by rfl), if_pos (by omega)]; rfl
  | succ j =>
    have hj' : j < D.length := by simpa using hj
    rw [if_neg (by omega)]
    have := h3 j hj'
    rw [show p + (j + 1) = p + 1 + j by omega, this]
    simp
set_option maxRecDepth 100000 in
theorem run_cutB (B p : Nat) (hp : (p : Int) ≤ 64) (w : World) : (Instr.sliceAt 121 (.pointer (some ⟨B, 0, none⟩)) (some (.int .i64 (p : Int))) none none).run Tryd.prog w = .ok (.slice (some ⟨B, p, none⟩) (65 - p) (65 - p)) w := by
  have hu : Tryd.prog.underlying 121 = some (.array (Tryd.prog.arrayLen 121) (Tryd.prog.elem 121)) := by kernel_rfl
  have hl : Tryd.prog.arrayLen 121 = 65 := by kernel_rfl
  have he : Tryd.prog.elem 121 = 5 := by kernel_rfl
  rw [run_sliceAt_array_l w 121 ⟨B, 0, none⟩ hu .i64 (p : Int) (by omega) (by rw [hl]; omega), he, hl, Tryd.sizeOf5]
  have e : ((p : Int)).toNat = p := by omega
  simp only [Result.andThen, slicedAt, e]
  rw [if_neg (by omega)]
  congr 2
  unfold Addr.add
  split
  · rename_i h; simp at h; subst h; rfl
  · simp

set_option maxRecDepth 100000 in
/-- the digits' text, at a place below 16 -/
theorem run_dig (k : Int) (h0 : 0 ≤ k) (h1 : k < 16) (w : World) : (Instr.index 9 (.string ⟨#[48, 49, 50, 51, 52, 53, 54, 55, 56, 57, 97, 98, 99, 100, 101, 102, 103, 104, 105, 106, 107, 108, 109, 110, 111, 112, 113, 114, 115, 116, 117, 118, 119, 120, 121, 122]⟩) (.int .u64 k)).run Tryd.prog w = .ok (.int .u8 (dg k)) w := by
  rw [run_index_string (h := Tryd.underlying9)]
  have : k = 0 ∨ k = 1 ∨ k = 2 ∨ k = 3 ∨ k = 4 ∨ k = 5 ∨ k = 6 ∨ k = 7 ∨ k = 8 ∨ k = 9 ∨ k = 10 ∨ k = 11 ∨ k = 12 ∨ k = 13 ∨ k = 14 ∨ k = 15 := by omega
  rcases this with rfl | rfl | rfl | rfl | rfl | rfl | rfl | rfl | rfl | rfl | rfl | rfl | rfl | rfl | rfl | rfl <;> rfl

theorem w_tz64 (w : World) (hT : Tab w) : Calls Tryd.prog 100 #[.int .u64 16] w fun e w' => e = .returned (.int .i64 4) ∧ w' = w := by
  obtain ⟨-, h⟩ := hT
  have e1 : bits .and .u64 16 (IntKind.u64.wrap (-16)) = 16 := by decide +kernel
  have e2 : IntKind.u64.wrap (16 * 285870213051353865) = 4573923408821661840 := by decide +kernel
  go_enter Tryd.func100, Tryd.ntmps100
  go_wp2_with fail
  go_ret
  exact ⟨rfl, rfl⟩

theorem w_tz (w : World) (hT : Tab w) : Calls Tryd.prog 95 #[.int .u64 16] w fun e w' => e = .returned (.int .i64 4) ∧ w' = w := by
  go_enter Tryd.func95, Tryd.ntmps95
  go_wp2_with (go_at_call 100; refine (w_tz64 _ hT).mono ?_; rintro e w1 ⟨rfl, rfl⟩)
  go_ret
  exact ⟨rfl, rfl⟩

theorem w_pow2 (w : World) : Calls Tryd.prog 94 #[.int .i64 16] w fun e w' => e = .returned (.bool true) ∧ w' = w := by
  go_enter Tryd.func94, Tryd.ntmps94
  go_wp2_with fail
  go_ret
  exact ⟨rfl, rfl⟩

theorem and15 (m : Int) (h0 : 0 ≤ m) (h1 : m < 4294967296) : bits .and .u64 m 15 = m % 16 := by
  rw [u64_and m 15 h0 (by omega) (by decide) (by decide)]
  have := Nat.and_two_pow_sub_one_eq_mod m.toNat 4
  rw [show (15 : Int).toNat = 2 ^ 4 - 1 by decide, this]
  omega
theorem rd_lain (w : World) (c : Array Value) (p : Nat) (D : List Int) (h : Lain c p D) (h0 : 0 < D.length) (T : TypeId) : Rd .u8 (w.alloc (.cells c T)) (.slice (some ⟨w.heap.size, p, none⟩) (65 - p) (65 - p)) D := by
  obtain ⟨h1, h2, h3⟩ := h
  refine Or.inr ⟨w.heap.size, p, 65 - p, by rw [show D.length = 65 - p by omega], h0, by omega, by unfold maxLen; omega, fun i hi => ?_⟩
  rw [World.cell?_alloc_new]
  exact h3 i hi

set_option maxHeartbeats 4000000 in
set_option maxRecDepth 100000 in
theorem w_fbits (v : Value) (ys : List Int) (n : Int) (B : Nat) (w : World) (hT : Tab w) (hO : w.ownsRow B 5 1 v ys.length (ys.map (Value.int .u8))) (hB : B ≤ w.heap.size) (n0 : 0 ≤ n) (n1 : n < 4294967296) (hz : ys.length + 8 ≤ 140737488355328) :
    Calls Tryd.prog 84 #[v, .int .u64 n, .int .i64 16, .bool false, .bool true] w fun e w' => ∃ v', e = .returned (.tuple #[v', .string ⟨#[]⟩]) ∧ w'.ownsRow B 5 1 v' (ys ++ sh 16 n).length ((ys ++ sh 16 n).map (Value.int .u8)) ∧ Below B w w' := by
  obtain ⟨i0, hi, hz0, hz1, hz2⟩ := info_parts infoU8
  go_enter Tryd.func84, Tryd.ntmps84
  go_wp2_with (first
    | (go_at_call 94; refine (w_pow2 _).mono ?_; rintro e w1 ⟨rfl, rfl⟩)
    | (go_at_call 95; refine (w_tz _ (hT.below (box_below _ _))).mono ?_; rintro e w2 ⟨rfl, rfl⟩))
  go_loopw [1, 13] (fun U I wx => ∃ (q : Nat) (m : Int) (c : Array Value) (D : List Int), (q : Int) ≤ 7 ∧ U = .int .u64 m ∧ I = .int .i64 ((q : Int) + 58) ∧ 0 ≤ m ∧ m < 4294967296 ∧ Hid (m < 16 ^ (q + 1)) ∧ Hid (sh 16 n = shF 16 (q + 24 + 1) m ++ D) ∧ Hid (Lain c (q + 58) D) ∧ wx = w.alloc (.cells c 121)) (fun _ I _ => (intOf I).toNat)
  case atStart => exact ⟨7, n, _, [], by omega, rfl, rfl, n0, n1, by show _ < _; simpa using n1, by show _ = _; simp [sh], lain0 _ (by kernel_rfl), rfl⟩
  case round =>
    obtain ⟨q, m, c, D, hq, rfl, rfl, m0, m1, hm, hsh, hL, hwx⟩ := hrel
    subst hwx
    have hand := and15 m m0 m1
    by_cases hmb : m < 16
    · have hfin : Hid (sh 16 n = dg m :: D) := by show _ = _; rw [hsh.out, shF_lo 16 m (q + 24) hmb]; rfl
      have hdg := run_dig m m0 hmb
      have hcut := run_cutB w.heap.size (q + 57) (by omega)
      rw [show ((q + 57 : Nat) : Int) = (q : Int) + 58 - 1 by omega] at hcut
      obtain ⟨v0, hcp⟩ : ∃ v, c[q + 57]? = some v := ⟨_, Array.getElem?_eq_getElem (by rw [hL.out.1]; omega)⟩
      have hL2 := hid (lain_step c (q + 57) D hL.out (dg m))
      have hDl : Hid ((dg m :: D).length ≤ 8) := by show _ ≤ _; have := hL.out.2.1; simp; omega
      have hr := hid (rd_lain w _ _ _ hL2.out (by simp) 121)
      have hO2 := World.ownsRow.alloc hO (.cells (c.setIfInBounds (q + 57) (.int .u8 (dg m))) 121)
      clear hm hsh hL hand
      obtain ⟨R, hR⟩ : ∃ R, 65 - (q + 57) = R := ⟨_, rfl⟩
      rw [hR] at hr
      simp only [hR] at hcut
      clear hR
      obtain ⟨E, hE⟩ : ∃ E, dg m :: D = E := ⟨_, rfl⟩
      rw [hE] at hfin hDl hr
      have hel := hDl.out
      clear hE hDl hL2
      go_wp2_with (at_builtin; refine wpList_append_rd (k := .u8) rfl _ _ 51 rfl B 5 i0 1 Tryd.underlying51 hi hz0 hz1 hz2 v ys rfl hO2 _ E rfl hr.out (by unfold maxLen; omega) (by omega) (Nat.le_trans hB (box_below w _).size) ?_; intro v5 w5 ho5 hg5)
      go_ret2
      exact ⟨v5, rfl, by rw [← hfin.out] at ho5; simpa using ho5, ((Below.refl _ w).alloc hB _).grown hg5 (Nat.le_trans hB (box_below w _).size) (fun k hk => (hO2.lt k hk).1)⟩
    · have hpp : 0 < q := by
        rcases Nat.eq_zero_or_pos q with h | h
        · exfalso; have := hm.out; rw [h] at this; simp at this; omega
        · exact h
      obtain ⟨r, rfl⟩ : ∃ r, q = r + 1 := ⟨q - 1, by omega⟩
      have hdg := run_dig (m % 16) (by omega) (by omega)
      obtain ⟨v0, hcp⟩ : ∃ v, c[r + 58]? = some v := ⟨_, Array.getElem?_eq_getElem (by rw [hL.out.1]; omega)⟩
      have hm2 : Hid (m / 16 < 16 ^ (r + 1)) := by
        show _ < _
        have := hm.out
        rw [Int.pow_succ] at this
        omega
      have hs2 : Hid (sh 16 n = shF 16 (r + 24 + 1) (m / 16) ++ dg (m % 16) :: D) := by
        show _ = _
        rw [hsh.out, shF_hi 16 m (r + 1 + 24) hmb, show r + 1 + 24 = r + 24 + 1 by omega]
        simp
      have hL2 := hid (lain_step c (r + 58) D hL.out (dg (m % 16)))
      clear hm hsh hL
      go_wp2_with fail
      go_roundw
      case rel => exact ⟨r, m / 16, _, dg (m % 16) :: D, by omega, rfl, by go_num, by omega, by omega, hm2, hs2, hL2, rfl⟩
      case measure => simp [intOf]; omega

set_option maxHeartbeats 1000000 in
theorem w_iapp (v : Value) (ys : List Int) (n : Int) (B : Nat) (w : World) (hT : Tab w) (hO : w.ownsRow B 5 1 v ys.length (ys.map (Value.int .u8))) (hB : B ≤ w.heap.size) (n0 : 0 ≤ n) (n1 : n < 4294967296) (hz : ys.length + 8 ≤ 140737488355328) :
    Calls Tryd.prog 74 #[v, .int .u64 n, .int .i64 16] w fun e w' => ∃ v', e = .returned v' ∧ w'.ownsRow B 5 1 v' (ys ++ sh 16 n).length ((ys ++ sh 16 n).map (Value.int .u8)) ∧ Below B w w' := by
  go_enter Tryd.func74, Tryd.ntmps74
  go_wp2_with (go_at_call 84; refine (w_fbits v ys n B _ hT hO hB n0 n1 hz).mono ?_; rintro e w1 ⟨v1, rfl, h1, h2⟩)
  go_ret
  exact ⟨v1, rfl, h1, h2⟩

set_option maxHeartbeats 1000000 in
theorem w_sapp (v : Value) (ys : List Int) (n : Int) (B : Nat) (w : World) (hT : Tab w) (hO : w.ownsRow B 5 1 v ys.length (ys.map (Value.int .u8))) (hB : B ≤ w.heap.size) (n0 : 0 ≤ n) (n1 : n < 4294967296) (hz : ys.length + 8 ≤ 140737488355328) :
    Calls Tryd.prog 61 #[v, .int .u64 n, .int .i64 16] w fun e w' => ∃ v', e = .returned v' ∧ w'.ownsRow B 5 1 v' (ys ++ sh 16 n).length ((ys ++ sh 16 n).map (Value.int .u8)) ∧ Below B w w' := by
  go_enter Tryd.func61, Tryd.ntmps61
  go_wp2_with (go_at_call 74; refine (w_iapp v ys n B _ hT hO hB n0 n1 hz).mono ?_; rintro e w1 ⟨v1, rfl, h1, h2⟩)
  go_ret
  exact ⟨v1, rfl, h1, h2⟩
end Go.Proofs.YtmjgiaomijghoaaDoor
