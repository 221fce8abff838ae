/-
  signedText, Show and Signed of the program's package digit return the plain functions, for all numbers and bases.
-/
import Derived.Test.YtaiimfdcbdfbdaaDoorDt1
import Derived.Laws.BytesArg
import Derived.Test.YtaiimfdcbdfbdaaDoorRsh
namespace Go.Proofs.YtaiimfdcbdfbdaaDoor
open Go.ChangeShapes Go.WideShapes Go.ChangeAt Go.RowKit
set_option linter.unusedVariables false
set_option linter.unusedSimpArgs false

theorem w_letter (v : Int) (w : World) (h0 : 0 ≤ v) (h1 : v < 36) : Calls Tryd.prog 68 #[.int .u32 v] w fun e w' => e = .returned (.int .u8 (dg v)) ∧ w' = w := by
  go_enter Tryd.func68, Tryd.ntmps68
  go_wp2
  all_goals go_ret
  all_goals exact ⟨ret_i (by unfold dg; omega), rfl⟩

/-- the digits laid so far stand at the row's end -/
def Laid (c : Array Value) (p : Nat) (D : List Int) : Prop := c.size = 32 ∧ p + 1 + D.length = 32 ∧ ∀ j, j < D.length → c[p + 1 + j]? = some (.int .u8 (D.getD j 0))
theorem laid0 (c : Array Value) (h : c.size = 32) : Laid c 31 [] := ⟨h, rfl, fun j hj => by simp at hj⟩
theorem laid_step (c : Array Value) (p : Nat) (D : List Int) (h : Laid c (p + 1) D) (x : Int) : Laid (c.setIfInBounds (p + 1) (.int .u8 x)) p (x :: D) := by
  obtain ⟨h1, h2, h3⟩ := h
  refine ⟨by simpa using h1, by simp; omega, fun j hj => ?_⟩
  rw [Array.getElem?_setIfInBounds]
  cases j with
  | zero => rw [if_pos (by rfl), if_pos (by omega)]; rfl
  | succ j =>
    have hj' : j < D.length := by simpa using hj
    rw [if_neg (by omega)]
    have := h3 j hj'
    rw [show p + 1 + (j + 1) = p + 1 + 1 + j by omega, this]
    simp
theorem laid_last (c : Array Value) (p : Nat) (D : List Int) (h : Laid c p D) (x : Int) : ∀ j, j < (x :: D).length → (c.setIfInBounds p (.int .u8 x))[p + j]? = some (.int .u8 ((x :: D).getD j 0)) := by
  obtain ⟨h1, h2, h3⟩ := h
  intro j hj
  rw [Array.getElem?_setIfInBounds]
  cases j with
  | zero => rw [if_pos (by rfl), if_pos (by omega)]; rfl
  | succ j =>
    have hj' : j < D.length := by simpa using hj
    rw [if_neg (by omega)]
    have := h3 j hj'
    rw [show p + (j + 1) = p + 1 + j by omega, this]
    simp

theorem run_cutA (B p : Nat) (hp : (p : Int) ≤ 31) (w : World) : (Instr.sliceAt 89 (.pointer (some ⟨B, 0, none⟩)) (some (.int .i64 (p : Int))) none none).run Tryd.prog w = .ok (.slice (some ⟨B, p, none⟩) (32 - p) (32 - p)) w := by
  have hu : Tryd.prog.underlying 89 = some (.array (Tryd.prog.arrayLen 89) (Tryd.prog.elem 89)) := by kernel_rfl
  have hl : Tryd.prog.arrayLen 89 = 32 := by kernel_rfl
  have he : Tryd.prog.elem 89 = 5 := by kernel_rfl
  rw [run_sliceAt_array_l w 89 ⟨B, 0, none⟩ hu .i64 (p : Int) (by omega) (by rw [hl]; omega), he, hl, Tryd.sizeOf5]
  have e : ((p : Int)).toNat = p := by omega
  simp only [Result.andThen, slicedAt, e]
  rw [if_neg (by omega)]
  congr 2
  unfold Addr.add
  split
  · rename_i h; simp at h; subst h; rfl
  · simp
theorem run_bytesA (B p : Nat) (w : World) (xs : List Int) (hlen : p + xs.length = 32) (hc : ∀ j, j < xs.length → w.cell? ⟨B, p + j, none⟩ = some (.int .u8 (xs.getD j 0))) :
    (convert 39 9 (.slice (some ⟨B, p, none⟩) (32 - p) (32 - p))).run Tryd.prog w = .ok (.string (toB xs)) w := by
  rw [show 32 - p = xs.length by omega]
  exact run_convert_bytes_arg w 39 5 Tryd.underlying39 Tryd.underlying5 B p xs.length xs.length xs rfl hc 9 Tryd.underlying9

set_option maxHeartbeats 1000000 in
theorem w_stext (g : ByteArray) (n b : Int) (w : World) (h0 : 0 ≤ n) (h1 : n < 4294967296) (b0 : 2 ≤ b) (b1 : b ≤ 36) (hg : g.size ≤ 1) :
    Calls Tryd.prog 59 #[.string g, .int .u32 n, .int .u32 b] w fun e w' => e = .returned (.string (g ++ toB (sh b n))) ∧ Gr w w' := by
  go_enter Tryd.func59, Tryd.ntmps59
  go_wp2_with fail
  go_loopw [1, 8, 9] (fun M F I wx => ∃ (p : Nat) (m : Int) (c : Array Value) (D : List Int), (p : Int) ≤ 31 ∧ M = .int .u32 m ∧ F = .int .i64 ((p : Int) + 1) ∧ I = .int .i64 (31 - (p : Int)) ∧ 0 ≤ m ∧ m < 4294967296 ∧ Hid (m < 2 ^ (p + 1)) ∧ Hid (sh b n = shF b (p + 1) m ++ D) ∧ Hid (Laid c p D) ∧ wx = w.alloc (.cells c 89)) (fun _ F _ _ => (intOf F).toNat)
  case atStart => exact ⟨31, n, _, [], by omega, rfl, rfl, rfl, h0, h1, by show _ < _; simpa using h1, by show _ = _; simp [sh], laid0 _ rfl, rfl⟩
  case round =>
    obtain ⟨p, m, c, D, hp, rfl, rfl, rfl, m0, m1, hm, hsh, hL, hwx⟩ := hrel
    subst hwx
    obtain ⟨q0, q1, r0, r1⟩ := div_half m b m0 b0
    obtain ⟨v, hcp⟩ : ∃ v, c[p]? = some v := ⟨_, Array.getElem?_eq_getElem (by rw [hL.out.1]; omega)⟩
    by_cases hmb : m < b
    · have hz : (m / b == 0) = true := by rw [Int.ediv_eq_zero_of_lt m0 hmb]; rfl
      have hr : m % b = m := Int.emod_eq_of_lt m0 hmb
      have hfin : Hid (sh b n = dg m :: D) := by show _ = _; rw [hsh.out, shF_lo b m p hmb]; rfl
      have hcut := run_cutA w.heap.size p hp
      have hbyt := run_bytesA w.heap.size p (w.alloc (.cells (c.setIfInBounds p (.int .u8 (dg m))) 89)) (dg m :: D) (by have := hL.out.2.1; simp; omega) (fun j hj => by
        rw [World.cell?_alloc_new]; exact laid_last c p D hL.out (dg m) j hj)
      have hsz : ¬ 9223372036854775807 < g.size + (toB (dg m :: D)).size := by have := hL.out.2.1; rw [toB_size]; simp; omega
      clear q1
      go_wp2_with (first | (go_at_call 68; refine (w_letter _ _ (by omega) (by omega)).mono ?_; rintro e w1 ⟨rfl, rfl⟩))
      go_ret
      exact ⟨by rw [hfin.out]; rfl, (Gr.refl w).alloc _ _⟩
    · have hz : (m / b == 0) = false := by have := div_pos m b b0 hmb; exact beq_eq_false_iff_ne.2 (by omega)
      have hpp : 0 < p := by
        rcases Nat.eq_zero_or_pos p with h | h
        · exfalso; have := hm.out; rw [h] at this; simp at this; omega
        · exact h
      obtain ⟨q, rfl⟩ : ∃ q, p = q + 1 := ⟨p - 1, by omega⟩
      go_wp2_with (first | (go_at_call 68; refine (w_letter _ _ (by omega) (by omega)).mono ?_; rintro e w1 ⟨rfl, rfl⟩))
      go_roundw
      case rel =>
        refine ⟨q, m / b, _, dg (m % b) :: D, by omega, rfl, by go_num, by congr 1; omega, by omega, by omega, ?_, ?_, laid_step c q D hL.out _, rfl⟩
        · show _ < _
          have := hm.out
          rw [show q + 1 + 1 = (q + 1) + 1 by omega, Int.pow_succ] at this
          omega
        · show _ = _
          rw [hsh.out, shF_hi b m (q + 1) (by omega)]
          simp
      case measure => simp [intOf]; omega

set_option maxHeartbeats 400000 in
theorem w_dshow (n b : Int) (w : World) (n0 : 0 ≤ n) (n1 : n < 4294967296) (g0 : 0 ≤ b) (g1 : b < 4294967296) :
    Calls Tryd.prog 51 #[.int .u32 n, .int .u32 b] w fun e w' => e = .returned (.tuple #[.string (shT n b), .int .i64 (shE b)]) ∧ Gr w w' := by
  cases hf : fitB b
  · have hb : b < 2 ∨ 36 < b := by unfold fitB at hf; simp at hf; omega
    have e1 : shT n b = ⟨#[]⟩ := by unfold shT; rw [if_pos hb]
    have e2 : shE b = 1 := by unfold shE; rw [if_pos hb]
    rw [e1, e2]
    clear hb e1 e2
    go_enter Tryd.func51, Tryd.ntmps51
    go_wp2_with (first | (go_at_call 55; refine (w_fit _ _ g0 g1).mono ?_; rintro e w1 ⟨rfl, rfl⟩))
    go_ret2
    exact ⟨rfl, Gr.refl _⟩
  · have hb : 2 ≤ b ∧ b ≤ 36 := by unfold fitB at hf; simpa using hf
    obtain ⟨b0, b1⟩ := hb
    have e1 : Hid (shT n b = ⟨#[]⟩ ++ toB (sh b n)) := by show _ = _; unfold shT; rw [if_neg (by omega)]; simp [ByteArray.ext_iff]
    have e2 : shE b = 0 := by unfold shE; rw [if_neg (by omega)]
    rw [e2]
    clear e2
    go_enter Tryd.func51, Tryd.ntmps51
    go_wp2_with (first | (go_at_call 55; refine (w_fit _ _ g0 g1).mono ?_; rintro e w1 ⟨rfl, rfl⟩) | (go_at_call 59; refine (w_stext _ _ _ _ n0 n1 b0 b1 (by decide)).mono ?_; rintro e w2 ⟨rfl, hg⟩))
    go_ret2
    exact ⟨ret_si e1.out.symm rfl, hg⟩
end Go.Proofs.YtaiimfdcbdfbdaaDoor
