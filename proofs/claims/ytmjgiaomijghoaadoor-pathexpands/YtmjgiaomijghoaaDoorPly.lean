/-
  strings.IndexRune in a slash and a colon.
-/
import Derived.Test.YtmjgiaomijghoaaDoorPlx
import Derived.Laws.RangeString
import Derived.Laws.RangeAny
import Derived.WalkMore
namespace Go.Proofs.YtmjgiaomijghoaaDoor
open Go.ChangeShapes Go.WideShapes Go.ChangeAt Go.RowKit
set_option linter.unusedVariables false
set_option linter.unusedSimpArgs false

set_option maxHeartbeats 1000000 in
set_option maxRecDepth 100000 in
theorem w_irl (r : Int) (w : World) (h0 : 0 ≤ r) (h1 : r < 128) :
    Calls Tryd.prog 47 #[.string ⟨#[47, 58]⟩, .int .i32 r] w fun e w' => ∃ i, e = .returned (.int .i64 i) ∧ (0 ≤ i ↔ r = 47 ∨ r = 58) ∧ w' = w := by
  have hwr : IntKind.u8.wrap r = r := by rw [IntKind.wrap_u8]; omega
  have ci := fun w => w_sib ⟨#[47, 58]⟩ r w h0 (by omega)
  rw [show L ⟨#[47, 58]⟩ = [47, 58] by decide +kernel] at ci
  go_enter Tryd.func47, Tryd.ntmps47
  go_wp2_with (go_at_call 62; refine (ci _).mono ?_; rintro e w1 ⟨i, rfl, hi, rfl⟩)
  go_ret
  refine ⟨i, rfl, ?_, rfl⟩
  rcases hi with ⟨rfl, h⟩ | ⟨k, rfl, h2, h3, h4⟩
  · have a := h 47 (by simp)
    have b := h 58 (by simp)
    omega
  · have hm : r ∈ ([47, 58] : List Int) := by rw [h3]; simp
    simp at hm
    omega

set_option maxHeartbeats 1000000 in
set_option maxRecDepth 100000 in
theorem w_vru (r : Int) (w : World) : Calls Tryd.prog 63 #[.int .i32 r] w fun e w' => ∃ b, e = .returned (.bool b) ∧ w' = w := by
  go_enter Tryd.func63, Tryd.ntmps63
  go_wp2
  all_goals go_ret
  all_goals first | exact ⟨_, rfl, rfl⟩ | exact ⟨_, rfl⟩ | rfl | exact ⟨Or.inl rfl, rfl⟩ | exact ⟨Or.inr rfl, rfl⟩ | exact Or.inl rfl | exact Or.inr rfl

set_option maxHeartbeats 4000000 in
set_option maxRecDepth 100000 in
theorem w_irh_err (w : World) :
    Calls Tryd.prog 47 #[.string ⟨#[47, 58]⟩, .int .i32 65533] w fun e w' => e = .returned (.int .i64 (-1)) ∧ Below w.heap.size w w' := by
  go_enter Tryd.func47, Tryd.ntmps47
  go_wp2_with fail
  go_loopg [5, 6] 2 (fun g _ _ wx => ∃ i : Nat, i + g = 2 ∧ wx = w.iter ⟨#[47, 58]⟩ i)
  case atStart => exact ⟨0, by omega, rfl⟩
  case round =>
    obtain ⟨i, hig, rfl⟩ := hrel
    cases gk with
    | zero =>
      obtain rfl : i = 2 := by omega
      have hnx := run_next_end (P := Tryd.prog) w ⟨#[47, 58]⟩ 2
      go_wp2
      go_ret
      exact ⟨rfl, (Below.refl _ _).alloc (Nat.le_refl _) _⟩
    | succ g =>
      have hi : i = 0 ∨ i = 1 := by omega
      rcases hi with rfl | rfl
      · have hnx := fun ty => run_next_ascii (P := Tryd.prog) w ⟨#[47, 58]⟩ 0 ty (by decide) (by decide)
        go_wp2
        go_roundg g
        case measure => omega
        case rel => exact ⟨1, by omega, rfl⟩
      · have hnx := fun ty => run_next_ascii (P := Tryd.prog) w ⟨#[47, 58]⟩ 1 ty (by decide) (by decide)
        go_wp2
        go_roundg g
        case measure => omega
        case rel => exact ⟨2, by omega, rfl⟩

set_option maxHeartbeats 4000000 in
set_option maxRecDepth 100000 in
theorem w_irh_two (r : Int) (w : World) (h0 : 128 ≤ r) (h1 : r < 2048) :
    Calls Tryd.prog 47 #[.string ⟨#[47, 58]⟩, .int .i32 r] w fun e w' => e = .returned (.int .i64 (-1)) ∧ Below w.heap.size w w' := by
  have hne : (r == 65533) = false := by rw [beq_eq_false_iff_ne]; omega
  have cv := fun w => w_vru r w
  obtain ⟨b1, b2, henc, hb2⟩ : ∃ b1 b2 : UInt8, Utf8.encode r = ⟨#[b1, b2]⟩ ∧ 128 ≤ b2.toNat := by
    refine ⟨UInt8.ofNat (0xC0 + r.toNat / 64), UInt8.ofNat (0x80 + r.toNat % 64), ?_, ?_⟩
    · unfold Utf8.encode
      have hv : Utf8.valid r = true := by unfold Utf8.valid; simp; omega
      simp only [hv, if_true]
      rw [if_neg (by omega), if_pos (by omega)]
    · simp
      omega
  have hb2i : (58 : Int) ≠ b2.toNat := by omega
  go_enter Tryd.func47, Tryd.ntmps47
  go_wp2_with (go_at_call 63; refine (cv _).mono ?_; rintro e w1 ⟨b, rfl, rfl⟩; refine Hid.out ?_)
  cases b
  · refine hid ?_
    go_wp2_with fail
    go_ret
    exact ⟨rfl, Below.refl _ _⟩
  · refine hid ?_
    go_wp2_with fail
    go_step3
    go_wp2_with fail
    go_rounds 1
    go_wp2_with fail
    go_step3
    go_wp2_with fail
    go_quiet (fail)
    have hcmp : ((((⟨#[47, 58]⟩ : ByteArray)[1]'(by show 1 < 2; decide)).toNat : Int) != (((⟨#[b1, b2]⟩ : ByteArray)[1]'(by show 1 < 2; decide)).toNat : Int)) = true := by
      rw [bne_iff_ne]
      exact hb2i
    have cib : ∀ w, Calls Tryd.prog 62 #[.string (ByteArray.extract ⟨#[47, 58]⟩ 2 2), .int .u8 (((⟨#[b1, b2]⟩ : ByteArray)[1]'(by show 1 < 2; decide)).toNat : Int)] w fun e w' => e = .returned (.int .i64 (-1)) ∧ w' = w := by
      intro w
      refine (w_sib _ _ w (by omega) (by have := UInt8.toNat_lt ((⟨#[b1, b2]⟩ : ByteArray)[1]'(by show 1 < 2; decide)); omega)).mono ?_
      rintro e w' ⟨i, rfl, hi, rfl⟩
      rcases hi with ⟨rfl, _⟩ | ⟨k, rfl, h, _⟩
      · exact ⟨rfl, rfl⟩
      · exfalso
        have : L (ByteArray.extract ⟨#[47, 58]⟩ 2 2) = [] := by decide +kernel
        rw [this] at h
        simp at h
    go_wp2_with fail
    have hw2 : IntKind.i64.wrap 2 = 2 := by decide
    go_region_with (first | (go_at_call 62; refine (cib _).mono ?_; rintro e w2 ⟨rfl, rfl⟩))

    go_wp2_with fail
    simp only [Exit.then, Exit.inBlock, Exit.noGoto]
    go_ret
    exact ⟨rfl, below_drewN (Below.refl _ _) _⟩

theorem enc_big (r : Int) (h0 : 2048 ≤ r) : (Utf8.encode r).size = 3 ∨ (Utf8.encode r).size = 4 := by
  have hc : 2048 ≤ (if Utf8.valid r = true then r.toNat else Utf8.runeError) := by
    split
    · omega
    · unfold Utf8.runeError; omega
  unfold Utf8.encode
  generalize (if Utf8.valid r = true then r.toNat else Utf8.runeError) = c at hc ⊢
  simp only []
  rw [if_neg (by omega), if_neg (by omega)]
  split
  · left; rfl
  · right; rfl

set_option maxHeartbeats 4000000 in
set_option maxRecDepth 100000 in
theorem w_irh_more (r : Int) (w : World) (h0 : 2048 ≤ r) (h1 : r ≤ 2147483647) (h2 : ¬ r = 65533) :
    Calls Tryd.prog 47 #[.string ⟨#[47, 58]⟩, .int .i32 r] w fun e w' => e = .returned (.int .i64 (-1)) ∧ Below w.heap.size w w' := by
  have hne : (r == 65533) = false := by rw [beq_eq_false_iff_ne]; exact h2
  have cv := fun w => w_vru r w
  have hlen : (2 : Int) ≤ ((Utf8.encode r).size : Int) - 1 := by
    rcases enc_big r h0 with h | h <;> rw [h] <;> decide
  have hle4 : ((Utf8.encode r).size : Int) ≤ 4 := by
    rcases enc_big r h0 with h | h <;> rw [h] <;> decide
  obtain ⟨E, hE⟩ : ∃ E, Utf8.encode r = E := ⟨_, rfl⟩
  rw [hE] at hlen hle4
  go_enter Tryd.func47, Tryd.ntmps47
  go_wp2_with (go_at_call 63; refine (cv _).mono ?_; rintro e w1 ⟨b, rfl, rfl⟩; refine Hid.out ?_)
  cases b
  · refine hid ?_
    go_wp2_with fail
    go_ret
    exact ⟨rfl, Below.refl _ _⟩
  · refine hid ?_
    go_wp2_with fail
    go_step3
    go_wp2_with fail
    go_rounds 1
    go_wp2_with fail
    simp only [Exit.then, Exit.inBlock, Exit.noGoto]
    go_ret
    exact ⟨rfl, Below.refl _ _⟩

/-- of a rune that is no ASCII -/
theorem w_irh (r : Int) (w : World) (h0 : 128 ≤ r) (h1 : r ≤ 2147483647) :
    Calls Tryd.prog 47 #[.string ⟨#[47, 58]⟩, .int .i32 r] w fun e w' => e = .returned (.int .i64 (-1)) ∧ Below w.heap.size w w' := by
  by_cases h : r = 65533
  · subst h
    exact w_irh_err w
  · by_cases h2 : r < 2048
    · exact w_irh_two r w h0 h2
    · exact w_irh_more r w (by omega) h1 h

/-- what a rune takes: bytes that are no ASCII, or one -/
theorem dec_cov (s : ByteArray) (pos : Nat) (h : pos < s.size) (ha : 128 ≤ (s[pos]'h).toNat) : pos + (Utf8.decode s pos).2 ≤ s.size ∧ ∀ j, j < (Utf8.decode s pos).2 → 128 ≤ (s.get! (pos + j)).toNat := by
  have h0 : 128 ≤ (s.get! (pos + 0)).toNat := by rw [get_at s pos h]; exact ha
  have one : pos + 1 ≤ s.size ∧ ∀ j, j < 1 → 128 ≤ (s.get! (pos + j)).toNat := by
    refine ⟨h, fun j hj => ?_⟩
    have : j = 0 := by omega
    subst this
    exact h0
  unfold Utf8.decode
  simp only []
  rw [if_neg (by omega)]
  split
  · rename_i h1
    simp only [Bool.and_eq_true, beq_iff_eq, decide_eq_true_eq] at h1
    split
    · refine ⟨by omega, fun j hj => ?_⟩
      have : j = 0 ∨ j = 1 := by simp only [] at hj; omega
      rcases this with rfl | rfl
      · exact h0
      · omega
    · exact one
  · split
    · rename_i h1
      simp only [Bool.and_eq_true, beq_iff_eq, decide_eq_true_eq] at h1
      split
      · refine ⟨by omega, fun j hj => ?_⟩
        have : j = 0 ∨ j = 1 ∨ j = 2 := by simp only [] at hj; omega
        rcases this with rfl | rfl | rfl
        · exact h0
        · omega
        · omega
      · exact one
    · split
      · rename_i h1
        simp only [Bool.and_eq_true, beq_iff_eq, decide_eq_true_eq] at h1
        split
        · refine ⟨by omega, fun j hj => ?_⟩
          have : j = 0 ∨ j = 1 ∨ j = 2 ∨ j = 3 := by simp only [] at hj; omega
          rcases this with rfl | rfl | rfl | rfl
          · exact h0
          · omega
          · omega
          · omega
        · exact one
      · exact one
end Go.Proofs.YtmjgiaomijghoaaDoor
