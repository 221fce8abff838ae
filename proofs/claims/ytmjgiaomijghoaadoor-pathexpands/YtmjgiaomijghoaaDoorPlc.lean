/-
  The library's functions of texts that package path leans on, as plain functions of lists of numbers: Index, Contains, Cut, HasPrefix, CutPrefix at one byte, LastIndex and Count of a slash.
-/
import Derived.Test.YtmjgiaomijghoaaDoorPlb
import Derived.Test.YtmjgiaomijghoaaDoorRa1
import Derived.Lib.Bytealg
import Derived.Lib.Strings
namespace Go.Proofs.YtmjgiaomijghoaaDoor
open Go.ChangeShapes Go.WideShapes Go.ChangeAt Go.RowKit
set_option linter.unusedVariables false
set_option linter.unusedSimpArgs false

/-- what Cut at the byte c answers -/
def CutB (c : Int) (l : List Int) (A B : ByteArray) (f : Bool) : Prop := (f = false ∧ L A = l ∧ L B = [] ∧ ∀ x ∈ l, ¬ x = c) ∨ (f = true ∧ l = L A ++ c :: L B ∧ ∀ x ∈ L A, ¬ x = c)

set_option maxHeartbeats 1000000 in
set_option maxRecDepth 100000 in
theorem w_slix47 (s : ByteArray) (w : World) :
    Calls Tryd.prog 53 #[.string s, .string ⟨#[47]⟩] w fun e w' => ∃ i, e = .returned (.int .i64 i) ∧ AtB (L s) 47 i ∧ w' = w := by
  go_enter Tryd.func53, Tryd.ntmps53
  go_wp2_with (go_at_call 67; refine (w_slib s 47 _ (by decide) (by decide)).mono ?_; rintro e w1 ⟨i, rfl, hi, rfl⟩)
  · have h : ([47] == s.toList) = true := by assumption
    go_ret
    have e : s.data.toList = [47] := by rw [← ByteArray.toList_eq]; exact (beq_iff_eq.1 h).symm
    refine ⟨_, rfl, Or.inr ⟨0, rfl, ?_, ?_, fun x hx => by simp at hx⟩, rfl⟩
    · simp [L, e]
    · simp [L, e]
  · go_ret
    exact ⟨i, rfl, hi, rfl⟩

set_option maxHeartbeats 1000000 in
set_option maxRecDepth 100000 in
theorem w_six47 (s : ByteArray) (w : World) :
    Calls Tryd.prog 35 #[.string s, .string ⟨#[47]⟩] w fun e w' => ∃ i, e = .returned (.int .i64 i) ∧ AtB (L s) 47 i ∧ w' = w := by
  go_enter Tryd.func35, Tryd.ntmps35
  go_wp2_with (go_at_call 53; refine (w_slix47 s _).mono ?_; rintro e w1 ⟨i, rfl, hi, rfl⟩)
  go_ret
  exact ⟨i, rfl, hi, rfl⟩

set_option maxHeartbeats 1000000 in
set_option maxRecDepth 100000 in
theorem w_slix58 (s : ByteArray) (w : World) :
    Calls Tryd.prog 53 #[.string s, .string ⟨#[58]⟩] w fun e w' => ∃ i, e = .returned (.int .i64 i) ∧ AtB (L s) 58 i ∧ w' = w := by
  go_enter Tryd.func53, Tryd.ntmps53
  go_wp2_with (go_at_call 67; refine (w_slib s 58 _ (by decide) (by decide)).mono ?_; rintro e w1 ⟨i, rfl, hi, rfl⟩)
  · have h : ([58] == s.toList) = true := by assumption
    go_ret
    have e : s.data.toList = [58] := by rw [← ByteArray.toList_eq]; exact (beq_iff_eq.1 h).symm
    refine ⟨_, rfl, Or.inr ⟨0, rfl, ?_, ?_, fun x hx => by simp at hx⟩, rfl⟩
    · simp [L, e]
    · simp [L, e]
  · go_ret
    exact ⟨i, rfl, hi, rfl⟩

set_option maxHeartbeats 1000000 in
set_option maxRecDepth 100000 in
theorem w_six58 (s : ByteArray) (w : World) :
    Calls Tryd.prog 35 #[.string s, .string ⟨#[58]⟩] w fun e w' => ∃ i, e = .returned (.int .i64 i) ∧ AtB (L s) 58 i ∧ w' = w := by
  go_enter Tryd.func35, Tryd.ntmps35
  go_wp2_with (go_at_call 53; refine (w_slix58 s _).mono ?_; rintro e w1 ⟨i, rfl, hi, rfl⟩)
  go_ret
  exact ⟨i, rfl, hi, rfl⟩

set_option maxHeartbeats 1000000 in
set_option maxRecDepth 100000 in
theorem w_slix64 (s : ByteArray) (w : World) :
    Calls Tryd.prog 53 #[.string s, .string ⟨#[64]⟩] w fun e w' => ∃ i, e = .returned (.int .i64 i) ∧ AtB (L s) 64 i ∧ w' = w := by
  go_enter Tryd.func53, Tryd.ntmps53
  go_wp2_with (go_at_call 67; refine (w_slib s 64 _ (by decide) (by decide)).mono ?_; rintro e w1 ⟨i, rfl, hi, rfl⟩)
  · have h : ([64] == s.toList) = true := by assumption
    go_ret
    have e : s.data.toList = [64] := by rw [← ByteArray.toList_eq]; exact (beq_iff_eq.1 h).symm
    refine ⟨_, rfl, Or.inr ⟨0, rfl, ?_, ?_, fun x hx => by simp at hx⟩, rfl⟩
    · simp [L, e]
    · simp [L, e]
  · go_ret
    exact ⟨i, rfl, hi, rfl⟩

set_option maxHeartbeats 1000000 in
set_option maxRecDepth 100000 in
theorem w_six64 (s : ByteArray) (w : World) :
    Calls Tryd.prog 35 #[.string s, .string ⟨#[64]⟩] w fun e w' => ∃ i, e = .returned (.int .i64 i) ∧ AtB (L s) 64 i ∧ w' = w := by
  go_enter Tryd.func35, Tryd.ntmps35
  go_wp2_with (go_at_call 53; refine (w_slix64 s _).mono ?_; rintro e w1 ⟨i, rfl, hi, rfl⟩)
  go_ret
  exact ⟨i, rfl, hi, rfl⟩

set_option maxHeartbeats 1000000 in
set_option maxRecDepth 100000 in
theorem w_slcut58 (s : ByteArray) (w : World) (hs : s.size ≤ maxLen) :
    Calls Tryd.prog 56 #[.string s, .string ⟨#[58]⟩] w fun e w' => ∃ A B f, e = .returned (.tuple #[.string A, .string B, .bool f]) ∧ CutB 58 (L s) A B f ∧ Below w.heap.size w w' := by
  unfold maxLen at hs
  go_enter Tryd.func56, Tryd.ntmps56
  go_wp2_with (go_at_call 53; refine (w_slix58 s _).mono ?_; rintro e w1 ⟨i, rfl, hi, rfl⟩; refine Hid.out ?_)
  rcases hi with ⟨rfl, h2⟩ | ⟨k, rfl, h2, h3, h4⟩
  · refine hid ?_
    have H2 := hid h2
    clear h2
    go_wp2_with fail
    go_ret3
    exact ⟨s, _, false, rfl, Or.inl ⟨rfl, rfl, rfl, H2.out⟩, Below.refl _ _⟩
  · refine hid ?_
    rw [L_len] at h2
    have H3 := hid h3
    have H4 := hid h4
    clear h3 h4
    have c1 : (0 : Int) ≤ k := by omega
    have c2 : (k : Int) ≤ s.size := by omega
    have c3 : (0 : Int) ≤ (k : Int) + 1 := by omega
    have c4 : (k : Int) + 1 ≤ s.size := by omega
    go_wp2_with fail
    go_quiet (fail)
    go_wp2_with fail
    go_ret3
    refine ⟨_, _, true, rfl, Or.inr ⟨rfl, ?_, ?_⟩, below_drewN (Below.refl _ _) _⟩
    · rw [L_extract s 0 k (by omega), L_from]
      simpa using H3.out
    · rw [L_extract s 0 k (by omega)]
      simpa using H4.out

set_option maxHeartbeats 1000000 in
set_option maxRecDepth 100000 in
theorem w_cut58 (s : ByteArray) (w : World) (hs : s.size ≤ maxLen) :
    Calls Tryd.prog 38 #[.string s, .string ⟨#[58]⟩] w fun e w' => ∃ A B f, e = .returned (.tuple #[.string A, .string B, .bool f]) ∧ CutB 58 (L s) A B f ∧ Below w.heap.size w w' := by
  go_enter Tryd.func38, Tryd.ntmps38
  go_wp2_with (go_at_call 56; refine (w_slcut58 s _ hs).mono ?_; rintro e w1 ⟨A, B, f, rfl, h1, h2⟩)
  go_ret3
  exact ⟨A, B, f, rfl, h1, h2⟩

set_option maxHeartbeats 1000000 in
set_option maxRecDepth 100000 in
theorem w_slcut64 (s : ByteArray) (w : World) (hs : s.size ≤ maxLen) :
    Calls Tryd.prog 56 #[.string s, .string ⟨#[64]⟩] w fun e w' => ∃ A B f, e = .returned (.tuple #[.string A, .string B, .bool f]) ∧ CutB 64 (L s) A B f ∧ Below w.heap.size w w' := by
  unfold maxLen at hs
  go_enter Tryd.func56, Tryd.ntmps56
  go_wp2_with (go_at_call 53; refine (w_slix64 s _).mono ?_; rintro e w1 ⟨i, rfl, hi, rfl⟩; refine Hid.out ?_)
  rcases hi with ⟨rfl, h2⟩ | ⟨k, rfl, h2, h3, h4⟩
  · refine hid ?_
    have H2 := hid h2
    clear h2
    go_wp2_with fail
    go_ret3
    exact ⟨s, _, false, rfl, Or.inl ⟨rfl, rfl, rfl, H2.out⟩, Below.refl _ _⟩
  · refine hid ?_
    rw [L_len] at h2
    have H3 := hid h3
    have H4 := hid h4
    clear h3 h4
    have c1 : (0 : Int) ≤ k := by omega
    have c2 : (k : Int) ≤ s.size := by omega
    have c3 : (0 : Int) ≤ (k : Int) + 1 := by omega
    have c4 : (k : Int) + 1 ≤ s.size := by omega
    go_wp2_with fail
    go_quiet (fail)
    go_wp2_with fail
    go_ret3
    refine ⟨_, _, true, rfl, Or.inr ⟨rfl, ?_, ?_⟩, below_drewN (Below.refl _ _) _⟩
    · rw [L_extract s 0 k (by omega), L_from]
      simpa using H3.out
    · rw [L_extract s 0 k (by omega)]
      simpa using H4.out

set_option maxHeartbeats 1000000 in
set_option maxRecDepth 100000 in
theorem w_cut64 (s : ByteArray) (w : World) (hs : s.size ≤ maxLen) :
    Calls Tryd.prog 38 #[.string s, .string ⟨#[64]⟩] w fun e w' => ∃ A B f, e = .returned (.tuple #[.string A, .string B, .bool f]) ∧ CutB 64 (L s) A B f ∧ Below w.heap.size w w' := by
  go_enter Tryd.func38, Tryd.ntmps38
  go_wp2_with (go_at_call 56; refine (w_slcut64 s _ hs).mono ?_; rintro e w1 ⟨A, B, f, rfl, h1, h2⟩)
  go_ret3
  exact ⟨A, B, f, rfl, h1, h2⟩

theorem first_is47 (s : ByteArray) (h : 1 ≤ s.size) : ((s.extract 0 1).toList == [47]) = decide ((L s).head? = some 47) := by
  rw [Bool.eq_iff_iff, beq_iff_eq, decide_eq_true_iff]
  rw [ByteArray.toList_eq, ByteArray.data_extract, Array.toList_extract]
  unfold L
  cases hd : s.data.toList with
  | nil => have := Lib.size_eq s; rw [hd, List.length_nil] at this; omega
  | cons a t =>
    simp only [List.extract_eq_take_drop, List.drop_zero, List.map_cons, List.head?_cons, Option.some.injEq]
    simp only [List.take_succ_cons, List.take_zero, List.cons.injEq, and_true]
    constructor
    · rintro rfl; rfl
    · intro h
      exact UInt8.toNat_inj.1 (by
        have : ((47 : UInt8).toNat : Int) = 47 := by decide
        omega)

set_option maxHeartbeats 1000000 in
set_option maxRecDepth 100000 in
theorem w_slhp47 (s : ByteArray) (w : World) (hs : s.size ≤ maxLen) :
    Calls Tryd.prog 46 #[.string s, .string ⟨#[47]⟩] w fun e w' => e = .returned (.bool (decide ((L s).head? = some 47))) ∧ Below w.heap.size w w' := by
  unfold maxLen at hs
  by_cases h0 : s.size = 0
  · have hs : s = ⟨#[]⟩ := by
      apply ByteArray.ext
      exact Array.eq_empty_of_size_eq_zero h0
    subst hs
    go_enter Tryd.func46, Tryd.ntmps46
    go_wp2
    go_ret
    exact ⟨rfl, Below.refl _ _⟩
  · have c1 : (1 : Int) ≤ s.size := by omega
    have e1 := first_is47 s (by omega)
    go_enter Tryd.func46, Tryd.ntmps46
    go_wp2
    go_ret
    refine ⟨?_, Below.refl _ _⟩
    first | rw [← e1]; rfl | (simp only [e1])

set_option maxHeartbeats 1000000 in
set_option maxRecDepth 100000 in
theorem w_hp47 (s : ByteArray) (w : World) (hs : s.size ≤ maxLen) :
    Calls Tryd.prog 31 #[.string s, .string ⟨#[47]⟩] w fun e w' => e = .returned (.bool (decide ((L s).head? = some 47))) ∧ Below w.heap.size w w' := by
  go_enter Tryd.func31, Tryd.ntmps31
  go_wp2_with (go_at_call 46; refine (w_slhp47 s _ hs).mono ?_; rintro e w1 ⟨rfl, hb⟩)
  go_ret
  exact ⟨rfl, hb⟩

theorem first_is58 (s : ByteArray) (h : 1 ≤ s.size) : ((s.extract 0 1).toList == [58]) = decide ((L s).head? = some 58) := by
  rw [Bool.eq_iff_iff, beq_iff_eq, decide_eq_true_iff]
  rw [ByteArray.toList_eq, ByteArray.data_extract, Array.toList_extract]
  unfold L
  cases hd : s.data.toList with
  | nil => have := Lib.size_eq s; rw [hd, List.length_nil] at this; omega
  | cons a t =>
    simp only [List.extract_eq_take_drop, List.drop_zero, List.map_cons, List.head?_cons, Option.some.injEq]
    simp only [List.take_succ_cons, List.take_zero, List.cons.injEq, and_true]
    constructor
    · rintro rfl; rfl
    · intro h
      exact UInt8.toNat_inj.1 (by
        have : ((58 : UInt8).toNat : Int) = 58 := by decide
        omega)

set_option maxHeartbeats 1000000 in
set_option maxRecDepth 100000 in
theorem w_slhp58 (s : ByteArray) (w : World) (hs : s.size ≤ maxLen) :
    Calls Tryd.prog 46 #[.string s, .string ⟨#[58]⟩] w fun e w' => e = .returned (.bool (decide ((L s).head? = some 58))) ∧ Below w.heap.size w w' := by
  unfold maxLen at hs
  by_cases h0 : s.size = 0
  · have hs : s = ⟨#[]⟩ := by
      apply ByteArray.ext
      exact Array.eq_empty_of_size_eq_zero h0
    subst hs
    go_enter Tryd.func46, Tryd.ntmps46
    go_wp2
    go_ret
    exact ⟨rfl, Below.refl _ _⟩
  · have c1 : (1 : Int) ≤ s.size := by omega
    have e1 := first_is58 s (by omega)
    go_enter Tryd.func46, Tryd.ntmps46
    go_wp2
    go_ret
    refine ⟨?_, Below.refl _ _⟩
    first | rw [← e1]; rfl | (simp only [e1])

set_option maxHeartbeats 1000000 in
set_option maxRecDepth 100000 in
theorem w_hp58 (s : ByteArray) (w : World) (hs : s.size ≤ maxLen) :
    Calls Tryd.prog 31 #[.string s, .string ⟨#[58]⟩] w fun e w' => e = .returned (.bool (decide ((L s).head? = some 58))) ∧ Below w.heap.size w w' := by
  go_enter Tryd.func31, Tryd.ntmps31
  go_wp2_with (go_at_call 46; refine (w_slhp58 s _ hs).mono ?_; rintro e w1 ⟨rfl, hb⟩)
  go_ret
  exact ⟨rfl, hb⟩

set_option maxHeartbeats 1000000 in
set_option maxRecDepth 100000 in
theorem w_cont47 (s : ByteArray) (w : World) :
    Calls Tryd.prog 42 #[.string s, .string ⟨#[47]⟩] w fun e w' => e = .returned (.bool (!((L s).all (fun c => decide (¬ c = 47))))) ∧ w' = w := by
  go_enter Tryd.func42, Tryd.ntmps42
  go_wp2_with (go_at_call 35; refine (w_six47 s _).mono ?_; rintro e w1 ⟨i, rfl, hi, rfl⟩)
  go_ret
  refine ⟨?_, rfl⟩
  rcases hi with ⟨rfl, h2⟩ | ⟨k, rfl, h2, h3, h4⟩
  · have : (L s).all (fun c => decide (¬ c = 47)) = true := List.all_eq_true.2 fun x hx => decide_eq_true (h2 x hx)
    rw [this]; rfl
  · have : (L s).all (fun c => decide (¬ c = 47)) = false := by
      rw [h3]; simp
    rw [this]
    have : decide ((k : Int) ≥ 0) = true := decide_eq_true (by omega)
    first | rw [this]; rfl | simp

set_option maxHeartbeats 1000000 in
set_option maxRecDepth 100000 in
theorem w_slcp47 (s : ByteArray) (w : World) (hs : s.size ≤ maxLen) :
    Calls Tryd.prog 36 #[.string s, .string ⟨#[47]⟩] w fun e w' => ∃ A, e = .returned (.tuple #[.string A, .bool (decide ((L s).head? = some 47))]) ∧ ((L s).head? = some 47 → L A = (L s).drop 1) ∧ Below w.heap.size w w' := by
  unfold maxLen at hs
  by_cases hd : (L s).head? = some 47
  · have h1 : 1 ≤ s.size := by
      cases hl : L s with
      | nil => rw [hl] at hd; simp at hd
      | cons a t => rw [← L_len s, hl]; simp
    have c1 : (1 : Int) ≤ s.size := by omega
    have ed : decide ((L s).head? = some 47) = true := decide_eq_true hd
    go_enter Tryd.func36, Tryd.ntmps36
    go_wp2_with (go_at_call 46; refine (w_slhp47 s _ (by unfold maxLen; omega)).mono ?_; rintro e w1 ⟨rfl, hb⟩; rw [ed])
    go_ret2
    refine ⟨_, by rw [ed]; rfl, fun _ => ?_, hb⟩
    first | exact L_from s 1 | simpa using L_from s 1
  · have ed : decide ((L s).head? = some 47) = false := decide_eq_false hd
    go_enter Tryd.func36, Tryd.ntmps36
    go_wp2_with (go_at_call 46; refine (w_slhp47 s _ (by unfold maxLen; omega)).mono ?_; rintro e w1 ⟨rfl, hb⟩; rw [ed])
    go_ret2
    exact ⟨s, by rw [ed]; rfl, fun h => absurd h hd, hb⟩

set_option maxHeartbeats 1000000 in
set_option maxRecDepth 100000 in
theorem w_cp47 (s : ByteArray) (w : World) (hs : s.size ≤ maxLen) :
    Calls Tryd.prog 18 #[.string s, .string ⟨#[47]⟩] w fun e w' => ∃ A, e = .returned (.tuple #[.string A, .bool (decide ((L s).head? = some 47))]) ∧ ((L s).head? = some 47 → L A = (L s).drop 1) ∧ Below w.heap.size w w' := by
  go_enter Tryd.func18, Tryd.ntmps18
  go_wp2_with (go_at_call 36; refine (w_slcp47 s _ hs).mono ?_; rintro e w1 ⟨A, rfl, h1, h2⟩)
  go_ret2
  exact ⟨A, rfl, h1, h2⟩

set_option maxHeartbeats 1000000 in
set_option maxRecDepth 100000 in
theorem w_cnt47 (s : ByteArray) (w : World) :
    Calls Tryd.prog 55 #[.string s, .string ⟨#[47]⟩] w fun e w' => e = .returned (.int .i64 (s.data.toList.count 47)) ∧ w' = w := by
  go_enter Tryd.func55, Tryd.ntmps55
  go_wp2
  rw [run_callFunc_extern Tryd.func71 (by kernel_rfl) (by kernel_rfl) (by kernel_rfl) (e := Extern.BytealgCount.count) (by kernel_rfl), Lib.run_countString]
  simp only [Result.andThen]
  rw [Oper.upon_value]
  go_wp2
  go_ret
  exact ⟨rfl, rfl⟩

/-- where c stands last: -1, or the place -/
def LastB (l : List Int) (c i : Int) : Prop := (i = -1 ∧ ∀ x ∈ l, ¬ x = c) ∨ ∃ k : Nat, i = k ∧ k < l.length ∧ l = l.take k ++ c :: l.drop (k + 1) ∧ ∀ x ∈ l.drop (k + 1), ¬ x = c
end Go.Proofs.YtmjgiaomijghoaaDoor
