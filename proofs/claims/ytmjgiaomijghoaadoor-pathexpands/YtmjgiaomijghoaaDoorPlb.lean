/-
  The library's functions that package prop leans on, as plain functions of lists of numbers: IndexByte, Clone, Cut at a comma.
-/
import Derived.Test.YtmjgiaomijghoaaDoorRp4
import Derived.Lib.Bytealg
import Derived.Lib.BytesEntry
import Derived.Lib.ConvBytes
import Derived.Lib.AtoiErrMem
import Derived.Lib.Slices
import Derived.Laws.Externs
namespace Go.Proofs.YtmjgiaomijghoaaDoor
open Go.ChangeShapes Go.WideShapes Go.ChangeAt Go.RowKit
set_option linter.unusedVariables false
set_option linter.unusedSimpArgs false

/-- where c stands first: -1, or the place -/
def AtB (l : List Int) (c i : Int) : Prop := (i = -1 ∧ ∀ x ∈ l, ¬ x = c) ∨ ∃ k : Nat, i = k ∧ k < l.length ∧ l = l.take k ++ c :: l.drop (k + 1) ∧ ∀ x ∈ l.take k, ¬ x = c
theorem atB_index (u : UInt8) : ∀ l : List UInt8, AtB (l.map fun c => (c.toNat : Int)) u.toNat (Lib.indexByte l u)
  | [] => Or.inl ⟨rfl, fun x hx => by simp at hx⟩
  | b :: l => by
    unfold Lib.indexByte
    by_cases hb : b = u
    · subst hb
      simp only [beq_self_eq_true, if_true]
      exact Or.inr ⟨0, rfl, by simp, by simp, fun x hx => by simp at hx⟩
    · have hne : (b == u) = false := by simpa using hb
      have hni : ¬ (b.toNat : Int) = u.toNat := by
        intro h
        exact hb (UInt8.toNat_inj.1 (by omega))
      rw [hne]
      simp only [Bool.false_eq_true, if_false]
      rcases atB_index u l with ⟨h1, h2⟩ | ⟨k, h1, h2, h3, h4⟩
      · rw [h1]
        refine Or.inl ⟨rfl, fun x hx => ?_⟩
        simp only [List.map_cons, List.mem_cons] at hx
        rcases hx with rfl | hx
        · exact hni
        · exact h2 x hx
      · rw [h1]
        have : ((k : Int) == -1) = false := by rw [beq_eq_false_iff_ne]; omega
        rw [this]
        simp only [Bool.false_eq_true, if_false]
        refine Or.inr ⟨k + 1, by simp, by simp only [List.map_cons, List.length_cons]; omega, ?_, fun x hx => ?_⟩
        · simp only [List.map_cons, List.take_succ_cons, List.drop_succ_cons, List.cons_append]
          rw [← h3]
        · simp only [List.map_cons, List.take_succ_cons, List.mem_cons] at hx
          rcases hx with rfl | hx
          · exact hni
          · exact h4 x hx
theorem byte_of {c : Int} (h0 : 0 ≤ c) (h1 : c < 256) : ((c.toNat.toUInt8).toNat : Int) = c := by
  rw [UInt8.toNat_ofNat']
  omega
theorem bytes_map {xs : List Int} (hB : bytesL xs) : (Lib.bytesOf xs).map (fun c => (c.toNat : Int)) = xs := by
  unfold Lib.bytesOf
  rw [List.map_map]
  conv => rhs; rw [← List.map_id xs]
  apply List.map_congr_left
  intro x hx
  have := hB x hx
  simp only [Function.comp, id]
  exact byte_of this.1 this.2

set_option maxHeartbeats 1000000 in
set_option maxRecDepth 100000 in
theorem w_slib (s : ByteArray) (c : Int) (w : World) (h0 : 0 ≤ c) (h1 : c < 256) :
    Calls Tryd.prog 67 #[.string s, .int .u8 c] w fun e w' => ∃ i, e = .returned (.int .i64 i) ∧ AtB (L s) c i ∧ w' = w := by
  go_enter Tryd.func67, Tryd.ntmps67
  go_wp2
  rw [run_callFunc_extern Tryd.func75 (by kernel_rfl) (by kernel_rfl) (by kernel_rfl) (e := Extern.BytealgIndexByte.indexByte) (by kernel_rfl), Lib.run_indexByteString]
  simp only [Result.andThen]
  rw [Oper.upon_value]
  go_wp2
  go_ret
  refine ⟨_, rfl, ?_, rfl⟩
  have := atB_index c.toNat.toUInt8 s.data.toList
  rw [byte_of h0 h1] at this
  exact this

set_option maxHeartbeats 1000000 in
set_option maxRecDepth 100000 in
theorem w_sib (s : ByteArray) (c : Int) (w : World) (h0 : 0 ≤ c) (h1 : c < 256) :
    Calls Tryd.prog 62 #[.string s, .int .u8 c] w fun e w' => ∃ i, e = .returned (.int .i64 i) ∧ AtB (L s) c i ∧ w' = w := by
  go_enter Tryd.func62, Tryd.ntmps62
  go_wp2_with (go_at_call 67; refine (w_slib s c _ h0 h1).mono ?_; rintro e w1 ⟨i, rfl, hi, rfl⟩)
  go_ret
  exact ⟨i, rfl, hi, rfl⟩

theorem bib_run (v : Value) (xs : List Int) (c : Int) (w : World) (h : Rd .u8 w v xs) (hB : bytesL xs) (h0 : 0 ≤ c) (h1 : c < 256) : ∃ i, AtB xs c i ∧ (Extern.BytealgIndexByte.indexByte #[v, .int .u8 c]).run Tryd.prog w = .ok (.int .i64 i) w := by
  rcases h with ⟨ao, cap, rfl, hn, rfl⟩ | ⟨b, off, cap, rfl, hp, hc1, hc2, hc⟩
  · refine ⟨-1, Or.inl ⟨rfl, fun x hx => by simp at hx⟩, ?_⟩
    cases ao with
    | none => exact Lib.run_indexByteNil (P := Tryd.prog) (w := w) 0 cap c
    | some a => exact Lib.run_indexByteString (P := Tryd.prog) .empty c w
  · refine ⟨Lib.indexByte (Lib.bytesOf xs) c.toNat.toUInt8, ?_, Lib.run_indexByteSlice w b off xs.length cap xs rfl hc c⟩
    have := atB_index c.toNat.toUInt8 (Lib.bytesOf xs)
    rw [byte_of h0 h1, bytes_map hB] at this
    exact this

set_option maxHeartbeats 1000000 in
set_option maxRecDepth 100000 in
theorem w_slix (s : ByteArray) (w : World) :
    Calls Tryd.prog 53 #[.string s, .string ⟨#[44]⟩] w fun e w' => ∃ i, e = .returned (.int .i64 i) ∧ AtB (L s) 44 i ∧ w' = w := by
  go_enter Tryd.func53, Tryd.ntmps53
  go_wp2_with (go_at_call 67; refine (w_slib s 44 _ (by decide) (by decide)).mono ?_; rintro e w1 ⟨i, rfl, hi, rfl⟩)
  · have h : ([44] == s.toList) = true := by assumption
    go_ret
    have e : s.data.toList = [44] := by rw [← ByteArray.toList_eq]; exact (beq_iff_eq.1 h).symm
    refine ⟨_, rfl, Or.inr ⟨0, rfl, ?_, ?_, fun x hx => by simp at hx⟩, rfl⟩
    · simp [L, e]
    · simp [L, e]
  · go_ret
    exact ⟨i, rfl, hi, rfl⟩

/-- what Cut at a comma answers -/
def CutC (l : List Int) (A B : ByteArray) (f : Bool) : Prop := (f = false ∧ L A = l ∧ ∀ x ∈ l, ¬ x = 44) ∨ (f = true ∧ l = L A ++ 44 :: L B ∧ ∀ x ∈ L A, ¬ x = 44)
set_option maxHeartbeats 1000000 in
set_option maxRecDepth 100000 in
theorem w_slcut (s : ByteArray) (w : World) (hs : s.size ≤ maxLen) :
    Calls Tryd.prog 56 #[.string s, .string ⟨#[44]⟩] w fun e w' => ∃ A B f, e = .returned (.tuple #[.string A, .string B, .bool f]) ∧ CutC (L s) A B f ∧ Below w.heap.size w w' := by
  unfold maxLen at hs
  go_enter Tryd.func56, Tryd.ntmps56
  go_wp2_with (go_at_call 53; refine (w_slix s _).mono ?_; rintro e w1 ⟨i, rfl, hi, rfl⟩; refine Hid.out ?_)
  rcases hi with ⟨rfl, h2⟩ | ⟨k, rfl, h2, h3, h4⟩
  · refine hid ?_
    have H2 := hid h2
    clear h2
    go_wp2_with fail
    go_ret3
    exact ⟨s, _, false, rfl, Or.inl ⟨rfl, rfl, H2.out⟩, Below.refl _ _⟩
  · refine hid ?_
    rw [L_len] at h2
    have H3 := hid h3
    have H4 := hid h4
    clear h3 h4
    have c1 : (0 : Int) ≤ k := by omega
    have c2 : (k : Int) ≤ s.size := by omega
    have c3 : (0 : Int) ≤ (k : Int) + 1 := by omega
    have c4 : (k : Int) + 1 ≤ s.size := by omega
    go_wp2_with fail
    go_quiet (fail)
    go_wp2_with fail
    go_ret3
    refine ⟨_, _, true, rfl, Or.inr ⟨rfl, ?_, ?_⟩, below_drewN (Below.refl _ _) _⟩
    · rw [L_extract s 0 k (by omega), L_from]
      simpa using H3.out
    · rw [L_extract s 0 k (by omega)]
      simpa using H4.out

set_option maxHeartbeats 1000000 in
set_option maxRecDepth 100000 in
theorem w_cut (s : ByteArray) (w : World) (hs : s.size ≤ maxLen) :
    Calls Tryd.prog 38 #[.string s, .string ⟨#[44]⟩] w fun e w' => ∃ A B f, e = .returned (.tuple #[.string A, .string B, .bool f]) ∧ CutC (L s) A B f ∧ Below w.heap.size w w' := by
  go_enter Tryd.func38, Tryd.ntmps38
  go_wp2_with (go_at_call 56; refine (w_slcut s _ hs).mono ?_; rintro e w1 ⟨A, B, f, rfl, h1, h2⟩)
  go_ret3
  exact ⟨A, B, f, rfl, h1, h2⟩
end Go.Proofs.YtmjgiaomijghoaaDoor
