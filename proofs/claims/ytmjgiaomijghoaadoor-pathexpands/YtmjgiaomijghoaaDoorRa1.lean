/-
  Place and Tail of the document's answer for paths.
-/
import Derived.Test.YtmjgiaomijghoaaDoorPpa
import Derived.Test.YtmjgiaomijghoaaDoorRp5
namespace Go.Proofs.YtmjgiaomijghoaaDoor
open Go.ChangeShapes Go.WideShapes Go.ChangeAt Go.RowKit
set_option linter.unusedVariables false
set_option linter.unusedSimpArgs false

/-- the place of the first c from i on -/
def pcF (l : List Int) (i : Nat) (c : Int) : Nat := i + (upTo c (l.drop i)).length
theorem pc_le (l : List Int) (i : Nat) (c : Int) (h : i ≤ l.length) : pcF l i c ≤ l.length := by
  have := upTo_len c (l.drop i)
  rw [List.length_drop] at this
  unfold pcF
  omega
theorem pc_ge (l : List Int) (i : Nat) (c : Int) : i ≤ pcF l i c := by unfold pcF; omega
theorem pc_end (l : List Int) (c : Int) : pcF l l.length c = l.length := by simp [pcF, upTo]
theorem pc_hit (l : List Int) (i : Nat) (c : Int) (r : List Int) (h : l.drop i = c :: r) : pcF l i c = i := by unfold pcF; rw [h]; simp [upTo]
theorem pc_miss (l : List Int) (i : Nat) (c x : Int) (r : List Int) (h : l.drop i = x :: r) (hx : ¬ x = c) : pcF l i c = pcF l (i + 1) c := by
  have e : l.drop (i + 1) = r := by rw [← List.drop_drop, h]; rfl
  unfold pcF
  rw [h, e, upTo, if_neg hx]
  simp
  omega

set_option maxHeartbeats 1000000 in
set_option maxRecDepth 100000 in
theorem w_place (s : ByteArray) (i : Nat) (c : Int) (w : World) (hs : s.size ≤ maxLen) (hi : i ≤ s.size) (c0 : 0 ≤ c) (c1 : c < 256) :
    Calls Tryd.prog 21 #[.string s, .int .i64 i, .int .u8 c] w fun e w' => e = .returned (.int .i64 (pcF (L s) i c)) ∧ w' = w := by
  have hs2 := hs
  unfold maxLen at hs2
  go_enter Tryd.func21, Tryd.ntmps21
  go_wp2_with fail
  go_loopw [1] (fun I wx => ∃ (k : Nat), (k : Int) ≤ s.size ∧ I = .int .i64 k ∧ Hid (pcF (L s) i c = pcF (L s) k c) ∧ wx = w) (fun I _ => (s.size - intOf I).toNat)
  case atStart => exact ⟨i, by omega, rfl, hid rfl, rfl⟩
  case round =>
    obtain ⟨k, hk, rfl, hp, hwx⟩ := hrel
    subst hwx
    by_cases hlt : (k : Int) < s.size
    · have hkk : k < s.size := by omega
      obtain ⟨x, hx⟩ : ∃ x, (s[k].toNat : Int) = x := ⟨_, rfl⟩
      have hrun := run_at (w := wr) s k hkk hs
      have hd := L_drop s k hkk
      rw [hx] at hrun hd
      by_cases hc : x = c
      · subst hc
        have hf : Hid (pcF (L s) i x = k) := by show _ = _; rw [hp.out, pc_hit _ _ _ _ hd]
        have hne : (x != x) = false := by simp
        clear hx hd
        go_wp2_with fail
        go_ret
        exact ⟨ret_i (by rw [hf.out]), rfl⟩
      · have hf : Hid (pcF (L s) i c = pcF (L s) (k + 1) c) := by show _ = _; rw [hp.out, pc_miss _ _ _ _ _ hd hc]
        have hne : (x != c) = true := by simpa using hc
        clear hx hd hc
        go_wp2_with fail
        go_roundw
        case rel => exact ⟨k + 1, by omega, by go_num, hf, by first | rfl | trivial⟩
        case measure => simp [intOf]; omega
    · obtain rfl : k = s.size := by omega
      have hf : Hid (pcF (L s) i c = s.size) := by
        show _ = _
        have := pc_end (L s) c
        rw [L_len] at this
        rw [hp.out, this]
      go_wp2_with fail
      go_ret
      exact ⟨ret_i (by rw [hf.out]), rfl⟩

/-- behind the last bar -/
def frmA (i f : Nat) : List Int → Nat
  | [] => f
  | c :: r => frmA (i + 1) (if c = 47 then i + 1 else f) r
theorem frm_le : ∀ (l : List Int) (i f : Nat), f ≤ i → frmA i f l ≤ i + l.length
  | [], i, f, h => by simpa [frmA] using h
  | c :: r, i, f, h => by
    have := frm_le r (i + 1) (if c = 47 then i + 1 else f) (by split <;> omega)
    simp only [frmA, List.length_cons]
    omega
/-- what Tail answers -/
def tlF (l : List Int) : List Int × List Int := if pcF l (frmA 0 0 l) 58 = l.length then (l, []) else (l.take (pcF l (frmA 0 0 l) 58), l.drop (pcF l (frmA 0 0 l) 58 + 1))

set_option maxHeartbeats 1000000 in
set_option maxRecDepth 100000 in
theorem w_rtail (s : ByteArray) (w : World) (hs : s.size ≤ maxLen) :
    Calls Tryd.prog 17 #[.string s] w fun e w' => ∃ A B, e = .returned (.tuple #[.string A, .string B]) ∧ L A = (tlF (L s)).1 ∧ L B = (tlF (L s)).2 ∧ Below w.heap.size w w' := by
  have hs2 := hs
  unfold maxLen at hs2
  go_enter Tryd.func17, Tryd.ntmps17
  go_wp2_with fail
  go_loopw [4, 5] (fun F I wx => ∃ (k f : Nat), (k : Int) ≤ s.size ∧ F = .int .i64 f ∧ I = .int .i64 k ∧ (f : Int) ≤ k ∧ Hid (frmA 0 0 (L s) = frmA k f ((L s).drop k)) ∧ wx = w) (fun _ I _ => (s.size - intOf I).toNat)
  case atStart => exact ⟨0, 0, by omega, rfl, rfl, by omega, hid rfl, rfl⟩
  case round =>
    obtain ⟨k, f, hk, rfl, rfl, hfk, hp, hwx⟩ := hrel
    subst hwx
    by_cases hlt : (k : Int) < s.size
    · have hkk : k < s.size := by omega
      obtain ⟨x, hx⟩ : ∃ x, (s[k].toNat : Int) = x := ⟨_, rfl⟩
      have hrun := run_at (w := wr) s k hkk hs
      have hd := L_drop s k hkk
      rw [hx] at hrun hd
      by_cases hc : x = 47
      · subst hc
        have hf : Hid (frmA 0 0 (L s) = frmA (k + 1) (k + 1) ((L s).drop (k + 1))) := by show _ = _; rw [hp.out, hd, frmA, if_pos rfl]
        clear hx hd
        go_wp2_with fail
        go_roundw
        case rel => exact ⟨k + 1, k + 1, by omega, by go_num, by go_num, by omega, hf, by first | rfl | trivial⟩
        case measure => simp [intOf]; omega
      · have hf : Hid (frmA 0 0 (L s) = frmA (k + 1) f ((L s).drop (k + 1))) := by show _ = _; rw [hp.out, hd, frmA, if_neg hc]
        have hne : (x == 47) = false := by simpa using hc
        clear hx hd hc
        go_wp2_with fail
        go_roundw
        case rel => exact ⟨k + 1, f, by omega, by go_num, by go_num, by omega, hf, by first | rfl | trivial⟩
        case measure => simp [intOf]; omega
    · have hfe : frmA 0 0 (L s) = f := by
        rw [hp.out, List.drop_of_length_le (by rw [L_len]; omega)]
        rfl
      have hpl := pc_le (L s) f 58 (by rw [L_len]; omega)
      rw [L_len] at hpl
      have ct := w_place s f 58 wr hs (by omega) (by decide) (by decide)
      have htl : tlF (L s) = if pcF (L s) f 58 = s.size then (L s, []) else ((L s).take (pcF (L s) f 58), (L s).drop (pcF (L s) f 58 + 1)) := by unfold tlF; rw [hfe, L_len]
      obtain ⟨q, hq⟩ : ∃ q, pcF (L s) f 58 = q := ⟨_, rfl⟩
      rw [hq] at ct hpl htl
      by_cases hqe : q = s.size
      · rw [if_pos hqe] at htl
        have Htl := hid htl
        have hb : ((q : Int) == s.size) = true := by simp [hqe]
        clear htl hq hfe hqe
        go_wp2_with (go_at_call 21; refine ct.mono ?_; rintro e w1 ⟨rfl, rfl⟩)
        go_ret2
        refine ⟨s, ⟨#[]⟩, rfl, ?_, ?_, Below.refl _ _⟩
        · rw [Htl.out]
        · rw [Htl.out]; rfl
      · rw [if_neg hqe] at htl
        have Htl := hid htl
        have hb : ((q : Int) == s.size) = false := by simp; omega
        have z1 : (0 : Int) ≤ q := by omega
        have z2 : (q : Int) ≤ s.size := by omega
        have z3 : (0 : Int) ≤ (q : Int) + 1 := by omega
        have z4 : (q : Int) + 1 ≤ s.size := by omega
        clear htl hq hfe hqe
        go_wp2_with (go_at_call 21; refine ct.mono ?_; rintro e w1 ⟨rfl, rfl⟩)
        go_quiet (fail)
        go_wp2_with fail
        go_ret2
        refine ⟨_, _, rfl, ?_, ?_, below_drewN (Below.refl _ _) _⟩
        · rw [Htl.out, L_extract s 0 q (by omega)]
          simp
        · rw [Htl.out, L_from]
end Go.Proofs.YtmjgiaomijghoaaDoor
