/-
  The last place of a byte in a text, and Tail of package path.
-/
import Derived.Test.YtmjgiaomijghoaaDoorPlc
import Derived.Test.YtmjgiaomijghoaaDoorRa1
namespace Go.Proofs.YtmjgiaomijghoaaDoor
open Go.ChangeShapes Go.WideShapes Go.ChangeAt Go.RowKit
set_option linter.unusedVariables false
set_option linter.unusedSimpArgs false

set_option maxHeartbeats 1000000 in
set_option maxRecDepth 100000 in
theorem w_libs (s : ByteArray) (w : World) (hs : s.size ≤ maxLen) :
    Calls Tryd.prog 51 #[.string s, .int .u8 47] w fun e w' => ∃ i, e = .returned (.int .i64 i) ∧ LastB (L s) 47 i ∧ w' = w := by
  have hs2 := hs
  unfold maxLen at hs2
  go_enter Tryd.func51, Tryd.ntmps51
  go_wp2_with fail
  go_loopw [5] (fun I wx => ∃ i : Int, I = .int .i64 i ∧ -1 ≤ i ∧ i < s.size ∧ Hid (∀ x ∈ (L s).drop (i + 1).toNat, ¬ x = 47) ∧ wx = w) (fun I _ => (intOf I + 1).toNat)
  case atStart => exact ⟨(s.size : Int) - 1, by go_num, by omega, by omega, hid (by rw [show ((s.size : Int) - 1 + 1).toNat = s.size by omega, List.drop_of_length_le (by rw [L_len]; omega)]; intro x hx; simp at hx), rfl⟩
  case round =>
    obtain ⟨i, rfl, i0, i1, hf, hwx⟩ := hrel
    subst hwx
    by_cases hlt : (0 : Int) ≤ i
    · obtain ⟨k, rfl⟩ : ∃ k : Nat, i = k := ⟨i.toNat, by omega⟩
      have hkk : k < s.size := by omega
      obtain ⟨x, hx⟩ : ∃ x, (s[k].toNat : Int) = x := ⟨_, rfl⟩
      have hrun := run_at (w := wr) s k hkk hs
      have hd := L_drop s k hkk
      rw [hx] at hrun hd
      rw [show ((k : Int) + 1).toNat = k + 1 by omega] at hf
      by_cases hc : x = 47
      · subst hc
        have hsp : Hid (L s = (L s).take k ++ 47 :: (L s).drop (k + 1)) := by show _ = _; rw [← hd, List.take_append_drop]
        clear hx hd
        go_wp2_with fail
        go_ret
        exact ⟨_, rfl, Or.inr ⟨k, rfl, by rw [L_len]; exact hkk, hsp.out, hf.out⟩, rfl⟩
      · have hne : (x == 47) = false := by simpa using hc
        have hf2 : Hid (∀ y ∈ (L s).drop ((k : Int) - 1 + 1).toNat, ¬ y = 47) := by
          rw [show ((k : Int) - 1 + 1).toNat = k by omega, hd]
          intro y hy
          rw [List.mem_cons] at hy
          rcases hy with rfl | hy
          · exact hc
          · exact hf.out y hy
        clear hx hd hc
        go_wp2_with fail
        go_roundw
        case rel => exact ⟨(k : Int) - 1, by go_num, by omega, by omega, hf2, by first | rfl | trivial⟩
        case measure => simp [intOf] <;> omega
    · have hi : i = -1 := by omega
      subst hi
      go_wp2_with fail
      go_ret
      exact ⟨_, rfl, Or.inl ⟨rfl, by simpa using hf.out⟩, rfl⟩

set_option maxHeartbeats 1000000 in
set_option maxRecDepth 100000 in
theorem w_lix47 (s : ByteArray) (w : World) (hs : s.size ≤ maxLen) :
    Calls Tryd.prog 34 #[.string s, .string ⟨#[47]⟩] w fun e w' => ∃ i, e = .returned (.int .i64 i) ∧ LastB (L s) 47 i ∧ w' = w := by
  go_enter Tryd.func34, Tryd.ntmps34
  go_wp2_with (go_at_call 51; refine (w_libs s _ hs).mono ?_; rintro e w1 ⟨i, rfl, hi, rfl⟩)
  go_ret
  exact ⟨i, rfl, hi, rfl⟩

theorem frm_free : ∀ (l : List Int) (i f : Nat), (∀ x ∈ l, ¬ x = 47) → frmA i f l = f
  | [], _, _, _ => rfl
  | c :: r, i, f, h => by
    rw [frmA, if_neg (h c (by simp))]
    exact frm_free r _ _ fun x hx => h x (by simp [hx])
theorem frm_app : ∀ (a b : List Int) (i f : Nat), frmA i f (a ++ b) = frmA (i + a.length) (frmA i f a) b
  | [], b, i, f => rfl
  | c :: a, b, i, f => by
    rw [List.cons_append, frmA, frmA, frm_app a b, List.length_cons]
    congr 1
    omega
theorem frm_last {l : List Int} {i : Int} (h : LastB l 47 i) : ((frmA 0 0 l : Nat) : Int) = i + 1 := by
  rcases h with ⟨rfl, h⟩ | ⟨k, rfl, h1, h2, h3⟩
  · rw [frm_free l 0 0 h]
    rfl
  · rw [h2, frm_app, frmA, if_pos rfl, frm_free _ _ _ h3, List.length_take]
    omega

set_option maxHeartbeats 1000000 in
set_option maxRecDepth 100000 in
theorem w_ptail (s : ByteArray) (w : World) (hs : s.size ≤ maxLen) :
    Calls Tryd.prog 16 #[.string s] w fun e w' => ∃ A B, e = .returned (.tuple #[.string A, .string B]) ∧ L A = (tlF (L s)).1 ∧ L B = (tlF (L s)).2 ∧ Below w.heap.size w w' := by
  have hs2 := hs
  unfold maxLen at hs2
  go_enter Tryd.func16, Tryd.ntmps16
  go_wp2_with (go_at_call 34; refine (w_lix47 s _ hs).mono ?_; rintro e w1 ⟨i, rfl, hi, hw1⟩; obtain rfl := hw1.symm; refine Hid.out ?_)
  have hfl := frm_last hi
  obtain ⟨f, hf⟩ : ∃ f, frmA 0 0 (L s) = f := ⟨_, rfl⟩
  rw [hf] at hfl
  obtain rfl : i = (f : Int) - 1 := by omega
  have hfs : f ≤ s.size := by
    have := frm_le (L s) 0 0 (Nat.le_refl _)
    rw [hf, L_len] at this
    omega
  have htl : tlF (L s) = if pcF (L s) f 58 = s.size then (L s, []) else ((L s).take (pcF (L s) f 58), (L s).drop (pcF (L s) f 58 + 1)) := by unfold tlF; rw [hf, L_len]
  have hpl : pcF (L s) f 58 = f + (upTo 58 ((L s).drop f)).length := rfl
  have hLf := L_from s f
  have z0 : (0 : Int) ≤ f := by omega
  have z1 : (f : Int) ≤ s.size := by omega
  have hsz : (s.extract f s.size).size = s.size - f := by rw [← L_len, hLf, List.length_drop, L_len]
  obtain ⟨R, hR⟩ : ∃ R, s.extract f s.size = R := ⟨_, rfl⟩
  rw [hR] at hLf hsz
  have cx := fun w => w_six58 R w
  rw [hLf] at cx
  have Htl := hid htl
  have Hpl := hid hpl
  clear hi hf hfl htl hpl hLf
  refine hid ?_
  go_wp2_with (go_at_call 35; refine (cx _).mono ?_; rintro e w1 ⟨i, rfl, hi, hw1⟩; obtain rfl := hw1.symm; refine Hid.out ?_)
  rcases hi with ⟨rfl, h2⟩ | ⟨k, rfl, h2, h3, h4⟩
  · have ht : Hid (tlF (L s) = (L s, [])) := by
      show _ = _
      rw [Htl.out, Hpl.out, upTo_all 58 _ h2, List.length_drop, L_len, if_pos (by omega)]
    clear h2
    refine hid ?_
    go_wp2_with fail
    go_ret2
    refine ⟨s, ⟨#[]⟩, rfl, ?_, ?_, Below.refl _ _⟩
    · rw [ht.out]
    · rw [ht.out]; rfl
  · have hk : (upTo 58 ((L s).drop f)).length = k := by
      rw [h3, upTo_app 58 _ _ h4, List.length_take]
      omega
    rw [List.length_drop, L_len] at h2
    have ht : Hid (tlF (L s) = ((L s).take (f + k), (L s).drop (f + k + 1))) := by
      show _ = _
      rw [Htl.out, Hpl.out, hk, if_neg (by omega)]
    have y0 : (0 : Int) ≤ (k : Int) + f := by omega
    have y1 : (k : Int) + f ≤ s.size := by omega
    have y2 : (0 : Int) ≤ (k : Int) + f + 1 := by omega
    have y3 : (k : Int) + f + 1 ≤ s.size := by omega
    clear h3 h4 hk
    refine hid ?_
    go_wp2_with fail
    go_quiet (fail)
    go_wp2_with fail
    go_ret2
    refine ⟨_, _, rfl, ?_, ?_, below_drewN (Below.refl _ _) _⟩
    · rw [ht.out, L_extract s _ _ (by omega)]
      simp
      congr 1
      omega
    · rw [ht.out, L_from]
      congr 1
      omega
end Go.Proofs.YtmjgiaomijghoaaDoor
