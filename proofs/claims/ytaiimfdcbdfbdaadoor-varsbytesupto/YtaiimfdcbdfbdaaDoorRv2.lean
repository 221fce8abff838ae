/-
  Names, Form, value of the document's answer for layer 19.
-/
import Derived.Test.YtaiimfdcbdfbdaaDoorRv1
namespace Go.Proofs.YtaiimfdcbdfbdaaDoor
open Go.ChangeShapes Go.WideShapes Go.ChangeAt Go.RowKit
set_option linter.unusedVariables false
set_option linter.unusedSimpArgs false

def vaNs (k : Nat) : List ByteArray := (List.range k).map fun i => (vaT i).1
theorem vaNs_succ (k : Nat) : vaNs (k + 1) = vaNs k ++ [(vaT k).1] := by unfold vaNs; rw [List.range_succ, List.map_append]; rfl
theorem vaNs_len (k : Nat) : (vaNs k).length = k := by simp [vaNs]
theorem vaNs_size : ∀ s ∈ vaNs 9, s.size ≤ maxLen := by
  intro s hs
  unfold vaNs at hs
  simp only [List.mem_map, List.mem_range] at hs
  obtain ⟨i, hi, rfl⟩ := hs
  have := (va_size i hi).1
  unfold maxLen
  omega
theorem va_kind : ∀ k, k < 9 → (vaT k).2.1 = 98 ∨ (vaT k).2.1 = 110 ∨ (vaT k).2.1 = 116 := by decide +kernel

set_option maxHeartbeats 1000000 in
theorem w_rnames (w : World) :
    Calls Tryd.prog 15 #[] w fun e w' => ∃ v', e = .returned v' ∧ OwS w.heap.size w' v' (vaNs 9) ∧ Below w.heap.size w w' := by
  obtain ⟨i4, hi4, hz4, hs4, hb4⟩ := info_ss
  have bp := fun (W : World) (s : ByteArray) => box_below W (.cells #[.string s] 9)
  go_enter Tryd.func15, Tryd.ntmps15
  go_wp2_with fail
  go_loopw [1, 2] (fun O I wx => ∃ k : Nat, k ≤ 9 ∧ I = .int .i64 k ∧ OwS w.heap.size wx O (vaNs k) ∧ Below w.heap.size w wx) (fun _ I _ => (9 - intOf I).toNat)
  case atStart => exact ⟨0, by omega, rfl, ows_nil _ _, Below.refl _ _⟩
  case round =>
    obtain ⟨k, hk, rfl, ho, hg⟩ := hrel
    by_cases hlt : (k : Int) < 9
    · have cV := w_rvariable k (by omega)
      have hns := hid (vaNs_succ k)
      have hl := vaNs_len k
      obtain ⟨R, hR⟩ : ∃ R, vaNs k = R := ⟨_, rfl⟩
      rw [hR] at ho hns hl
      obtain ⟨⟨T1, T2, T3⟩, hT⟩ : ∃ t, vaT k = t := ⟨_, rfl⟩
      rw [hT] at cV hns
      have hRl : R.length ≤ 9 := by omega
      clear hT hR hl
      have bk := bp wr T1
      have oo := own_belowS ho bk
      go_wp2_with (first
        | (go_at_call 32; refine (cV _).mono ?_; rintro e w1 ⟨rfl, hw⟩; obtain rfl := hw.symm)
        | (at_builtin; refine wpList_append_row rfl _ _ 27 rfl w.heap.size 9 i4 _ 1 16 Tryd.underlying27 hi4 hz4 hs4 hb4 rfl (by decide) _ R.length _ rfl oo wr.heap.size (ssC T1) rfl rfl (alloc_row wr (ssC T1) 9) (ss_one _) (by unfold maxLen; omega) (by omega) (by rw [size_al]; have := hg.size; omega) ?_; intro v7 w7 o7 g7; have h7 := below_grown (below_trans hg bk) g7 (fun k hk => (oo.lt k hk).1)))
      go_roundw
      case rel => exact ⟨k + 1, by omega, by go_num, by rw [hns.out]; simpa [OwS] using o7, h7⟩
      case measure => simp [intOf]; omega
    · obtain rfl : k = 9 := by omega
      go_wp2_with fail
      go_ret
      exact ⟨_, rfl, ho, hg⟩

theorem vaV_cons (p : Stt) (l : List Stt) (nm : ByteArray) : vaV (p :: l) nm = if p.1 = nm then p.2 else vaV l nm := by
  unfold vaV
  rw [List.find?_cons]
  by_cases h : p.1 = nm
  · rw [decide_eq_true h, if_pos h]
  · rw [decide_eq_false h, if_neg h]

set_option maxHeartbeats 1000000 in
theorem w_rvalue19 (v : Value) (l : List Stt) (nm : ByteArray) (w : World) (h : SlR 2 stR w v l) :
    Calls Tryd.prog 36 #[v, .string nm] w fun e w' => e = .returned (.string (vaV l nm)) ∧ w' = w := by
  have hlen := slr_len h uSt (P := Tryd.prog)
  have hmx := slr_max h
  unfold maxLen at hmx
  have cD := w_rdefault nm
  go_enter Tryd.func36, Tryd.ntmps36
  go_wp2_with fail
  go_loopw [5] (fun I wx => ∃ k : Nat, k ≤ l.length ∧ I = .int .i64 k ∧ Hid (vaV l nm = vaV (l.drop k) nm) ∧ wx = w) (fun I _ => (l.length - intOf I).toNat)
  case atStart => exact ⟨0, by omega, rfl, hid rfl, rfl⟩
  case round =>
    obtain ⟨k, hk, rfl, hm, hw0⟩ := hrel
    obtain rfl := hw0.symm
    by_cases hlt : (k : Int) < l.length
    · obtain ⟨zb, zo, A, V, z1, z2, z3, z4, z5, z6⟩ := st_at h k (by omega)
      have hd : l.drop k = (A, V) :: l.drop (k + 1) := by rw [List.drop_eq_getElem_cons (by omega), z4]
      have hm2 := hm.out
      rw [hd, vaV_cons] at hm2
      have hq := str_beq A nm
      by_cases he : A = nm
      · rw [decide_eq_true he] at hq
        rw [if_pos he] at hm2
        have hm3 := hid hm2
        clear he hm hm2 hd z4
        go_wp2_with fail
        go_ret
        exact ⟨congrArg (fun s => Ending.returned (Value.string s)) hm3.out.symm, rfl⟩
      · rw [decide_eq_false he] at hq
        rw [if_neg he] at hm2
        have hm3 := hid hm2
        clear he hm hm2 hd z4
        go_wp2_with fail
        go_roundw
        case rel => exact ⟨k + 1, by omega, by go_num, hm3, trivial⟩
        case measure => simp [intOf]; omega
    · have hm2 := hm.out
      rw [List.drop_of_length_le (by omega)] at hm2
      have hm3 : Hid (vaV l nm = (vaD nm).1) := hm2
      clear hm hm2
      generalize vaD nm = D at cD hm3
      obtain ⟨D1, D2⟩ := D
      go_wp2_with (go_at_call 13; refine (cD _).mono ?_; rintro e w1 ⟨rfl, hw⟩; obtain rfl := hw.symm)
      go_ret
      exact ⟨congrArg (fun s => Ending.returned (Value.string s)) hm3.out.symm, rfl⟩
end Go.Proofs.YtaiimfdcbdfbdaaDoor
