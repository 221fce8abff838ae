/-
  Right and Literal of the document's answer return the plain functions, for all texts.
-/
import Derived.Test.YtkibkpkojbjmgaaRpa
import Derived.Test.YtkibkpkojbjmgaaDsh
namespace Go.Proofs.Ytkibkpkojbjmgaa
open Go.ChangeShapes Go.WideShapes Go.ChangeAt Go.RowKit
set_option linter.unusedVariables false
set_option linter.unusedSimpArgs false

/-- blanks ahead -/
def rgL (l : List Int) (width : Int) : List Int := List.replicate (width.toNat - l.length) 32 ++ l
def rgT (s : ByteArray) (width : Int) : ByteArray := if 255 < width then ⟨#[]⟩ else toB (rgL (L s) width)
def rgE (width : Int) : Int := if 255 < width then 1 else 0
theorem blank_L : L ⟨#[32]⟩ = [32] := by decide
theorem rg_step (t : ByteArray) (j : Nat) (h : L t = List.replicate j 32) : L (t ++ ⟨#[32]⟩) = List.replicate (j + 1) 32 := by
  rw [L_app, h, blank_L, List.replicate_succ']
theorem rg_size (t : ByteArray) (j : Nat) (h : L t = List.replicate j 32) : t.size = j := by
  rw [← L_len, h]; simp
theorem rg_end (s t : ByteArray) (j : Nat) (width : Int) (h : L t = List.replicate j 32) (hj : j = width.toNat - s.size) : t ++ s = toB (rgL (L s) width) := by
  apply L_eq
  rw [L_app, h, hj]
  unfold rgL
  rw [L_len]

set_option maxHeartbeats 1000000 in
theorem w_rright (s : ByteArray) (b : Int) (w : World) (hs : s.size ≤ maxLen) (g0 : 0 ≤ b) (g1 : b < 4294967296) :
    Calls Try.prog 19 #[.string s, .int .u32 b] w fun e w' => e = .returned (.tuple #[.string (rgT s b), .int .i64 (rgE b)]) ∧ w' = w := by
  unfold maxLen at hs
  by_cases hb : 255 < b
  · have e1 : rgT s b = ⟨#[]⟩ := by unfold rgT; rw [if_pos hb]
    have e2 : rgE b = 1 := by unfold rgE; rw [if_pos hb]
    rw [e1, e2]
    go_enter Try.func19, Try.ntmps19
    go_wp2
    go_ret2
    exact ⟨rfl, rfl⟩
  · have e1 : Hid (rgT s b = toB (rgL (L s) b)) := by show _ = _; unfold rgT; rw [if_neg hb]
    have e2 : Hid (rgE b = 0) := by show _ = _; unfold rgE; rw [if_neg hb]
    have hb2 : b ≤ 255 := by omega
    clear hb
    go_enter Try.func19, Try.ntmps19
    go_wp2
    go_loop [6, 7] (fun S i => ∃ (j : Nat) (t : ByteArray), i = .int .i64 ((s.size : Int) + j) ∧ S = .string t ∧ (t.size : Int) ≤ 255 ∧ Hid (L t = List.replicate j 32) ∧ Hid (j = 0 ∨ (s.size : Int) + j ≤ b)) (fun _ i => (b - intOf i).toNat)
    case atStart => exact ⟨0, ⟨#[]⟩, by simp, rfl, by decide, by show _ = _; rfl, hid (Or.inl rfl)⟩
    case round =>
      obtain ⟨j, t, rfl, rfl, ht, hL, hj⟩ := hrel
      have hz := rg_size t j hL.out
      by_cases hlt : (s.size : Int) + j < b
      · have hL2 := rg_step t j hL.out
        have hz2 := rg_size _ _ hL2
        have Hz2 : Hid ((t ++ ⟨#[32]⟩).size = j + 1) := hz2
        have HL2 : Hid (L (t ++ ⟨#[32]⟩) = List.replicate (j + 1) 32) := hL2
        have Hz : Hid (t.size = j) := hz
        have hj3 : (j : Int) ≤ 254 := by omega
        have ht2 : (t.size : Int) ≤ 254 := by omega
        clear hL2 hz2 hz
        go_wp2
        go_round
        case rel => exact ⟨j + 1, t ++ ⟨#[32]⟩, by go_num, rfl, by have := Hz2.out; omega, HL2, hid (Or.inr (by omega))⟩
        case measure => simp [intOf]; omega
      · have hfin : Hid (t ++ s = toB (rgL (L s) b)) := rg_end s t j b hL.out (by have := hj.out; omega)
        have hsum : (t.size : Int) + s.size ≤ 9223372036854775807 := by have := hj.out; omega
        clear hz
        go_wp2
        go_ret2
        exact ⟨ret_si (by rw [e1.out]; exact hfin.out) e2.out.symm, rfl⟩

/-- the base of a letter ahead of the number sign; 0 where there is none -/
def litB (c : Int) : Int := if sm c = 104 then 16 else if sm c = 111 then 8 else if sm c = 98 then 2 else if sm c = 100 then 10 else 0
/-- what Literal answers -/
def litR (l : List Int) (b : Int) : Int × Bool := ((prs l b).1, (prs l b).2 == 0)
def lit (l : List Int) : Int × Bool :=
  if 2 < l.length ∧ l[1]? = some 35 then (if litB (l.headD 0) = 0 then (0, false) else litR (l.drop 2) (litB (l.headD 0))) else litR l 10
theorem lit_plain (s : ByteArray) (h : ¬ (2 < s.size ∧ (L s)[1]? = some 35)) : lit (L s) = litR (L s) 10 := by
  unfold lit; rw [L_len, if_neg h]
theorem lit_sign (s : ByteArray) (h : 2 < s.size) (h1 : (s[1].toNat : Int) = 35) : lit (L s) = if litB (s[0].toNat : Int) = 0 then (0, false) else litR ((L s).drop 2) (litB (s[0].toNat : Int)) := by
  have e1 : (L s)[1]? = some 35 := by rw [List.getElem?_eq_getElem (by rw [L_len]; omega), L_get s 1 (by omega), h1]
  have e0 : (L s).headD 0 = (s[0].toNat : Int) := by
    rw [List.headD_eq_head?_getD, List.head?_eq_getElem?, List.getElem?_eq_getElem (by rw [L_len]; omega), L_get s 0 (by omega)]; rfl
  unfold lit; rw [L_len, if_pos ⟨h, e1⟩, e0]

set_option maxHeartbeats 1000000 in
theorem w_rliteral (s : ByteArray) (w : World) (hs : s.size ≤ maxLen) :
    Calls Try.prog 21 #[.string s] w fun e w' => e = .returned (.tuple #[.int .u32 (lit (L s)).1, .bool (lit (L s)).2]) ∧ Grown w w' := by
  have hs2 := hs
  unfold maxLen at hs2
  by_cases hz : 2 < s.size
  · have z0 : 0 < s.size := by omega
    have z1 : 1 < s.size := by omega
    have zI : (2 : Int) < (s.size : Int) := by omega
    by_cases hc : ((s[1]'z1).toNat : Int) = 35
    · have e1 := lit_sign s hz hc
      have hc2 : (((s[1]'z1).toNat : Int) == 35) = true := by simp [hc]
      clear hc
      have hcb := hid (L_bd s 0 z0)
      obtain ⟨T, hT⟩ : ∃ T, s.extract 2 s.size = T := ⟨_, rfl⟩
      have hTL : L T = (L s).drop 2 := by rw [← hT]; exact L_from s 2
      have hTz : Hid (T.size ≤ maxLen) := by show _ ≤ _; rw [← hT]; simp; unfold maxLen; omega
      rw [← hTL] at e1
      clear hTL
      rcases (show sm (s[0].toNat : Int) = 104 ∨ sm (s[0].toNat : Int) = 111 ∨ sm (s[0].toNat : Int) = 98 ∨ sm (s[0].toNat : Int) = 100 ∨ (¬ sm (s[0].toNat : Int) = 104 ∧ ¬ sm (s[0].toNat : Int) = 111 ∧ ¬ sm (s[0].toNat : Int) = 98 ∧ ¬ sm (s[0].toNat : Int) = 100) by omega) with h | h | h | h | ⟨h, ha, hb, hd⟩
      · have eB : litB (s[0].toNat : Int) = 16 := by unfold litB; rw [h]; rfl
        rw [e1, eB, if_neg (by decide)]
        clear e1 eB hz
        go_enter Try.func21, Try.ntmps21
        go_wp2_with (first | (go_at_call 24; refine (w_rsmall _ _ hcb.out.1 hcb.out.2).mono ?_; rintro e w1 ⟨rfl, rfl⟩) | (go_at_call 13; refine (w_rparse _ _ _ hTz.out (by omega) (by omega)).mono ?_; rintro e w2 ⟨rfl, hg⟩))
        go_ret2
        exact ⟨rfl, hg⟩
      · have eB : litB (s[0].toNat : Int) = 8 := by unfold litB; rw [h]; rfl
        rw [e1, eB, if_neg (by decide)]
        clear e1 eB hz
        go_enter Try.func21, Try.ntmps21
        go_wp2_with (first | (go_at_call 24; refine (w_rsmall _ _ hcb.out.1 hcb.out.2).mono ?_; rintro e w1 ⟨rfl, rfl⟩) | (go_at_call 13; refine (w_rparse _ _ _ hTz.out (by omega) (by omega)).mono ?_; rintro e w2 ⟨rfl, hg⟩))
        go_ret2
        exact ⟨rfl, hg⟩
      · have eB : litB (s[0].toNat : Int) = 2 := by unfold litB; rw [h]; rfl
        rw [e1, eB, if_neg (by decide)]
        clear e1 eB hz
        go_enter Try.func21, Try.ntmps21
        go_wp2_with (first | (go_at_call 24; refine (w_rsmall _ _ hcb.out.1 hcb.out.2).mono ?_; rintro e w1 ⟨rfl, rfl⟩) | (go_at_call 13; refine (w_rparse _ _ _ hTz.out (by omega) (by omega)).mono ?_; rintro e w2 ⟨rfl, hg⟩))
        go_ret2
        exact ⟨rfl, hg⟩
      · have eB : litB (s[0].toNat : Int) = 10 := by unfold litB; rw [h]; rfl
        rw [e1, eB, if_neg (by decide)]
        clear e1 eB hz
        go_enter Try.func21, Try.ntmps21
        go_wp2_with (first | (go_at_call 24; refine (w_rsmall _ _ hcb.out.1 hcb.out.2).mono ?_; rintro e w1 ⟨rfl, rfl⟩) | (go_at_call 13; refine (w_rparse _ _ _ hTz.out (by omega) (by omega)).mono ?_; rintro e w2 ⟨rfl, hg⟩))
        go_ret2
        exact ⟨rfl, hg⟩
      · have eB : litB (s[0].toNat : Int) = 0 := by unfold litB; rw [if_neg h, if_neg ha, if_neg hb, if_neg hd]
        rw [e1, eB, if_pos rfl]
        clear e1 eB hz
        go_enter Try.func21, Try.ntmps21
        go_wp2_with (first | (go_at_call 24; refine (w_rsmall _ _ hcb.out.1 hcb.out.2).mono ?_; rintro e w1 ⟨rfl, rfl⟩))
        go_ret2
        exact ⟨rfl, Grown.refl _⟩
    · have e1 : lit (L s) = litR (L s) 10 := lit_plain s (by
        intro h
        have e : (L s)[1]? = some (s[1].toNat : Int) := by rw [List.getElem?_eq_getElem (by rw [L_len]; omega), L_get s 1 (by omega)]
        rw [e] at h
        exact hc (by simpa using h.2))
      have hc2 : (((s[1]'z1).toNat : Int) == 35) = false := beq_eq_false_iff_ne.2 hc
      rw [e1]
      clear hc e1 hz
      go_enter Try.func21, Try.ntmps21
      go_wp2_with (go_at_call 13; refine (w_rparse _ _ _ hs (by omega) (by omega)).mono ?_; rintro e w2 ⟨rfl, hg⟩)
      go_ret2
      exact ⟨rfl, hg⟩
  · have e1 : lit (L s) = litR (L s) 10 := lit_plain s (fun h => hz h.1)
    rw [e1]
    clear e1
    go_enter Try.func21, Try.ntmps21
    go_wp2_with (go_at_call 13; refine (w_rparse _ _ _ hs (by omega) (by omega)).mono ?_; rintro e w2 ⟨rfl, hg⟩)
    go_ret2
    exact ⟨rfl, hg⟩

end Go.Proofs.Ytkibkpkojbjmgaa
