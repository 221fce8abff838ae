/-
  What NvramTells asks of the NVRAM whose first bank was written, in one piece. No Go text in sight.
-/
import Derived.Test.YtlnlifijnijgmabPn2
import Derived.Deep.RegionHeld2
namespace Go.Proofs.Ytlnlifijnijgmab
set_option linter.unusedVariables false
set_option linter.unusedSimpArgs false

theorem beq_swap (a b : Int) : (a == b) = (b == a) := by
  by_cases h : a = b
  · rw [h]
  · rw [beq_eq_false_iff_ne.2 h, beq_eq_false_iff_ne.2 (fun e => h e.symm)]
theorem nv0_pln (d : List Int) (h : d.length ≤ 248) : plnF nv0 d = (wrtF 0 1 d, 0) := by
  unfold plnF
  rw [if_pos nv0_len, if_neg (by omega), nv0_cnt]
  rfl
theorem nv0_apl (d : List Int) (n : Int) (h : ((wrtF 0 1 d).length : Int) = n) : aplF nv0 (wrtF 0 1 d) n = nv1 d := apl_pre _ _ _ (by omega)
/-- a bank by its place in the memory -/
theorem bk0_at (t : List Int) (i : Nat) (hi : i < 256) : (bkF t 0).getD i 0 = t.getD i 0 := by
  have := bk_at t 0 i hi
  rw [show ((0 : Nat) : Int) = 0 from rfl, Nat.mul_zero, Nat.zero_add] at this
  exact this
theorem bk0_take (t : List Int) : bkF t 0 = t.take 256 := by unfold bkF; simp
theorem bk0_D (t : List Int) (n : Int) (h0 : 0 ≤ n) (hn : n ≤ 248) (e : bkN (bkF t 0) = n) : bkD (bkF t 0) = (t.drop 8).take n.toNat := by
  unfold bkD
  rw [e, bk0_take, List.drop_take, List.take_take, Nat.min_eq_left (by omega)]
theorem bk0_S (t : List Int) (h : t.length = 512) : bkS (bkF t 0) = ((t.getD 4 0 * 256 + t.getD 5 0) * 256 + t.getD 6 0) * 256 + t.getD 7 0 := by
  have h4 : (((bkF t 0).drop 4).take 4).length = 4 := by rw [bk0_take]; simp; omega
  obtain ⟨a, b, c, d, he⟩ := four_list h4
  have g : ∀ i < 4, [a, b, c, d].getD i 0 = t.getD (4 + i) 0 := fun i hi => by
    rw [← he, List.getD_eq_getElem?_getD, List.getElem?_take, if_pos hi, List.getElem?_drop, ← List.getD_eq_getElem?_getD, bk0_at _ _ (by omega)]
  have g0 := g 0 (by omega)
  have g1 := g 1 (by omega)
  have g2 := g 2 (by omega)
  have g3 := g 3 (by omega)
  simp only [List.getD_cons_zero, List.getD_cons_succ, Nat.add_zero] at g0 g1 g2 g3
  unfold bkS
  rw [he]
  simp only [beV, List.foldl_cons, List.foldl_nil]
  rw [← g0, ← g1, ← g2, ← g3]
  omega
/-- a byte of the header that is another one -/
theorem tell_head {d : List Int} (hd : d.length ≤ 248) (k : Nat) (hk : 0 < k) (hk2 : k < 4) (y : Int) (T : List Int) (hT : (nv1 d).set k y = T) (n : Int) (hn0 : 0 ≤ n) (hn : 256 * T.getD 2 0 + T.getD 3 0 = n) :
    (248 < n → rcvF T = ([], 0, false)) ∧ (n ≤ 248 → (rcvF T).2.2 = (((T.getD 4 0 * 256 + T.getD 5 0) * 256 + T.getD 6 0) * 256 + T.getD 7 0 == nsF (T.getD 1 0) ((T.drop 8).take n.toNat))) := by
  have hTl : T.length = 512 := by rw [← hT, List.length_set]; exact nv1_len d
  have hg := tell_gen hd k (by omega) y
  have hs := (set_bank (nv1 d) (nv1_len d) k (by omega) y).1
  rw [← hs, hT] at hg
  obtain ⟨a1, a2, a3⟩ := nv1_told hd
  have h0 : (bkF T 0).getD 0 0 = 165 := by
    rw [← hT, hs, List.getD_eq_getElem?_getD, List.getElem?_set, if_neg (by omega), ← List.getD_eq_getElem?_getD]
    exact a2
  have hN : bkN (bkF T 0) = n := by unfold bkN; rw [bk0_at _ _ (by omega), bk0_at _ _ (by omega)]; exact hn
  constructor
  · intro h
    rw [hg, if_neg]
    unfold bkR
    rw [hN, decide_eq_false (show ¬ n ≤ 248 by omega)]
    simp
  · intro h
    have hR : bkR (bkF T 0) = (((T.getD 4 0 * 256 + T.getD 5 0) * 256 + T.getD 6 0) * 256 + T.getD 7 0 == nsF (T.getD 1 0) ((T.drop 8).take n.toNat)) := by
      unfold bkR
      rw [h0, hN, bk0_S T hTl, bk0_D T n hn0 h hN, bk0_at _ _ (by omega), decide_eq_true (show n ≤ 248 from h)]
      rw [Bool.eq_iff_iff]
      simp
    rw [hg, ← hR]
    cases bkR (bkF T 0) <;> simp
end Go.Proofs.Ytlnlifijnijgmab
