/-
  How the reading of tokens goes on behind each kind of word. No Go text in sight.
-/
import Derived.Test.YtpjkjkjoaapdiaaDoorPsq
namespace Go.Proofs.YtpjkjkjoaapdiaaDoor
set_option linter.unusedVariables false
set_option linter.unusedSimpArgs false

/-- what comes of a text when at place i, between tokens, these have been read -/
def CR (X : List Int) (i : Nat) (t : List Tk) : List Tk × Int := eof (run i (X.drop i) (.btw, t))
/-- the same when there a word w, which began at p, has been read -/
def CW (X : List Int) (k : Nat) (w : List Int) (p : Int) (t : List Tk) : List Tk × Int := eof (run k (X.drop k) (.wrd w p, t))
theorem CR_start (X : List Int) (h : ¬ 4096 < X.length) : cutF X = CR X 0 [] := by
  unfold cutF CR
  rw [if_neg h]
  rfl
theorem CR_end (X : List Int) (i : Nat) (t : List Tk) (h : X.length ≤ i) : CR X i t = (t, 0) := by
  unfold CR
  rw [List.drop_of_length_le h]
  rfl
theorem run_next (X : List Int) (i : Nat) (h : i < X.length) (s : Sc × List Tk) : run i (X.drop i) s = run ((i + 1 : Nat) : Int) (X.drop (i + 1)) (step i X[i] s.1 s.2) := by
  rw [List.drop_eq_getElem_cons h]
  rfl
theorem CR_blank (X : List Int) (i : Nat) (t : List Tk) (h : i < X.length) (hb : X[i] ≤ 32) : CR X i t = CR X (i + 1) t := by
  unfold CR
  rw [run_next X i h]
  simp only [step]
  rw [if_pos hb]
theorem CR_word (X : List Int) (i : Nat) (t : List Tk) (h : i < X.length) (hb : ¬ X[i] ≤ 32) : CR X i t = CW X (i + 1) (cutL X i (i + 1)) i t := by
  unfold CR CW
  rw [run_next X i h, cutL_one X i h]
  simp only [step]
  rw [if_neg hb]
theorem CW_on (X : List Int) (p k : Nat) (t : List Tk) (hp : p ≤ k) (h : k < X.length) (hb : ¬ X[k] ≤ 32) : CW X k (cutL X p k) p t = CW X (k + 1) (cutL X p (k + 1)) p t := by
  unfold CW
  rw [run_next X k h, cutL_app X p k (k + 1) hp (by omega), cutL_one X k h]
  simp only [step]
  rw [if_neg hb]
/-- a word has its end at k -/
def WE (X : List Int) (k : Nat) : Prop := k = X.length ∨ blkF X k = true
theorem blk_get {X : List Int} {k : Nat} (h : blkF X k = true) : ∃ g : k < X.length, X[k] ≤ 32 := by
  rcases Nat.lt_or_ge k X.length with g | g
  · refine ⟨g, ?_⟩
    rw [blk_in X k _ g rfl] at h
    simpa using h
  · rw [blk_out X k (by omega)] at h
    cases h
theorem CW_plain (X : List Int) (k : Nat) (w : List Int) (p : Int) (t : List Tk) (h : WE X k) (hs : spec w = false) : CW X k w p t = CR X k (t ++ [(1, w.map sm, p)]) := by
  have hs2 := hs
  simp [spec] at hs2
  unfold CW CR
  rcases h with rfl | h
  · rw [List.drop_of_length_le (Nat.le_refl _)]
    simp only [run, eof]
    rw [if_neg hs2.1, if_neg (by rw [hs]; decide)]
  · obtain ⟨g, hb⟩ := blk_get h
    rw [run_next X k g, run_next X k g]
    simp only [step]
    rw [if_pos hb, if_pos hb]
    unfold wend
    rw [if_neg hs2.1, if_neg hs2.2.1, if_neg hs2.2.2.1, if_neg hs2.2.2.2.1, if_neg hs2.2.2.2.2]
theorem run_to (X : List Int) (k : Nat) (c : Int) (h : k ≤ X.length) (s : Sc × List Tk) : run k (X.drop k) s = run (nxF X k c) (X.drop (nxF X k c)) (run k (cutL X k (nxF X k c)) s) :=
  run_rest X k (nxF X k c) (nx_ge X k c) (nx_le X k c h) s
theorem CW_line (X : List Int) (k : Nat) (p : Int) (t : List Tk) (h : WE X k) : CW X k [92] p t = CR X (nxF X k 10 + 1) t := by
  unfold CW CR
  rcases h with rfl | h
  · rw [nx_end X _ 10 (Nat.le_refl _), List.drop_of_length_le (Nat.le_refl _), List.drop_of_length_le (by omega)]
    rfl
  · obtain ⟨g, hb⟩ := blk_get h
    by_cases h10 : X[k] = 10
    · rw [nx_hit X k 10 g h10, run_next X k g]
      simp only [step]
      rw [if_pos hb]
      unfold wend
      rw [if_pos rfl, if_pos h10]
    · rw [nx_on X k 10 g h10, run_next X k g]
      simp only [step]
      rw [if_pos hb]
      unfold wend
      rw [if_pos rfl, if_neg h10, run_to X (k + 1) 10 (by omega), run_cmt t _ (nx_not X (k + 1) 10)]
      rcases Nat.lt_or_ge (nxF X (k + 1) 10) X.length with g2 | g2
      · rw [run_next X _ g2]
        simp only [step]
        rw [if_pos (nx_at X _ 10 g2)]
      · rw [List.drop_of_length_le g2, List.drop_of_length_le (by omega)]
        rfl
theorem CW_par (X : List Int) (k : Nat) (p : Int) (t : List Tk) (h : WE X k) : CW X k [40] p t = if nxF X k 41 < X.length then CR X (nxF X k 41 + 1) t else ([], 15) := by
  unfold CW CR
  rcases h with rfl | h
  · rw [nx_end X _ 41 (Nat.le_refl _), if_neg (by omega), List.drop_of_length_le (Nat.le_refl _)]
    rfl
  · obtain ⟨g, hb⟩ := blk_get h
    rw [nx_on X k 41 g (by omega), run_next X k g]
    simp only [step]
    rw [if_pos hb]
    have e : wend [40] p X[k] t = (.par, t) := by simp [wend]
    rw [e, run_to X (k + 1) 41 (by omega), run_par t _ (nx_not X (k + 1) 41)]
    rcases Nat.lt_or_ge (nxF X (k + 1) 41) X.length with g2 | g2
    · rw [if_pos g2, run_next X _ g2]
      simp only [step]
      rw [if_pos (nx_at X _ 41 g2)]
    · rw [if_neg (by omega), List.drop_of_length_le g2]
      rfl
theorem CW_none (X : List Int) (k : Nat) (w : List Int) (p : Int) (t : List Tk) (h : k = X.length) (hw : w = [46, 40] ∨ w = [34] ∨ w = [46, 34]) : CW X k w p t = ([], 15) := by
  subst h
  unfold CW
  rw [List.drop_of_length_le (Nat.le_refl _)]
  rcases hw with rfl | rfl | rfl <;> rfl
theorem CW_show (X : List Int) (k : Nat) (p : Int) (t : List Tk) (hb : blkF X k = true) :
    CW X k [46, 40] p t = if nxF X (k + 1) 41 < X.length then (if 255 < nxF X (k + 1) 41 - k - 1 then ([], 3) else CR X (nxF X (k + 1) 41 + 1) (t ++ [(3, cutL X (k + 1) (nxF X (k + 1) 41), p)])) else ([], 15) := by
  obtain ⟨g, hb⟩ := blk_get hb
  unfold CW CR
  rw [run_next X k g]
  simp only [step]
  rw [if_pos hb]
  have e : wend [46, 40] p X[k] t = (.sho [] p, t) := by simp [wend]
  rw [e, run_to X (k + 1) 41 (by omega), run_sho p t _ (nx_not X (k + 1) 41)]
  rcases Nat.lt_or_ge (nxF X (k + 1) 41) X.length with g2 | g2
  · have hge := nx_ge X (k + 1) 41
    have hl := cutL_len X (k + 1) (nxF X (k + 1) 41) hge (by omega)
    rw [if_pos g2, run_next X _ g2]
    simp only [step, List.nil_append]
    rw [if_pos (nx_at X _ 41 g2)]
    unfold fin
    rw [hl]
    split
    · rw [if_pos (by omega), run_erl]
      rfl
    · rw [if_neg (by omega)]
  · rw [if_neg (by omega), List.drop_of_length_le g2]
    rfl
theorem CW_quote (X : List Int) (k : Nat) (w : List Int) (q p : Int) (t : List Tk) (hb : blkF X k = true) (hw : w = [34] ∧ q = 2 ∨ w = [46, 34] ∧ q = 3) :
    (∀ e, QE X (k + 1) e → CW X k w p t = ([], e)) ∧ ∀ j ys, QO X (k + 1) j ys → CW X k w p t = CR X j (t ++ [(q, ys, p)]) := by
  obtain ⟨g, hb⟩ := blk_get hb
  have e0 : CW X k w p t = eof (run ((k + 1 : Nat) : Int) (X.drop (k + 1)) (.qt q [] p, t)) := by
    unfold CW
    rw [run_next X k g]
    simp only [step]
    rw [if_pos hb]
    rcases hw with ⟨rfl, rfl⟩ | ⟨rfl, rfl⟩ <;> simp [wend]
  refine ⟨fun e h => ?_, fun j ys h => ?_⟩
  · rw [e0]
    exact h q p t
  · obtain ⟨h1, h2, h3, h4, h5⟩ := h
    rw [e0, run_rest X (k + 1) j (by omega) h2, h5]
    unfold CR
    rcases h4 with rfl | h4
    · rw [List.drop_of_length_le (Nat.le_refl _)]
      simp only [run, eof]
      rw [if_neg (by omega)]
    · obtain ⟨g4, hb4⟩ := blk_get h4
      rw [run_next X j g4, run_next X j g4]
      simp only [step]
      rw [if_neg (by omega), if_pos hb4, if_pos hb4]
      unfold fin
      rw [if_neg (by omega)]
end Go.Proofs.YtpjkjkjoaapdiaaDoor
