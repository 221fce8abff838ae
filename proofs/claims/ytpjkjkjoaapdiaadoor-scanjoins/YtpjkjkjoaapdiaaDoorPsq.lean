/-
  Stretches of a text that the reading of tokens goes over: blanks, the next byte of a kind, words and quoted texts. No Go text in sight.
-/
import Derived.Test.YtpjkjkjoaapdiaaDoorPsc
namespace Go.Proofs.YtpjkjkjoaapdiaaDoor
set_option linter.unusedVariables false
set_option linter.unusedSimpArgs false

/-- is there a blank at that place -/
def blkF (X : List Int) (k : Nat) : Bool := decide (X.getD k 99 ≤ 32)
theorem blk_in (X : List Int) (k : Nat) (c : Int) (h : k < X.length) (hc : X[k] = c) : blkF X k = decide (c ≤ 32) := by
  unfold blkF
  rw [List.getD_eq_getElem?_getD, List.getElem?_eq_getElem h, hc]
  rfl
theorem blk_out (X : List Int) (k : Nat) (h : ¬ k < X.length) : blkF X k = false := by
  unfold blkF
  rw [List.getD_eq_getElem?_getD, List.getElem?_eq_none (by omega)]
  rfl

/-- the place of the next byte c from i on -/
def nxF (X : List Int) (i : Nat) (c : Int) : Nat := i + ((X.drop i).takeWhile (fun x => decide (¬ x = c))).length
theorem nx_hit (X : List Int) (i : Nat) (c : Int) (h : i < X.length) (hc : X[i] = c) : nxF X i c = i := by
  unfold nxF
  rw [List.drop_eq_getElem_cons h, List.takeWhile_cons, if_neg (by simp [hc])]
  rfl
theorem nx_on (X : List Int) (i : Nat) (c : Int) (h : i < X.length) (hc : ¬ X[i] = c) : nxF X i c = nxF X (i + 1) c := by
  unfold nxF
  rw [List.drop_eq_getElem_cons h, List.takeWhile_cons, if_pos (by simp [hc])]
  simp
  omega
theorem nx_end (X : List Int) (i : Nat) (c : Int) (h : X.length ≤ i) : nxF X i c = i := by
  unfold nxF
  rw [List.drop_of_length_le h]
  rfl
theorem nx_ge (X : List Int) (i : Nat) (c : Int) : i ≤ nxF X i c := by unfold nxF; omega
theorem nx_le (X : List Int) (i : Nat) (c : Int) (h : i ≤ X.length) : nxF X i c ≤ X.length := by
  unfold nxF
  have h1 := (List.takeWhile_sublist (fun x => decide (¬ x = c)) (l := X.drop i)).length_le
  rw [List.length_drop] at h1
  omega


/-- the bytes from i up to j -/
def cutL (X : List Int) (i j : Nat) : List Int := (X.drop i).take (j - i)
theorem cutL_len (X : List Int) (i j : Nat) (h : i ≤ j) (hj : j ≤ X.length) : (cutL X i j).length = j - i := by simp [cutL]; omega
theorem cutL_app (X : List Int) (i j m : Nat) (h : i ≤ j) (hm : j ≤ m) : cutL X i m = cutL X i j ++ cutL X j m := by
  unfold cutL
  rw [show X.drop j = (X.drop i).drop (j - i) by rw [List.drop_drop]; congr 1; omega, show m - i = (j - i) + (m - j) by omega, List.take_add]
theorem cutL_one (X : List Int) (i : Nat) (h : i < X.length) : cutL X i (i + 1) = [X[i]] := by
  unfold cutL
  rw [show i + 1 - i = 1 by omega, List.drop_eq_getElem_cons h]
  rfl
theorem cutL_all (X : List Int) (i : Nat) : cutL X i X.length = X.drop i := by
  unfold cutL
  rw [List.take_of_length_le (by simp)]
theorem cutL_none (X : List Int) (i : Nat) : cutL X i i = [] := by simp [cutL]
theorem run_cut (X : List Int) (i j m : Nat) (h : i ≤ j) (hm : j ≤ m) (hl : j ≤ X.length) (s : Sc × List Tk) : run i (cutL X i m) s = run j (cutL X j m) (run i (cutL X i j) s) := by
  rw [cutL_app X i j m h hm, run_app, cutL_len X i j h hl]
  congr 1
  omega
theorem run_one (X : List Int) (i : Nat) (h : i < X.length) (s : Sc × List Tk) : run i (cutL X i (i + 1)) s = step i X[i] s.1 s.2 := by
  rw [cutL_one X i h]
  rfl
theorem nx_piece (X : List Int) (i : Nat) (c : Int) : cutL X i (nxF X i c) = (X.drop i).takeWhile (fun x => decide (¬ x = c)) := by
  unfold cutL nxF
  rw [show i + ((X.drop i).takeWhile (fun x => decide (¬ x = c))).length - i = ((X.drop i).takeWhile (fun x => decide (¬ x = c))).length by omega]
  have h := List.takeWhile_prefix (fun x => decide (¬ x = c)) (l := X.drop i)
  exact (List.prefix_iff_eq_take.1 h).symm
theorem nx_not (X : List Int) (i : Nat) (c : Int) : ∀ x ∈ cutL X i (nxF X i c), ¬ x = c := by
  intro x hx
  rw [nx_piece] at hx
  have h := List.all_takeWhile (l := X.drop i) (p := fun x => decide (¬ x = c))
  rw [List.all_eq_true] at h
  simpa using h x hx
theorem nx_at (X : List Int) (i : Nat) (c : Int) : ∀ (h : nxF X i c < X.length), X[nxF X i c] = c := by
  suffices h : ∀ (n i : Nat), X.length - i = n → ∀ (h : nxF X i c < X.length), X[nxF X i c] = c from h _ i rfl
  intro n
  induction n with
  | zero =>
    intro i hn h
    have := nx_ge X i c
    omega
  | succ n ih =>
    intro i hn h
    have hi : i < X.length := by omega
    by_cases hc : X[i] = c
    · have e := nx_hit X i c hi hc
      simp only [e]
      exact hc
    · have e := nx_on X i c hi hc
      have e2 := ih (i + 1) (by omega) (by rw [← e]; exact h)
      simp only [e]
      exact e2
theorem run_qtext (k p : Int) (out : List Tk) (l : List Int) (h : ∀ x ∈ l, ¬ x = 34) : ∀ (i : Int) (t : List Int), run i l (.qt k t p, out) = (.qt k (t ++ l) p, out) := by
  induction l with
  | nil => intro i t; simp [run]
  | cons c l ih =>
    intro i t
    simp only [run, step]
    rw [if_neg (h c (by simp)), ih (fun x hx => h x (by simp [hx]))]
    simp
theorem run_hx (k p : Int) (t : List Int) (out : List Tk) (l : List Int) (h : ∀ x ∈ l, ¬ x = 41) : ∀ (i : Int) (u : List Int), run i l (.hx k t u p, out) = (.hx k t (u ++ l) p, out) := by
  induction l with
  | nil => intro i u; simp [run]
  | cons c l ih =>
    intro i u
    simp only [run, step]
    rw [if_neg (h c (by simp)), ih (fun x hx => h x (by simp [hx]))]
    simp
theorem run_sho (p : Int) (out : List Tk) (l : List Int) (h : ∀ x ∈ l, ¬ x = 41) : ∀ (i : Int) (t : List Int), run i l (.sho t p, out) = (.sho (t ++ l) p, out) := by
  induction l with
  | nil => intro i t; simp [run]
  | cons c l ih =>
    intro i t
    simp only [run, step]
    rw [if_neg (h c (by simp)), ih (fun x hx => h x (by simp [hx]))]
    simp
theorem run_par (out : List Tk) (l : List Int) (h : ∀ x ∈ l, ¬ x = 41) : ∀ (i : Int), run i l (.par, out) = (.par, out) := by
  induction l with
  | nil => intro i; rfl
  | cons c l ih =>
    intro i
    simp only [run, step]
    rw [if_neg (h c (by simp)), ih (fun x hx => h x (by simp [hx]))]
theorem run_cmt (out : List Tk) (l : List Int) (h : ∀ x ∈ l, ¬ x = 10) : ∀ (i : Int), run i l (.cmt, out) = (.cmt, out) := by
  induction l with
  | nil => intro i; rfl
  | cons c l ih =>
    intro i
    simp only [run, step]
    rw [if_neg (h c (by simp)), ih (fun x hx => h x (by simp [hx]))]
theorem run_btw (out : List Tk) (l : List Int) (h : ∀ x ∈ l, x ≤ 32) : ∀ (i : Int), run i l (.btw, out) = (.btw, out) := by
  induction l with
  | nil => intro i; rfl
  | cons c l ih =>
    intro i
    simp only [run, step]
    rw [if_pos (h c (by simp)), ih (fun x hx => h x (by simp [hx]))]

/-- a quoted text from i on has been read up to j, as ys -/
def QS (X : List Int) (i j : Nat) (ys : List Int) : Prop := i ≤ j ∧ j ≤ X.length ∧ ∀ k p out, run i (cutL X i j) (.qt k [] p, out) = (.qt k ys p, out)
/-- what a quoted text from i on comes to: an error, or a text that ends ahead of a blank or of the end -/
def QE (X : List Int) (i : Nat) (e : Int) : Prop := ∀ k p out, eof (run i (X.drop i) (.qt k [] p, out)) = ([], e)
def QO (X : List Int) (i j : Nat) (ys : List Int) : Prop := i < j ∧ j ≤ X.length ∧ ys.length ≤ 255 ∧ (j = X.length ∨ blkF X j = true) ∧ ∀ k p out, run i (cutL X i j) (.qt k [] p, out) = (.qq k ys p, out)
theorem QS_start (X : List Int) (i : Nat) (h : i ≤ X.length) : QS X i i [] := ⟨Nat.le_refl _, h, fun k p out => by rw [cutL_none]; rfl⟩
theorem QS_quote {X : List Int} {i j : Nat} {ys : List Int} (h : QS X i j ys) : ∀ k p out, run i (cutL X i (nxF X j 34)) (.qt k [] p, out) = (.qt k (ys ++ cutL X j (nxF X j 34)) p, out) := by
  obtain ⟨h1, h2, h3⟩ := h
  intro k p out
  rw [run_cut X i j (nxF X j 34) h1 (nx_ge X j 34) h2, h3, run_qtext k p out _ (nx_not X j 34)]
theorem QS_open {X : List Int} {i j : Nat} {ys : List Int} (h : QS X i j ys) (hn : nxF X j 34 = X.length) : QE X i 15 := by
  intro k p out
  have := QS_quote h k p out
  rw [hn, cutL_all] at this
  rw [this]
  rfl
/-- behind its quote -/
theorem QS_qq {X : List Int} {i j : Nat} {ys : List Int} (h : QS X i j ys) (hn : nxF X j 34 < X.length) : ∀ k p out, run i (cutL X i (nxF X j 34 + 1)) (.qt k [] p, out) = (.qq k (ys ++ cutL X j (nxF X j 34)) p, out) := by
  intro k p out
  have hge := nx_ge X j 34
  rw [run_cut X i (nxF X j 34) _ (by have := h.1; omega) (by omega) (by omega), QS_quote h, run_one X _ hn, nx_at X j 34 hn]
  simp [step]
theorem run_rest (X : List Int) (i j : Nat) (h : i ≤ j) (hj : j ≤ X.length) (s : Sc × List Tk) : run i (X.drop i) s = run j (X.drop j) (run i (cutL X i j) s) := by
  rw [← cutL_all X i, ← cutL_all X j]
  exact run_cut X i j X.length h hj hj s
theorem QS_wrong {X : List Int} {i j : Nat} {ys : List Int} (h : QS X i j ys) (hn : nxF X j 34 + 1 < X.length) (h1 : ¬ X[nxF X j 34 + 1] = 40) (h2 : ¬ X[nxF X j 34 + 1] ≤ 32) : QE X i 15 := by
  intro k p out
  have hge := nx_ge X j 34
  rw [run_rest X i (nxF X j 34 + 1) (by have := h.1; omega) (by omega), QS_qq h (by omega), List.drop_eq_getElem_cons hn]
  simp only [run, step]
  rw [if_neg h1, if_neg h2, run_ert]
  rfl
theorem QS_long {X : List Int} {i j : Nat} {ys : List Int} (h : QS X i j ys) (hn : nxF X j 34 < X.length) (h1 : ∀ g : nxF X j 34 + 1 < X.length, X[nxF X j 34 + 1] ≤ 32) (hl : 255 < (ys ++ cutL X j (nxF X j 34)).length) : QE X i 3 := by
  intro k p out
  have hge := nx_ge X j 34
  rw [run_rest X i (nxF X j 34 + 1) (by have := h.1; omega) (by omega), QS_qq h hn]
  rcases Nat.lt_or_ge (nxF X j 34 + 1) X.length with g | g
  · have := h1 g
    rw [List.drop_eq_getElem_cons g]
    simp only [run, step]
    rw [if_neg (by omega), if_pos this]
    unfold fin
    rw [if_pos hl, run_erl]
    rfl
  · rw [List.drop_of_length_le g]
    simp only [run, eof]
    rw [if_pos hl]
theorem QS_done {X : List Int} {i j : Nat} {ys : List Int} (h : QS X i j ys) (hn : nxF X j 34 < X.length) (h1 : ∀ g : nxF X j 34 + 1 < X.length, X[nxF X j 34 + 1] ≤ 32) (hl : ¬ 255 < (ys ++ cutL X j (nxF X j 34)).length) : QO X i (nxF X j 34 + 1) (ys ++ cutL X j (nxF X j 34)) := by
  have hge := nx_ge X j 34
  refine ⟨by have := h.1; omega, by omega, by omega, ?_, QS_qq h hn⟩
  rcases Nat.lt_or_ge (nxF X j 34 + 1) X.length with g | g
  · right
    rw [blk_in X _ _ g rfl]
    simpa using h1 g
  · left; omega
/-- its digits -/
theorem QS_hx {X : List Int} {i j : Nat} {ys : List Int} (h : QS X i j ys) (hn : nxF X j 34 + 1 < X.length) (h1 : X[nxF X j 34 + 1] = 40) :
    nxF X j 34 + 2 ≤ nxF X (nxF X j 34) 41 ∧ ∀ k p out, run i (cutL X i (nxF X (nxF X j 34) 41)) (.qt k [] p, out) = (.hx k (ys ++ cutL X j (nxF X j 34)) (cutL X (nxF X j 34 + 2) (nxF X (nxF X j 34) 41)) p, out) := by
  have hge := nx_ge X j 34
  have e1 := nx_on X (nxF X j 34) 41 (by omega) (by rw [nx_at X j 34 (by omega)]; decide)
  have e2 : nxF X (nxF X j 34 + 1) 41 = nxF X (nxF X j 34 + 2) 41 := nx_on X (nxF X j 34 + 1) 41 hn (by rw [h1]; decide)
  have hg2 := nx_ge X (nxF X j 34 + 2) 41
  rw [e1, e2]
  refine ⟨hg2, fun k p out => ?_⟩
  rw [run_cut X i (nxF X j 34 + 1) _ (by have := h.1; omega) (by omega) (by omega), QS_qq h (by omega), run_cut X (nxF X j 34 + 1) (nxF X j 34 + 2) _ (by omega) hg2 (by omega), run_one X _ hn, h1]
  simp only [step]
  rw [if_pos trivial, run_hx k p _ out _ (nx_not X _ 41)]
  rfl
theorem QS_hopen {X : List Int} {i j : Nat} {ys : List Int} (h : QS X i j ys) (hn : nxF X j 34 + 1 < X.length) (h1 : X[nxF X j 34 + 1] = 40) (h2 : nxF X (nxF X j 34) 41 = X.length) : QE X i 15 := by
  intro k p out
  have := (QS_hx h hn h1).2 k p out
  rw [h2, cutL_all] at this
  rw [this]
  rfl
theorem QS_hbad {X : List Int} {i j : Nat} {ys : List Int} (h : QS X i j ys) (hn : nxF X j 34 + 1 < X.length) (h1 : X[nxF X j 34 + 1] = 40) (h2 : nxF X (nxF X j 34) 41 < X.length) (h3 : hexG none (cutL X (nxF X j 34 + 2) (nxF X (nxF X j 34) 41)) = none) : QE X i 15 := by
  intro k p out
  obtain ⟨g1, g2⟩ := QS_hx h hn h1
  have hge := nx_ge X j 34
  rw [run_rest X i (nxF X (nxF X j 34) 41) (by have := h.1; omega) (by omega), g2, List.drop_eq_getElem_cons h2]
  simp only [run, step]
  rw [if_pos (nx_at X _ 41 h2), h3]
  simp only []
  rw [run_ert]
  rfl
theorem QS_hon {X : List Int} {i j : Nat} {ys b : List Int} (h : QS X i j ys) (hn : nxF X j 34 + 1 < X.length) (h1 : X[nxF X j 34 + 1] = 40) (h2 : nxF X (nxF X j 34) 41 < X.length) (h3 : hexG none (cutL X (nxF X j 34 + 2) (nxF X (nxF X j 34) 41)) = some b) : QS X i (nxF X (nxF X j 34) 41 + 1) (ys ++ cutL X j (nxF X j 34) ++ b) := by
  obtain ⟨g1, g2⟩ := QS_hx h hn h1
  have hge := nx_ge X j 34
  refine ⟨by have := h.1; omega, by omega, fun k p out => ?_⟩
  rw [run_cut X i (nxF X (nxF X j 34) 41) _ (by have := h.1; omega) (by omega) (by omega), g2, run_one X _ h2, nx_at X _ 41 h2]
  simp only [step]
  rw [if_pos trivial, h3]

/-! the same with the places as letters -/
theorem QK_wrong {X : List Int} {i j k : Nat} {ys : List Int} (h : QS X i j ys) (hk : nxF X j 34 = k) (c : Int) (hn : k + 1 < X.length) (hc : X[k + 1] = c) (h1 : ¬ c = 40) (h2 : ¬ c ≤ 32) : QE X i 15 := by
  subst hk; subst hc; exact QS_wrong h hn h1 h2
theorem QK_long {X : List Int} {i j k : Nat} {ys : List Int} (h : QS X i j ys) (hk : nxF X j 34 = k) (hn : k < X.length) (h1 : ∀ g : k + 1 < X.length, X[k + 1] ≤ 32) (hl : 255 < (ys ++ cutL X j k).length) : QE X i 3 := by
  subst hk; exact QS_long h hn h1 hl
theorem QK_done {X : List Int} {i j k : Nat} {ys : List Int} (h : QS X i j ys) (hk : nxF X j 34 = k) (hn : k < X.length) (h1 : ∀ g : k + 1 < X.length, X[k + 1] ≤ 32) (hl : ¬ 255 < (ys ++ cutL X j k).length) : QO X i (k + 1) (ys ++ cutL X j k) := by
  subst hk; exact QS_done h hn h1 hl
theorem QK_hopen {X : List Int} {i j k : Nat} {ys : List Int} (h : QS X i j ys) (hk : nxF X j 34 = k) (hn : k + 1 < X.length) (h1 : X[k + 1] = 40) (h2 : nxF X k 41 = X.length) : QE X i 15 := by
  subst hk; exact QS_hopen h hn h1 h2
theorem QK_hx {X : List Int} {i j k m : Nat} {ys : List Int} (h : QS X i j ys) (hk : nxF X j 34 = k) (hn : k + 1 < X.length) (h1 : X[k + 1] = 40) (hm : nxF X k 41 = m) : k + 2 ≤ m := by
  subst hk; subst hm; exact (QS_hx h hn h1).1
theorem QK_hbad {X : List Int} {i j k m : Nat} {ys : List Int} (h : QS X i j ys) (hk : nxF X j 34 = k) (hn : k + 1 < X.length) (h1 : X[k + 1] = 40) (hm : nxF X k 41 = m) (h2 : m < X.length) (h3 : hexG none (cutL X (k + 2) m) = none) : QE X i 15 := by
  subst hk; subst hm; exact QS_hbad h hn h1 h2 h3
theorem QK_hon {X : List Int} {i j k m : Nat} {ys b : List Int} (h : QS X i j ys) (hk : nxF X j 34 = k) (hn : k + 1 < X.length) (h1 : X[k + 1] = 40) (hm : nxF X k 41 = m) (h2 : m < X.length) (h3 : hexG none (cutL X (k + 2) m) = some b) : QS X i (m + 1) (ys ++ cutL X j k ++ b) := by
  subst hk; subst hm; exact QS_hon h hn h1 h2 h3
end Go.Proofs.YtpjkjkjoaapdiaaDoor
