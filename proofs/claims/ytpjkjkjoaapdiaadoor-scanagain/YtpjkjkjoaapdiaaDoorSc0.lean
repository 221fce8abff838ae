/-
  How package scan goes over a text: the first byte of a kind, digits two by two, quoted texts by their quotes; and what that says of the reading. No Go text in sight.
-/
import Derived.Test.YtpjkjkjoaapdiaaDoorPsr
namespace Go.Proofs.YtpjkjkjoaapdiaaDoor
set_option linter.unusedVariables false
set_option linter.unusedSimpArgs false

/-- the first place, from i on, whose byte is such -/
def fdF (p : Int → Bool) (X : List Int) (i : Nat) : Nat := i + ((X.drop i).takeWhile (fun x => !p x)).length
theorem fd_hit (p : Int → Bool) (X : List Int) (i : Nat) (h : i < X.length) (hc : p X[i] = true) : fdF p X i = i := by
  unfold fdF
  rw [List.drop_eq_getElem_cons h, List.takeWhile_cons, if_neg (by simp [hc])]
  rfl
theorem fd_on (p : Int → Bool) (X : List Int) (i : Nat) (h : i < X.length) (hc : p X[i] = false) : fdF p X i = fdF p X (i + 1) := by
  unfold fdF
  rw [List.drop_eq_getElem_cons h, List.takeWhile_cons, if_pos (by simp [hc])]
  simp
  omega
theorem fd_end (p : Int → Bool) (X : List Int) (i : Nat) (h : X.length ≤ i) : fdF p X i = i := by
  unfold fdF
  rw [List.drop_of_length_le h]
  rfl
theorem fd_ge (p : Int → Bool) (X : List Int) (i : Nat) : i ≤ fdF p X i := by unfold fdF; omega
theorem fd_le (p : Int → Bool) (X : List Int) (i : Nat) (h : i ≤ X.length) : fdF p X i ≤ X.length := by
  unfold fdF
  have h1 := (List.takeWhile_sublist (fun x => !p x) (l := X.drop i)).length_le
  rw [List.length_drop] at h1
  omega
def blC (c : Int) : Bool := decide (c ≤ 32)
def soC (c : Int) : Bool := !decide (c ≤ 32)
def grC (c : Int) : Bool := decide (65 ≤ c) && decide (c ≤ 90)
def unC (c : Int) : Bool := decide (c ≤ 32) || (decide (65 ≤ c) && decide (c ≤ 90))
theorem fd_at (p : Int → Bool) (X : List Int) : ∀ (n i : Nat), X.length - i = n → ∀ (h : fdF p X i < X.length), p X[fdF p X i] = true := by
  intro n
  induction n with
  | zero =>
    intro i hn h
    have := fd_ge p X i
    omega
  | succ n ih =>
    intro i hn h
    have hi : i < X.length := by omega
    cases hc : p X[i]
    · have e := fd_on p X i hi hc
      have e2 := ih (i + 1) (by omega) (by rw [← e]; exact h)
      simp only [e]
      exact e2
    · have e := fd_hit p X i hi hc
      simp only [e]
      exact hc
/-- no byte of a text is such -/
theorem fd_all (p : Int → Bool) (X : List Int) : (fdF p X 0 = X.length) ↔ (∀ c ∈ X, p c = false) := by
  unfold fdF
  simp only [List.drop_zero, Nat.zero_add]
  induction X with
  | nil => simp
  | cons a X ih =>
    rw [List.takeWhile_cons]
    cases hp : p a
    · simp [hp, ih]
    · simp [hp]
theorem CR_skip (X : List Int) (t : List Tk) : ∀ (n i : Nat), X.length - i = n → CR X i t = CR X (fdF soC X i) t := by
  intro n
  induction n with
  | zero => intro i hn; rw [fd_end soC X i (by omega)]
  | succ n ih =>
    intro i hn
    have hi : i < X.length := by omega
    by_cases hb : X[i] ≤ 32
    · rw [CR_blank X i t hi hb, fd_on soC X i hi (by simp [soC, hb]), ih (i + 1) (by omega)]
    · rw [fd_hit soC X i hi (by simp [soC]; omega)]
theorem CW_skip (X : List Int) (t : List Tk) (i : Nat) : ∀ (n k : Nat), X.length - k = n → i ≤ k → k ≤ X.length → CW X k (cutL X i k) i t = CW X (fdF blC X k) (cutL X i (fdF blC X k)) i t ∧ WE X (fdF blC X k) := by
  intro n
  induction n with
  | zero =>
    intro k hn hi hk
    rw [fd_end blC X k (by omega)]
    exact ⟨rfl, Or.inl (by omega)⟩
  | succ n ih =>
    intro k hn hi hk
    have hkl : k < X.length := by omega
    by_cases hb : X[k] ≤ 32
    · rw [fd_hit blC X k hkl (by simp [blC, hb])]
      exact ⟨rfl, Or.inr (by rw [blk_in X k _ hkl rfl]; simpa using hb)⟩
    · rw [fd_on blC X k hkl (by simp [blC]; omega), CW_on X i k t hi hkl hb]
      exact ih (k + 1) (by omega) (by omega) (by omega)
theorem CR_all (X : List Int) (t : List Tk) (i : Nat) (h : i < X.length) (hb : ¬ X[i] ≤ 32) : i < fdF blC X i ∧ WE X (fdF blC X i) ∧ CR X i t = CW X (fdF blC X i) (cutL X i (fdF blC X i)) i t := by
  have e := fd_on blC X i h (by simp [blC]; omega)
  have g := fd_ge blC X (i + 1)
  obtain ⟨h1, h2⟩ := CW_skip X t i _ (i + 1) rfl (by omega) (by omega)
  rw [e]
  exact ⟨by omega, h2, by rw [CR_word X i t h hb]; exact h1⟩

/-- where c stands first: -1, or the place -/
def AtB (l : List Int) (c i : Int) : Prop := (i = -1 ∧ ∀ x ∈ l, ¬ x = c) ∨ ∃ k : Nat, i = k ∧ k < l.length ∧ l = l.take k ++ c :: l.drop (k + 1) ∧ ∀ x ∈ l.take k, ¬ x = c
theorem tw_all (c : Int) : ∀ (l : List Int), (∀ x ∈ l, ¬ x = c) → (l.takeWhile (fun x => decide (¬ x = c))) = l
  | [], _ => rfl
  | a :: l, h => by
    rw [List.takeWhile_cons, if_pos (by simpa using h a (by simp)), tw_all c l (fun x hx => h x (by simp [hx]))]
theorem tw_mid (c : Int) (m : List Int) : ∀ (l : List Int), (∀ x ∈ l, ¬ x = c) → ((l ++ c :: m).takeWhile (fun x => decide (¬ x = c))) = l
  | [], _ => by simp
  | a :: l, h => by
    rw [List.cons_append, List.takeWhile_cons, if_pos (by simpa using h a (by simp)), tw_mid c m l (fun x hx => h x (by simp [hx]))]
theorem at_nx {X : List Int} {a : Nat} {c i : Int} (h : AtB (X.drop a) c i) (ha : a ≤ X.length) : (i = -1 ∧ nxF X a c = X.length) ∨ ∃ k : Nat, i = k ∧ nxF X a c = a + k ∧ a + k < X.length := by
  rcases h with ⟨h1, h2⟩ | ⟨k, h1, h2, h3, h4⟩
  · left
    refine ⟨h1, ?_⟩
    unfold nxF
    rw [tw_all c _ h2, List.length_drop]
    omega
  · right
    refine ⟨k, h1, ?_, by rw [List.length_drop] at h2; omega⟩
    unfold nxF
    rw [h3, tw_mid c _ _ h4, List.length_take]
    omega

/-- bytes told by digits of base 16, two by two -/
def pairF : List Int → Option (List Int)
  | [] => some []
  | [_] => none
  | a :: b :: r => if (isD a 16 && isD b 16) = true then (pairF r).map ((vl a 16 * 16 + vl b 16) :: ·) else none
def filB (l : List Int) : List Int := l.filter soC
theorem pair_bad (a : Int) (l : List Int) (h : isD a 16 = false) : pairF (a :: l) = none := by
  cases l with
  | nil => rfl
  | cons b l => simp [pairF, h]
theorem hex_pair : ∀ (h : List Int), hexG none h = pairF (filB h) ∧ ∀ a, isD a 16 = true → hexG (some (vl a 16)) h = pairF (a :: filB h)
  | [] => ⟨rfl, fun a _ => rfl⟩
  | c :: r => by
    obtain ⟨i1, i2⟩ := hex_pair r
    unfold filB at i1 i2 ⊢
    by_cases hb : c ≤ 32
    · have e : (c :: r).filter soC = r.filter soC := by rw [List.filter_cons, if_neg (by simp [soC, hb])]
      rw [e]
      refine ⟨?_, fun a ha => ?_⟩
      · simp only [hexG]; rw [if_pos hb]; exact i1
      · simp only [hexG]; rw [if_pos hb]; exact i2 a ha
    · have e : (c :: r).filter soC = c :: r.filter soC := by rw [List.filter_cons, if_pos (by simp [soC]; omega)]
      rw [e]
      cases hd : isD c 16
      · refine ⟨?_, fun a ha => ?_⟩
        · simp only [hexG]; rw [if_neg hb, if_pos hd, pair_bad c _ hd]
        · simp only [hexG]; rw [if_neg hb, if_pos hd]; simp [pairF, hd]
      · refine ⟨?_, fun a ha => ?_⟩
        · simp only [hexG]; rw [if_neg hb, if_neg (by rw [hd]; decide)]; exact i2 c hd
        · simp only [hexG]; rw [if_neg hb, if_neg (by rw [hd]; decide), i1]
          simp [pairF, ha, hd]
theorem pair_odd : ∀ (l : List Int), l.length % 2 = 1 → pairF l = none
  | [], h => by simp at h
  | [_], _ => rfl
  | a :: b :: r, h => by
    have e := pair_odd r (by simp only [List.length_cons] at h; omega)
    simp [pairF, e]
theorem pair_len : ∀ (l b : List Int), pairF l = some b → 2 * b.length = l.length
  | [], b, h => by simp [pairF] at h; subst h; rfl
  | [_], b, h => by simp [pairF] at h
  | x :: y :: r, b, h => by
    simp only [pairF] at h
    split at h
    · rw [Option.map_eq_some_iff] at h
      obtain ⟨b', e, rfl⟩ := h
      have := pair_len r b' e
      simp only [List.length_cons]
      omega
    · cases h
theorem pair_at (D : List Int) (k : Nat) (h : 2 * k + 1 < D.length) : pairF (D.drop (2 * k)) = if (isD (D[2 * k]'(by omega)) 16 && isD D[2 * k + 1] 16) = true then (pairF (D.drop (2 * (k + 1)))).map ((vl (D[2 * k]'(by omega)) 16 * 16 + vl D[2 * k + 1] 16) :: ·) else none := by
  rw [List.drop_eq_getElem_cons (show 2 * k < D.length by omega), List.drop_eq_getElem_cons h, show 2 * (k + 1) = 2 * k + 1 + 1 by omega]
  simp only [pairF]
theorem filB_len (l : List Int) : (filB l).length ≤ l.length := List.length_filter_le _ _
theorem filB_snoc (l : List Int) (c : Int) : filB (l ++ [c]) = filB l ++ if soC c = true then [c] else [] := by
  unfold filB
  rw [List.filter_append, List.filter_cons, List.filter_nil]
theorem filB_bytes {l : List Int} (h : bytesL l) : bytesL (filB l) := fun x hx => h x (List.mem_filter.1 hx).1

/-- a quoted text from i on ends with the quote ahead of j, as ys -/
def QQ (X : List Int) (i j : Nat) (ys : List Int) : Prop := i < j ∧ j ≤ X.length ∧ (∀ g : j < X.length, ¬ X[j] = 40) ∧ ∀ k p out, run i (cutL X i j) (.qt k [] p, out) = (.qq k ys p, out)
theorem QQ_of {X : List Int} {i j k : Nat} {ys : List Int} (h : QS X i j ys) (hk : nxF X j 34 = k) (hn : k < X.length) (h1 : ∀ g : k + 1 < X.length, ¬ X[k + 1] = 40) : QQ X i (k + 1) (ys ++ cutL X j k) := by
  subst hk
  have hge := nx_ge X j 34
  exact ⟨by have := h.1; omega, by omega, h1, QS_qq h hn⟩
theorem QQ_done {X : List Int} {i j : Nat} {ys : List Int} (h : QQ X i j ys) (hl : ys.length ≤ 255) (h1 : ∀ g : j < X.length, X[j] ≤ 32) : QO X i j ys := by
  refine ⟨h.1, h.2.1, hl, ?_, h.2.2.2⟩
  rcases Nat.lt_or_ge j X.length with g | g
  · right
    rw [blk_in X _ _ g rfl]
    simpa using h1 g
  · left; have := h.2.1; omega
theorem QQ_wrong {X : List Int} {i j : Nat} {ys : List Int} (h : QQ X i j ys) (g : j < X.length) (h1 : ¬ X[j] ≤ 32) : QE X i 15 := by
  intro k p out
  rw [run_rest X i j (by have := h.1; omega) h.2.1, h.2.2.2, List.drop_eq_getElem_cons g]
  simp only [run, step]
  rw [if_neg (h.2.2.1 g), if_neg h1, run_ert]
  rfl
theorem QQ_long {X : List Int} {i j : Nat} {ys : List Int} (h : QQ X i j ys) (hl : 255 < ys.length) (h1 : ∀ g : j < X.length, X[j] ≤ 32) : QE X i 3 := by
  intro k p out
  rw [run_rest X i j (by have := h.1; omega) h.2.1, h.2.2.2]
  rcases Nat.lt_or_ge j X.length with g | g
  · have := h1 g
    rw [List.drop_eq_getElem_cons g]
    simp only [run, step]
    rw [if_neg (by omega), if_pos this]
    unfold fin
    rw [if_pos hl, run_erl]
    rfl
  · rw [List.drop_of_length_le g]
    simp only [run, eof]
    rw [if_pos hl]
/-- too long: an error either way -/
theorem QQ_err {X : List Int} {i j : Nat} {ys : List Int} (h : QQ X i j ys) (hl : 255 < ys.length) : ∃ F, (F = 3 ∨ F = 15) ∧ QE X i F := by
  by_cases h1 : ∀ g : j < X.length, X[j] ≤ 32
  · exact ⟨3, Or.inl rfl, QQ_long h hl h1⟩
  · obtain ⟨g, hg⟩ := Classical.not_forall.1 h1
    exact ⟨15, Or.inr rfl, QQ_wrong h g hg⟩
/-- behind the bracket of digits -/
theorem nx_hex {X : List Int} {j k : Nat} (hk : nxF X j 34 = k) (hn : k + 1 < X.length) (h1 : X[k + 1] = 40) : nxF X k 41 = nxF X (k + 2) 41 := by
  have e0 : X[k]'(by omega) = 34 := by
    subst hk
    exact nx_at X j 34 (by omega)
  rw [nx_on X k 41 (by omega) (by rw [e0]; decide), nx_on X (k + 1) 41 hn (by rw [h1]; decide)]

/-- what one call of next tells: a token (or none), the place behind it -/
def NxOk (X : List Int) (i : Nat) (k : Int) (t : List Int) (p : Int) (b : Nat) : Prop := i < b ∧ b ≤ X.length ∧ ∀ ts, CR X i ts = CR X b (if k = 0 then ts else ts ++ [(k, t, p)])
/-- or an error, which may be told as one of length where the document's answer tells another -/
def NxNo (X : List Int) (i : Nat) (E : Int) : Prop := ∃ F, (E = F ∨ E = 3 ∧ F = 15) ∧ (E = 3 ∨ E = 15) ∧ ∀ ts, CR X i ts = ([], F)
end Go.Proofs.YtpjkjkjoaapdiaaDoor
