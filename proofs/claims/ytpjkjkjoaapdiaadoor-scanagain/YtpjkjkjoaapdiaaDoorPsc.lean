/-
  A source text cut into tokens, and tokens shown, as plain functions of lists of bytes: one byte after the other, by the place where the reading stands. No Go text in sight.
-/
import Derived.Test.YtpjkjkjoaapdiaaDoorDsh
namespace Go.Proofs.YtpjkjkjoaapdiaaDoor
set_option linter.unusedVariables false
set_option linter.unusedSimpArgs false

/-- a token: its kind, its text, where it begins -/
abbrev Tk := Int × List Int × Int

/-- where the reading stands: between tokens; in a word; in a remark to the line's end; in one in brackets; in a text that is shown; in a quoted text; behind a quote in it; in its digits; at an error -/
inductive Sc
  | btw
  | wrd (w : List Int) (p : Int)
  | cmt
  | par
  | sho (t : List Int) (p : Int)
  | qt (k : Int) (t : List Int) (p : Int)
  | qq (k : Int) (t : List Int) (p : Int)
  | hx (k : Int) (t h : List Int) (p : Int)
  | ert
  | erl

/-- bytes told by digits of base 16, blanks between them left out -/
def hexG : Option Int → List Int → Option (List Int)
  | none, [] => some []
  | some _, [] => none
  | o, c :: r => if c ≤ 32 then hexG o r else if isD c 16 = false then none else
    match o with
    | none => hexG (some (vl c 16)) r
    | some n => (hexG none r).map ((n * 16 + vl c 16) :: ·)
def spec (w : List Int) : Bool := decide (w = [92] ∨ w = [40] ∨ w = [46, 40] ∨ w = [34] ∨ w = [46, 34])
/-- a word's end, by the blank c -/
def wend (w : List Int) (p c : Int) (out : List Tk) : Sc × List Tk :=
  if w = [92] then (if c = 10 then .btw else .cmt, out) else if w = [40] then (.par, out) else if w = [46, 40] then (.sho [] p, out)
  else if w = [34] then (.qt 2 [] p, out) else if w = [46, 34] then (.qt 3 [] p, out) else (.btw, out ++ [(1, w.map sm, p)])
def fin (k : Int) (t : List Int) (p : Int) (out : List Tk) : Sc × List Tk := if 255 < t.length then (.erl, out) else (.btw, out ++ [(k, t, p)])
/-- one byte more, at place i -/
def step (i c : Int) (s : Sc) (out : List Tk) : Sc × List Tk :=
  match s with
  | .btw => if c ≤ 32 then (.btw, out) else (.wrd [c] i, out)
  | .wrd w p => if c ≤ 32 then wend w p c out else (.wrd (w ++ [c]) p, out)
  | .cmt => (if c = 10 then .btw else .cmt, out)
  | .par => (if c = 41 then .btw else .par, out)
  | .sho t p => if c = 41 then fin 3 t p out else (.sho (t ++ [c]) p, out)
  | .qt k t p => if c = 34 then (.qq k t p, out) else (.qt k (t ++ [c]) p, out)
  | .qq k t p => if c = 40 then (.hx k t [] p, out) else if c ≤ 32 then fin k t p out else (.ert, out)
  | .hx k t h p => if c = 41 then (match hexG none h with
      | none => (.ert, out)
      | some b => (.qt k (t ++ b) p, out)) else (.hx k t (h ++ [c]) p, out)
  | .ert => (.ert, out)
  | .erl => (.erl, out)
def run (i : Int) : List Int → Sc × List Tk → Sc × List Tk
  | [], s => s
  | c :: l, s => run (i + 1) l (step i c s.1 s.2)
/-- the text's end -/
def eof (s : Sc × List Tk) : List Tk × Int :=
  match s.1 with
  | .btw => (s.2, 0)
  | .cmt => (s.2, 0)
  | .wrd w p => if w = [92] then (s.2, 0) else if spec w = true then ([], 15) else (s.2 ++ [(1, w.map sm, p)], 0)
  | .qq k t p => if 255 < t.length then ([], 3) else (s.2 ++ [(k, t, p)], 0)
  | .ert => ([], 15)
  | .erl => ([], 3)
  | .par => ([], 15)
  | .sho _ _ => ([], 15)
  | .qt _ _ _ => ([], 15)
  | .hx _ _ _ _ => ([], 15)
/-- what Cut answers -/
def cutF (X : List Int) : List Tk × Int := if 4096 < X.length then ([], 3) else eof (run 0 X (.btw, []))

theorem run_app (a b : List Int) : ∀ (i : Int) (s : Sc × List Tk), run i (a ++ b) s = run (i + a.length) b (run i a s) := by
  induction a with
  | nil => intro i s; simp [run]
  | cons c a ih =>
    intro i s
    simp only [List.cons_append, run, ih, List.length_cons]
    congr 1
    omega
theorem run_ert (l : List Int) (out : List Tk) : ∀ i, run i l (.ert, out) = (.ert, out) := by
  induction l with
  | nil => intro i; rfl
  | cons c l ih => intro i; simp only [run, step]; exact ih _
theorem run_erl (l : List Int) (out : List Tk) : ∀ i, run i l (.erl, out) = (.erl, out) := by
  induction l with
  | nil => intro i; rfl
  | cons c l ih => intro i; simp only [run, step]; exact ih _

/-! places shifted -/
def shS (d : Int) : Sc → Sc
  | .wrd w p => .wrd w (p + d)
  | .sho t p => .sho t (p + d)
  | .qt k t p => .qt k t (p + d)
  | .qq k t p => .qq k t (p + d)
  | .hx k t h p => .hx k t h (p + d)
  | .btw => .btw
  | .cmt => .cmt
  | .par => .par
  | .ert => .ert
  | .erl => .erl
def shK (d : Int) (x : Tk) : Tk := (x.1, x.2.1, x.2.2 + d)
theorem step_shift (d : Int) (x : List Tk) (i c : Int) (s : Sc) (out : List Tk) :
    step (i + d) c (shS d s) (x ++ out.map (shK d)) = (shS d (step i c s out).1, x ++ (step i c s out).2.map (shK d)) := by
  cases s with
  | btw => simp only [step, shS]; split <;> rfl
  | wrd w p =>
    simp only [step, shS]
    split
    · unfold wend
      split
      · split <;> rfl
      · split
        · rfl
        · split
          · rfl
          · split
            · rfl
            · split
              · rfl
              · simp [shS, shK]
    · rfl
  | cmt => simp only [step, shS]; split <;> rfl
  | par => simp only [step, shS]; split <;> rfl
  | sho t p =>
    simp only [step, shS]
    split
    · unfold fin; split <;> simp [shS, shK]
    · rfl
  | qt k t p => simp only [step, shS]; split <;> rfl
  | qq k t p =>
    simp only [step, shS]
    split
    · rfl
    · split
      · unfold fin; split <;> simp [shS, shK]
      · rfl
  | hx k t h p =>
    simp only [step, shS]
    split
    · cases hexG none h <;> rfl
    · rfl
  | ert => rfl
  | erl => rfl
theorem run_shift (d : Int) (x : List Tk) (l : List Int) : ∀ (i : Int) (s : Sc) (out : List Tk),
    run (i + d) l (shS d s, x ++ out.map (shK d)) = (shS d (run i l (s, out)).1, x ++ (run i l (s, out)).2.map (shK d)) := by
  induction l with
  | nil => intro i s out; rfl
  | cons c l ih =>
    intro i s out
    simp only [run]
    rw [step_shift, show i + d + 1 = (i + 1) + d by omega, ih]
theorem eof_shift (d : Int) (x : List Tk) (s : Sc × List Tk) : eof (shS d s.1, x ++ s.2.map (shK d)) = if (eof s).2 = 0 then (x ++ (eof s).1.map (shK d), 0) else ([], (eof s).2) := by
  obtain ⟨s, out⟩ := s
  cases s with
  | wrd w p =>
    simp only [eof, shS]
    split
    · simp
    · split
      · simp
      · simp [shK]
  | qq k t p =>
    simp only [eof, shS]
    split
    · simp
    · simp [shK]
  | ert => simp [eof, shS]
  | erl => simp [eof, shS]
  | btw => simp [eof, shS]
  | cmt => simp [eof, shS]
  | par => simp [eof, shS]
  | sho t p => simp [eof, shS]
  | qt k t p => simp [eof, shS]
  | hx k t h p => simp [eof, shS]
/-- what was right to the end is right with a line's end behind it -/
theorem eof_line (i : Int) (s : Sc) (out x : List Tk) (h : eof (s, out) = (x, 0)) : step i 10 s out = (.btw, x) := by
  cases s with
  | btw => simp [eof] at h; subst h; simp [step]
  | cmt => simp [eof] at h; subst h; simp [step]
  | wrd w p =>
    simp only [eof] at h
    simp only [step]
    rw [if_pos (by omega)]
    unfold wend
    split at h
    · rename_i hw
      simp at h
      rw [if_pos hw, if_pos rfl, h]
    · rename_i hw
      split at h
      · simp at h
      · rename_i hs
        simp [spec] at hs
        simp at h
        rw [if_neg hw, if_neg hs.2.1, if_neg hs.2.2.1, if_neg hs.2.2.2.1, if_neg hs.2.2.2.2, h]
  | qq k t p =>
    simp only [eof] at h
    simp only [step]
    rw [if_neg (by omega), if_pos (by omega)]
    unfold fin
    split at h
    · simp at h
    · rename_i hl
      simp at h
      rw [if_neg hl, h]
  | ert => simp [eof] at h
  | erl => simp [eof] at h
  | par => simp [eof] at h
  | sho t p => simp [eof] at h
  | qt k t p => simp [eof] at h
  | hx k t h' p => simp [eof] at h
/-- two texts with a line's end between -/
theorem cut_join (a b : List Int) (x y : List Tk) (ha : cutF a = (x, 0)) (hb : cutF b = (y, 0)) (hl : a.length + b.length < 4096) : cutF (a ++ 10 :: b) = (x ++ y.map (shK (a.length + 1)), 0) := by
  unfold cutF at ha hb ⊢
  rw [if_neg (by omega)] at ha hb
  rw [if_neg (by simp; omega)]
  rw [run_app]
  obtain ⟨s, out, hs⟩ : ∃ s out, run 0 a (.btw, []) = (s, out) := ⟨_, _, rfl⟩
  rw [hs] at ha ⊢
  have h1 := eof_line (0 + (a.length : Int)) s out x ha
  show eof (run (0 + (a.length : Int) + 1) b (step (0 + (a.length : Int)) 10 s out)) = _
  rw [h1]
  have h2 := run_shift ((a.length : Int) + 1) x b 0 .btw []
  rw [List.map_nil, List.append_nil, show shS ((a.length : Int) + 1) .btw = .btw from rfl] at h2
  rw [show 0 + (a.length : Int) + 1 = 0 + ((a.length : Int) + 1) by omega, h2, eof_shift, hb]
  rfl

/-! tokens shown -/
def hxd (n : Int) : Int := dg n
def esc (c : Int) : List Int := if c = 34 ∨ c < 32 ∨ 126 < c then [34, 40, hxd (c / 16), hxd (c % 16), 41] else [c]
def tokT (k : Int) (t : List Int) : List Int := if k = 1 then t else (if k = 3 then [46] else []) ++ ([34, 32] ++ (t.flatMap esc ++ [34]))
def good (k : Int) (t : List Int) : Bool := decide ((k = 2 ∨ k = 3) ∧ t.length ≤ 255 ∨ k = 1 ∧ t ≠ [] ∧ t.map sm = t ∧ (∀ c ∈ t, 32 < c)) && !(decide (k = 1) && spec t)
/-- their texts, a blank between two -/
def shwT : List (Int × List Int) → List Int
  | [] => []
  | x :: r => 32 :: (tokT x.1 x.2 ++ shwT r)
def shwF (l : List (Int × List Int)) : List Int × Int := if l.all (fun x => good x.1 x.2) = true then ((shwT l).drop 1, 0) else ([], 1)
/-- where the reading stands behind a token's text -/
def pend (k : Int) (t : List Int) (p : Int) : Sc := if k = 1 then .wrd t p else .qq k t p

theorem hex_back (c : Int) (h0 : 0 ≤ c) (h1 : c < 256) : hexG none [hxd (c / 16), hxd (c % 16)] = some [c] := by
  have hd : ∀ n : Int, 0 ≤ n → n < 16 → ¬ dg n ≤ 32 ∧ isD (dg n) 16 = true ∧ vl (dg n) 16 = n := by
    intro n n0 n1
    obtain ⟨i1, i2, i3, i4, i5⟩ := dg_isD 16 n (by omega) (by omega) n0 n1
    refine ⟨?_, i1, i2⟩
    unfold dg
    omega
  obtain ⟨a1, a2, a3⟩ := hd (c / 16) (by omega) (by omega)
  obtain ⟨b1, b2, b3⟩ := hd (c % 16) (by omega) (by omega)
  unfold hxd
  simp only [hexG]
  rw [if_neg a1, if_neg (by rw [a2]; decide), a3, if_neg b1, if_neg (by rw [b2]; decide), b3]
  simp
  omega
theorem run_esc (i k p : Int) (t : List Int) (out : List Tk) (c : Int) (h0 : 0 ≤ c) (h1 : c < 256) : run i (esc c) (.qt k t p, out) = (.qt k (t ++ [c]) p, out) := by
  unfold esc
  split
  · have e := hex_back c h0 h1
    have n1 : ¬ hxd (c / 16) = 41 := by unfold hxd dg; omega
    have n2 : ¬ hxd (c % 16) = 41 := by unfold hxd dg; omega
    simp [run, step, n1, n2, e]
  · rename_i h
    simp only [run, step]
    rw [if_neg (by omega)]
theorem run_escs (k p : Int) (out : List Tk) (t : List Int) (hb : ∀ c ∈ t, 0 ≤ c ∧ c < 256) : ∀ (i : Int) (u : List Int), run i (t.flatMap esc) (.qt k u p, out) = (.qt k (u ++ t) p, out) := by
  induction t with
  | nil => intro i u; simp [run]
  | cons c t ih =>
    intro i u
    rw [List.flatMap_cons, run_app, run_esc i k p u out c (hb c (by simp)).1 (hb c (by simp)).2, ih (fun x hx => hb x (by simp [hx]))]
    simp
theorem run_word (t : List Int) (h : ∀ c ∈ t, 32 < c) (p : Int) (out : List Tk) : ∀ (i : Int) (w : List Int), run i t (.wrd w p, out) = (.wrd (w ++ t) p, out) := by
  induction t with
  | nil => intro i w; simp [run]
  | cons c t ih =>
    intro i w
    have hc := h c (by simp)
    simp only [run, step]
    rw [if_neg (by omega), ih (fun x hx => h x (by simp [hx]))]
    simp
theorem run_tok (i : Int) (k : Int) (t : List Int) (out : List Tk) (hb : ∀ c ∈ t, 0 ≤ c ∧ c < 256) (hg : good k t = true) : run i (tokT k t) (.btw, out) = (pend k t i, out) := by
  simp [good] at hg
  obtain ⟨hg, hs⟩ := hg
  unfold tokT pend
  rcases hg with ⟨hk, hl⟩ | ⟨rfl, hne, hsm, hbl⟩
  · rcases hk with rfl | rfl
    · rw [if_neg (by omega), if_neg (by omega), if_neg (by omega), List.nil_append, run_app, run_app]
      have e : run i [34, 32] (.btw, out) = (.qt 2 [] i, out) := by simp [run, step, wend]
      rw [e, run_escs 2 i out t hb]
      simp [run, step]
    · rw [if_neg (by omega), if_pos rfl, if_neg (by omega), run_app, run_app, run_app]
      have e : run i [46] (.btw, out) = (.wrd [46] i, out) := by simp [run, step]
      have e2 : ∀ j, run j [34, 32] (.wrd [46] i, out) = (.qt 3 [] i, out) := by intro j; simp [run, step, wend]
      rw [e, e2, run_escs 3 i out t hb]
      simp [run, step]
  · rw [if_pos rfl, if_pos rfl]
    cases t with
    | nil => exact absurd rfl hne
    | cons c t =>
      have hc := hbl c (by simp)
      simp only [run, step]
      rw [if_neg (by omega), run_word t (fun x hx => hbl x (by simp [hx]))]
      simp
theorem pend_blank (i : Int) (k : Int) (t : List Int) (p : Int) (out : List Tk) (hg : good k t = true) : step i 32 (pend k t p) out = (.btw, out ++ [(k, t, p)]) := by
  simp [good] at hg
  obtain ⟨hg, hs⟩ := hg
  unfold pend
  rcases hg with ⟨hk, hl⟩ | ⟨rfl, hne, hsm, hbl⟩
  · rw [if_neg (by omega)]
    simp only [step]
    rw [if_neg (by omega), if_pos (by omega)]
    unfold fin
    rw [if_neg (by omega)]
  · rw [if_pos rfl]
    have hs2 : spec t = false := by simpa using hs
    simp [spec] at hs2
    simp only [step]
    rw [if_pos (by omega)]
    unfold wend
    rw [if_neg hs2.1, if_neg hs2.2.1, if_neg hs2.2.2.1, if_neg hs2.2.2.2.1, if_neg hs2.2.2.2.2, hsm]
theorem pend_eof (k : Int) (t : List Int) (p : Int) (out : List Tk) (hg : good k t = true) : eof (pend k t p, out) = (out ++ [(k, t, p)], 0) := by
  simp [good] at hg
  obtain ⟨hg, hs⟩ := hg
  unfold pend
  rcases hg with ⟨hk, hl⟩ | ⟨rfl, hne, hsm, hbl⟩
  · rw [if_neg (by omega)]
    simp only [eof]
    rw [if_neg (by omega)]
  · rw [if_pos rfl]
    have hs2 : spec t = false := by simpa using hs
    have hs3 := hs2
    simp [spec] at hs3
    simp only [eof]
    rw [if_neg hs3.1, if_neg (by rw [hs2]; decide), hsm]
/-- the places at which tokens begin that are shown from place i on -/
def plc : Int → List (Int × List Int) → List Tk
  | _, [] => []
  | i, x :: r => (x.1, x.2, i) :: plc (i + (tokT x.1 x.2).length + 1) r
theorem run_shw (l : List (Int × List Int)) (hb : ∀ x ∈ l, ∀ c ∈ x.2, 0 ≤ c ∧ c < 256) (hg : ∀ x ∈ l, good x.1 x.2 = true) : ∀ (i : Int) (k p : Int) (t : List Int) (out : List Tk), good k t = true →
    eof (run i (shwT l) (pend k t p, out)) = (out ++ (k, t, p) :: plc (i + 1) l, 0) := by
  induction l with
  | nil => intro i k p t out h; simp only [shwT, run, plc]; exact pend_eof k t p out h
  | cons x l ih =>
    intro i k p t out h
    simp only [shwT, run]
    rw [pend_blank i k t p out h, run_app, run_tok (i + 1) x.1 x.2 _ (hb x (by simp)) (hg x (by simp)), ih (fun y hy => hb y (by simp [hy])) (fun y hy => hg y (by simp [hy])) _ _ _ _ _ (hg x (by simp))]
    simp only [plc, List.append_assoc, List.cons_append, List.nil_append]
/-- what is shown is cut to the same tokens -/
theorem cut_shw (l : List (Int × List Int)) (hb : ∀ x ∈ l, ∀ c ∈ x.2, 0 ≤ c ∧ c < 256) (hg : ∀ x ∈ l, good x.1 x.2 = true) (hl : ((shwT l).drop 1).length ≤ 4096) : cutF ((shwT l).drop 1) = (plc 0 l, 0) := by
  unfold cutF
  rw [if_neg (by omega)]
  cases l with
  | nil => rfl
  | cons x l =>
    have e : (shwT (x :: l)).drop 1 = tokT x.1 x.2 ++ shwT l := by simp [shwT]
    rw [e, run_app, run_tok 0 x.1 x.2 [] (hb x (by simp)) (hg x (by simp)), run_shw l (fun y hy => hb y (by simp [hy])) (fun y hy => hg y (by simp [hy])) _ _ _ _ _ (hg x (by simp))]
    simp [plc]
theorem plc_len (l : List (Int × List Int)) : ∀ i, (plc i l).length = l.length := by
  induction l with
  | nil => intro i; rfl
  | cons x l ih => intro i; simp [plc, ih]
theorem plc_back (l : List (Int × List Int)) : ∀ i, (plc i l).map (fun x => (x.1, x.2.1)) = l := by
  induction l with
  | nil => intro i; rfl
  | cons x l ih => intro i; simp [plc, ih]

/-! what is cut can be shown -/
def tkOk (x : Tk) : Prop := good x.1 x.2.1 = true ∧ bytesL x.2.1
def scOk : Sc → Prop
  | .wrd w _ => w ≠ [] ∧ ∀ c ∈ w, 32 < c ∧ c < 256
  | .sho t _ => bytesL t
  | .qt k t _ => (k = 2 ∨ k = 3) ∧ bytesL t
  | .qq k t _ => (k = 2 ∨ k = 3) ∧ bytesL t
  | .hx k t h _ => (k = 2 ∨ k = 3) ∧ bytesL t ∧ bytesL h
  | .btw => True
  | .cmt => True
  | .par => True
  | .ert => True
  | .erl => True
theorem snoc_ok {P : Int → Prop} {t : List Int} {c : Int} (h : ∀ x ∈ t, P x) (hc : P c) : ∀ x ∈ t ++ [c], P x := by
  intro x hx
  rw [List.mem_append] at hx
  rcases hx with hx | hx
  · exact h x hx
  · simp at hx; subst hx; exact hc
theorem bytes_join {a b : List Int} (h : bytesL a) (g : bytesL b) : bytesL (a ++ b) := fun x hx => (List.mem_append.1 hx).elim (h x) (g x)
theorem tks_ok {out : List Tk} {x : Tk} (h : ∀ y ∈ out, tkOk y) (hx : tkOk x) : ∀ y ∈ out ++ [x], tkOk y := by
  intro y hy
  rw [List.mem_append] at hy
  rcases hy with hy | hy
  · exact h y hy
  · simp at hy; subst hy; exact hx
theorem vl_16 (c : Int) : 0 ≤ vl c 16 ∧ vl c 16 < 16 ∨ ¬ (0 ≤ c ∧ c < 256) := by
  by_cases hc : 0 ≤ c ∧ c < 256
  · left
    unfold vl
    split
    · rename_i h
      have := dv_bd c hc.1 hc.2
      unfold isD at h
      simp at h
      omega
    · omega
  · exact Or.inr hc
theorem hexG_bytes : ∀ (h : List Int) (o : Option Int) (b : List Int), bytesL h → (∀ n, o = some n → 0 ≤ n ∧ n < 16) → hexG o h = some b → bytesL b
  | [], none, b, _, _, e => by
    simp [hexG] at e
    subst e
    intro x hx
    simp at hx
  | [], some n, b, _, _, e => by simp [hexG] at e
  | c :: r, o, b, hb, ho, e => by
    have hr : bytesL r := fun x hx => hb x (by simp [hx])
    have hc := hb c (by simp)
    have hv : 0 ≤ vl c 16 ∧ vl c 16 < 16 := by
      rcases vl_16 c with h | h
      · exact h
      · exact absurd hc h
    cases o with
    | none =>
      simp only [hexG] at e
      split at e
      · exact hexG_bytes r none b hr ho e
      · split at e
        · cases e
        · exact hexG_bytes r _ b hr (fun n hn => by cases hn; exact hv) e
    | some n =>
      simp only [hexG] at e
      split at e
      · exact hexG_bytes r _ b hr ho e
      · split at e
        · cases e
        · have hn := ho n rfl
          simp only [Option.map_eq_some_iff] at e
          obtain ⟨b', e1, rfl⟩ := e
          have i := hexG_bytes r none b' hr (fun m hm => by cases hm) e1
          intro x hx
          rw [List.mem_cons] at hx
          rcases hx with rfl | hx
          · omega
          · exact i x hx
theorem sm_sm (c : Int) : sm (sm c) = sm c := by unfold sm; omega
theorem sm_hi (c : Int) (h : 32 < c) : 32 < sm c := by unfold sm; omega
theorem sm_spec (w : List Int) : spec (w.map sm) = spec w := by
  have h : ∀ c k : Int, (k = 92 ∨ k = 40 ∨ k = 46 ∨ k = 34) → (sm c = k ↔ c = k) := by intro c k hk; unfold sm; omega
  unfold spec
  congr 1
  have l1 : ∀ k : Int, (k = 92 ∨ k = 40 ∨ k = 46 ∨ k = 34) → (w.map sm = [k] ↔ w = [k]) := by
    intro k hk
    match w with
    | [] => simp
    | [a] => simp [h a k hk]
    | _ :: _ :: _ => simp
  have l2 : ∀ k j : Int, (k = 92 ∨ k = 40 ∨ k = 46 ∨ k = 34) → (j = 92 ∨ j = 40 ∨ j = 46 ∨ j = 34) → (w.map sm = [k, j] ↔ w = [k, j]) := by
    intro k j hk hj
    match w with
    | [] => simp
    | [a] => simp
    | [a, b] => simp [h a k hk, h b j hj]
    | _ :: _ :: _ :: _ => simp
  rw [l1 92 (by omega), l1 40 (by omega), l2 46 40 (by omega) (by omega), l1 34 (by omega), l2 46 34 (by omega) (by omega)]
theorem word_ok (w : List Int) (p : Int) (h1 : w ≠ []) (h2 : ∀ c ∈ w, 32 < c ∧ c < 256) (h3 : spec w = false) : tkOk (1, w.map sm, p) := by
  refine ⟨?_, ?_⟩
  · simp only [good]
    rw [sm_spec, h3]
    simp [h1, sm_sm]
    intro c hc
    exact sm_hi c (h2 c hc).1
  · intro x hx
    simp only [List.mem_map] at hx
    obtain ⟨c, hc, rfl⟩ := hx
    have := h2 c hc
    exact sm_bd c (by omega) (by omega)
theorem text_ok (k : Int) (t : List Int) (p : Int) (hk : k = 2 ∨ k = 3) (hb : bytesL t) (hl : ¬ 255 < t.length) : tkOk (k, t, p) := by
  refine ⟨?_, hb⟩
  have : ¬ k = 1 := by omega
  simp [good, this, hk]
  omega
theorem step_ok (i c : Int) (h0 : 0 ≤ c) (h1 : c < 256) (s : Sc) (out : List Tk) (hs : scOk s) (ho : ∀ x ∈ out, tkOk x) : scOk (step i c s out).1 ∧ ∀ x ∈ (step i c s out).2, tkOk x := by
  cases s with
  | btw =>
    simp only [step]
    split
    · exact ⟨trivial, ho⟩
    · exact ⟨⟨by simp, by simp; omega⟩, ho⟩
  | wrd w p =>
    simp only [step]
    split
    · unfold wend
      split
      · refine ⟨?_, ho⟩
        show scOk (if c = 10 then Sc.btw else Sc.cmt)
        split <;> trivial
      · split
        · exact ⟨trivial, ho⟩
        · split
          · exact ⟨fun x hx => by simp at hx, ho⟩
          · split
            · exact ⟨⟨Or.inl rfl, fun x hx => by simp at hx⟩, ho⟩
            · split
              · exact ⟨⟨Or.inr rfl, fun x hx => by simp at hx⟩, ho⟩
              · rename_i n1 n2 n3 n4 n5
                exact ⟨trivial, tks_ok ho (word_ok w p hs.1 hs.2 (by simp [spec, n1, n2, n3, n4, n5]))⟩
    · exact ⟨⟨by simp, snoc_ok hs.2 ⟨by omega, h1⟩⟩, ho⟩
  | cmt => simp only [step]; refine ⟨?_, ho⟩; split <;> trivial
  | par => simp only [step]; refine ⟨?_, ho⟩; split <;> trivial
  | sho t p =>
    simp only [step]
    split
    · unfold fin
      split
      · exact ⟨trivial, ho⟩
      · rename_i hl
        exact ⟨trivial, tks_ok ho (text_ok 3 t p (Or.inr rfl) hs hl)⟩
    · exact ⟨snoc_ok hs ⟨h0, h1⟩, ho⟩
  | qt k t p =>
    simp only [step]
    split
    · exact ⟨hs, ho⟩
    · exact ⟨⟨hs.1, snoc_ok hs.2 ⟨h0, h1⟩⟩, ho⟩
  | qq k t p =>
    simp only [step]
    split
    · exact ⟨⟨hs.1, hs.2, fun x hx => by simp at hx⟩, ho⟩
    · split
      · unfold fin
        split
        · exact ⟨trivial, ho⟩
        · rename_i hl
          exact ⟨trivial, tks_ok ho (text_ok k t p hs.1 hs.2 hl)⟩
      · exact ⟨trivial, ho⟩
  | hx k t h p =>
    simp only [step]
    split
    · cases hq : hexG none h with
      | none => exact ⟨trivial, ho⟩
      | some b => exact ⟨⟨hs.1, bytes_join hs.2.1 (hexG_bytes h none b hs.2.2 (fun n hn => by cases hn) hq)⟩, ho⟩
    · exact ⟨⟨hs.1, hs.2.1, snoc_ok hs.2.2 ⟨h0, h1⟩⟩, ho⟩
  | ert => exact ⟨trivial, ho⟩
  | erl => exact ⟨trivial, ho⟩
theorem run_ok (l : List Int) (hb : bytesL l) : ∀ (i : Int) (s : Sc) (out : List Tk), scOk s → (∀ x ∈ out, tkOk x) → scOk (run i l (s, out)).1 ∧ ∀ x ∈ (run i l (s, out)).2, tkOk x := by
  induction l with
  | nil => intro i s out h1 h2; exact ⟨h1, h2⟩
  | cons c l ih =>
    intro i s out h1 h2
    have hc := hb c (by simp)
    have h3 := step_ok i c hc.1 hc.2 s out h1 h2
    simp only [run]
    exact ih (fun x hx => hb x (by simp [hx])) _ _ _ h3.1 h3.2
theorem eof_ok (s : Sc) (out x : List Tk) (hs : scOk s) (ho : ∀ x ∈ out, tkOk x) (h : (eof (s, out)).1 = x) : ∀ y ∈ x, tkOk y := by
  subst h
  cases s with
  | btw => exact ho
  | cmt => exact ho
  | wrd w p =>
    simp only [eof]
    split
    · exact ho
    · split
      · intro y hy; simp at hy
      · rename_i h1 h2
        exact tks_ok ho (word_ok w p hs.1 hs.2 (by simpa using h2))
  | qq k t p =>
    simp only [eof]
    split
    · intro y hy; simp at hy
    · rename_i hl
      exact tks_ok ho (text_ok k t p hs.1 hs.2 hl)
  | par => intro y hy; simp [eof] at hy
  | sho t p => intro y hy; simp [eof] at hy
  | qt k t p => intro y hy; simp [eof] at hy
  | hx k t h p => intro y hy; simp [eof] at hy
  | ert => intro y hy; simp [eof] at hy
  | erl => intro y hy; simp [eof] at hy
theorem cut_ok (X : List Int) (hb : bytesL X) : ∀ y ∈ (cutF X).1, tkOk y := by
  unfold cutF
  split
  · intro y hy; simp at hy
  · have h := run_ok X hb 0 .btw [] trivial (fun x hx => by simp at hx)
    exact eof_ok _ _ _ h.1 h.2 rfl
end Go.Proofs.YtpjkjkjoaapdiaaDoor
