/-
  Tokens of FCode and their bytes, as lists alone: there and back. No Go text in sight.
-/
import Derived.Test.YtbllblikigogoaaSb
namespace Go.Proofs.Ytbllblikigogoaa
open Go.ChangeShapes Go.WideShapes Go.ChangeAt Go.RowKit
set_option linter.unusedVariables false
set_option linter.unusedSimpArgs false

/-- a token: its code, its number, its text, its offset -/
structure Tq where
  c : Int
  n : Int
  t : List Int
  o : Int
deriving DecidableEq
/-- what stands behind a code -/
def bhF (c : Int) : Nat :=
  if c = 16 then 1 else if c = 17 ∨ c = 195 then 2 else if c = 18 then 3
  else if c = 19 ∨ c = 20 ∨ c = 21 ∨ c = 22 ∨ c = 23 ∨ c = 24 ∨ c = 28 ∨ c = 198 then 4
  else if c = 181 then 5 else if c = 182 ∨ c = 202 then 6 else 0
def cdd (c : Int) : Bool := decide (c = 0) || (decide (16 ≤ c) && decide (c ≤ 4095))
def cbF (c : Int) : List Int := if c ≤ 255 then [c] else [c / 256, c % 256]
def offF (o : Int) (wide : Bool) : Bool := if wide then decide (-32768 ≤ o) && decide (o ≤ 32767) else decide (-128 ≤ o) && decide (o ≤ 127)
def nwF (n : Int) : Bool := decide (2048 ≤ n) && decide (n ≤ 4095)
/-- is it a token, by what stands behind its code? -/
def okB (k : Nat) (t : Tq) (wide : Bool) : Bool :=
  match k with
  | 1 => decide (t.t = []) && decide (t.o = 0)
  | 2 => decide (t.t = []) && decide (t.o = 0) && cdd t.n
  | 3 => decide (t.n = 0) && decide (t.o = 0) && decide (t.t.length ≤ 255)
  | 4 => decide (t.n = 0) && decide (t.t = []) && offF t.o wide
  | 5 => decide (t.t = []) && decide (t.o = 0) && nwF t.n
  | 6 => decide (t.o = 0) && decide (t.t.length ≤ 31) && nwF t.n
  | _ => decide (t.n = 0) && decide (t.t = []) && decide (t.o = 0)
def okQ (t : Tq) (wide : Bool) : Bool := cdd t.c && okB (bhF t.c) t wide
def beQ (k : Nat) (t : Tq) (wide : Bool) : List Int :=
  match k with
  | 1 => [t.n / 16777216 % 256, t.n / 65536 % 256, t.n / 256 % 256, t.n % 256]
  | 2 => cbF t.n
  | 3 => (t.t.length : Int) :: t.t
  | 4 => if wide then [t.o / 256 % 256, t.o % 256] else [t.o % 256]
  | 5 => [t.n / 256 % 256, t.n % 256]
  | 6 => (t.t.length : Int) :: (t.t ++ [t.n / 256 % 256, t.n % 256])
  | _ => []
/-- a token's bytes -/
def byQ (t : Tq) (wide : Bool) : List Int := cbF t.c ++ beQ (bhF t.c) t wide
/-- offsets are wide behind a cc -/
def wdF (wide : Bool) (c : Int) : Bool := wide || decide (c = 204)
def allB : List Tq → Bool → Option (List Int)
  | [], _ => some []
  | t :: l, w => if okQ t w then (allB l (wdF w t.c)).map (byQ t w ++ ·) else none
def finF (B : List Int) (l : List Tq) (w : Bool) : List Int × Int :=
  match allB l w with
  | none => ([], 16)
  | some b => if 8192 < (B ++ b).length then ([], 3) else (B ++ b, 0)
def encF (l : List Tq) (w : Bool) : List Int × Int := finF [] l w
theorem fin_end (B : List Int) (w : Bool) : finF B [] w = if 8192 < B.length then ([], 3) else (B, 0) := by simp [finF, allB]
theorem fin_no (B : List Int) (t : Tq) (l : List Tq) (w : Bool) (h : okQ t w = false) : finF B (t :: l) w = ([], 16) := by simp [finF, allB, h]
theorem fin_ok (B : List Int) (t : Tq) (l : List Tq) (w : Bool) (h : okQ t w = true) : finF B (t :: l) w = finF (B ++ byQ t w) l (wdF w t.c) := by
  simp only [finF, allB, h, if_true]
  cases allB l (wdF w t.c) with
  | none => rfl
  | some b => simp
theorem fin_long (B : List Int) (t : Tq) (l : List Tq) (w : Bool) (h : okQ t w = true) (hB : 8192 < B.length) : finF B (t :: l) w = finF B l (wdF w t.c) := by
  simp only [finF, allB, h, if_true]
  cases allB l (wdF w t.c) with
  | none => rfl
  | some b =>
    simp only [Option.map_some]
    rw [if_pos (by simp only [List.length_append]; omega), if_pos (by simp only [List.length_append]; omega)]

/-! bytes read as tokens -/
def cdP : List Int → Option (Int × List Int)
  | [] => none
  | a :: r => if a = 0 ∨ 16 ≤ a then some (a, r) else
    match r with
    | [] => none
    | b :: r => some (a * 256 + b, r)
def txP : List Int → Option (List Int × List Int)
  | [] => none
  | k :: r => if k ≤ r.length then some (r.take k.toNat, r.drop k.toNat) else none
def twP : List Int → Option (Int × List Int)
  | a :: b :: r => some (a * 256 + b, r)
  | _ => none
def fuP : List Int → Option (Int × List Int)
  | a :: b :: c :: d :: r => some (a * 16777216 + b * 65536 + c * 256 + d, r)
  | _ => none
def sgF (half n : Int) : Int := if half ≤ n then n - 2 * half else n
def ofP (wide : Bool) (l : List Int) : Option (Int × List Int) :=
  if wide then (twP l).map fun x => (sgF 32768 x.1, x.2) else
  match l with
  | [] => none
  | a :: r => some (sgF 128 a, r)
/-- what stands behind a code, read -/
def bePn (k : Nat) (c : Int) (wide : Bool) (r : List Int) : Option (Tq × List Int) :=
  match k with
  | 1 => (fuP r).map fun x => (⟨c, x.1, [], 0⟩, x.2)
  | 2 => (cdP r).map fun x => (⟨c, x.1, [], 0⟩, x.2)
  | 3 => (txP r).map fun x => (⟨c, 0, x.1, 0⟩, x.2)
  | 4 => (ofP wide r).map fun x => (⟨c, 0, [], x.1⟩, x.2)
  | 5 => (twP r).map fun x => (⟨c, x.1, [], 0⟩, x.2)
  | 6 => (txP r).bind fun y => (twP y.2).map fun x => (⟨c, x.1, y.1, 0⟩, x.2)
  | _ => some (⟨c, 0, [], 0⟩, r)
def oneP (b : List Int) (wide : Bool) : Option (Tq × List Int) := (cdP b).bind fun x => bePn (bhF x.1) x.1 wide x.2
def oneF (b : List Int) (wide : Bool) : Option (Tq × List Int) := (oneP b wide).bind fun x => if okQ x.1 wide then some x else none
def decG : Nat → List Int → Bool → Option (List Tq)
  | _, [], _ => some []
  | 0, _ :: _, _ => none
  | n + 1, a :: b, w => (oneF (a :: b) w).bind fun x => (decG n x.2 (wdF w x.1.c)).map (x.1 :: ·)
def decF (b : List Int) (w : Bool) : List Tq × Int :=
  if 8192 < b.length then ([], 3) else
  match decG b.length b w with
  | none => ([], 16)
  | some l => (l, 0)

theorem bh_le (c : Int) : bhF c ≤ 6 := by unfold bhF; split <;> (try split) <;> (try split) <;> (try split) <;> (try split) <;> (try split) <;> omega
theorem cd_by (c : Int) (h : cdd c = true) (r : List Int) : cdP (cbF c ++ r) = some (c, r) := by
  simp only [cdd, Bool.or_eq_true, Bool.and_eq_true, decide_eq_true_eq] at h
  unfold cbF
  split
  · simp only [List.cons_append, List.nil_append, cdP]
    rw [if_pos (by omega)]
  · simp only [List.cons_append, List.nil_append, cdP]
    rw [if_neg (by omega)]
    congr 2
    omega
theorem by_cd (b : List Int) (hb : bytesL b) (c : Int) (r : List Int) (h : cdP b = some (c, r)) : cdd c = true ∧ b = cbF c ++ r := by
  match b with
  | [] => simp [cdP] at h
  | a :: s =>
    have ha := hb a (by simp)
    simp only [cdP] at h
    by_cases h1 : a = 0 ∨ 16 ≤ a
    · rw [if_pos h1] at h
      injection h with h; injection h with h2 h3
      subst h2 h3
      exact ⟨by simp [cdd]; omega, by unfold cbF; rw [if_pos (by omega)]; rfl⟩
    · rw [if_neg h1] at h
      match s with
      | [] => simp at h
      | d :: s =>
        have hd := hb d (by simp)
        injection h with h; injection h with h2 h3
        subst h2 h3
        refine ⟨by simp [cdd]; omega, ?_⟩
        unfold cbF
        rw [if_neg (by omega)]
        simp
        omega
theorem tw_by (n : Int) (h0 : 0 ≤ n) (h1 : n < 65536) (r : List Int) : twP (n / 256 % 256 :: n % 256 :: r) = some (n, r) := by
  simp only [twP]
  congr 2
  omega
theorem fu_by (n : Int) (h0 : 0 ≤ n) (h1 : n < 4294967296) (r : List Int) : fuP (n / 16777216 % 256 :: n / 65536 % 256 :: n / 256 % 256 :: n % 256 :: r) = some (n, r) := by
  simp only [fuP]
  congr 2
  omega
theorem tx_by (t r : List Int) : txP ((t.length : Int) :: (t ++ r)) = some (t, r) := by
  simp only [txP]
  rw [if_pos (by simp only [List.length_append]; omega)]
  simp
theorem of_by (o : Int) (wide : Bool) (h : offF o wide = true) (r : List Int) : ofP wide ((if wide then [o / 256 % 256, o % 256] else [o % 256]) ++ r) = some (o, r) := by
  cases wide with
  | true =>
    simp [offF] at h
    simp only [if_true, ofP, List.cons_append, List.nil_append, twP, Option.map_some]
    congr 2
    unfold sgF
    split <;> omega
  | false =>
    simp [offF] at h
    simp only [Bool.false_eq_true, if_false, ofP, List.cons_append, List.nil_append]
    congr 2
    unfold sgF
    split <;> omega
/-- what a token from memory is like -/
def gQ (t : Tq) : Prop := 0 ≤ t.n ∧ t.n < 4294967296 ∧ bytesL t.t
theorem be_by (k : Nat) (hk : k ≤ 6) (t : Tq) (wide : Bool) (g : gQ t) (h : okB k t wide = true) (r : List Int) : bePn k t.c wide (beQ k t wide ++ r) = some (t, r) := by
  obtain ⟨c, n, s, o⟩ := t
  obtain ⟨g1, g2, g3⟩ := g
  simp only at g1 g2 g3
  match k, hk with
  | 0, _ => simp [okB] at h; obtain ⟨⟨rfl, rfl⟩, rfl⟩ := h; simp [bePn, beQ]
  | 1, _ => simp [okB] at h; obtain ⟨rfl, rfl⟩ := h; simp only [bePn, beQ, List.cons_append, List.nil_append]; rw [fu_by n g1 g2]; rfl
  | 2, _ => simp [okB] at h; obtain ⟨⟨rfl, rfl⟩, h⟩ := h; simp only [bePn, beQ]; rw [cd_by n h]; rfl
  | 3, _ => simp [okB] at h; obtain ⟨⟨rfl, rfl⟩, h⟩ := h; simp only [bePn, beQ, List.cons_append]; rw [tx_by]; rfl
  | 4, _ => simp [okB] at h; obtain ⟨⟨rfl, rfl⟩, h⟩ := h; simp only [bePn, beQ]; rw [of_by o wide h]; rfl
  | 5, _ => simp [okB, nwF] at h; obtain ⟨⟨rfl, rfl⟩, h⟩ := h; simp only [bePn, beQ, List.cons_append, List.nil_append]; rw [tw_by n g1 (by omega)]; rfl
  | 6, _ => simp [okB, nwF] at h; obtain ⟨⟨rfl, h2⟩, h⟩ := h; simp only [bePn, beQ, List.cons_append, List.append_assoc]; rw [tx_by]; simp only [Option.bind_some, List.cons_append, List.nil_append]; rw [tw_by n g1 (by omega)]; rfl
theorem one_by (t : Tq) (wide : Bool) (g : gQ t) (h : okQ t wide = true) (r : List Int) : oneF (byQ t wide ++ r) wide = some (t, r) := by
  have h2 := h
  simp only [okQ, Bool.and_eq_true] at h
  unfold oneF oneP byQ
  rw [List.append_assoc, cd_by t.c h.1]
  simp only [Option.bind_some]
  rw [be_by _ (bh_le _) t wide g h.2]
  simp [h2]
theorem by_tw (b : List Int) (hb : bytesL b) (n : Int) (r : List Int) (h : twP b = some (n, r)) : 0 ≤ n ∧ n < 65536 ∧ b = n / 256 % 256 :: n % 256 :: r := by
  match b with
  | [] => simp [twP] at h
  | [a] => simp [twP] at h
  | a :: d :: s =>
    have ha := hb a (by simp)
    have hd := hb d (by simp)
    simp only [twP] at h
    injection h with h; injection h with h2 h3
    subst h2 h3
    refine ⟨by omega, by omega, ?_⟩
    congr 1
    · omega
    · congr 1
      omega
theorem by_fu (b : List Int) (hb : bytesL b) (n : Int) (r : List Int) (h : fuP b = some (n, r)) : 0 ≤ n ∧ n < 4294967296 ∧ b = n / 16777216 % 256 :: n / 65536 % 256 :: n / 256 % 256 :: n % 256 :: r := by
  match b with
  | [] => simp [fuP] at h
  | [a] => simp [fuP] at h
  | [a, c] => simp [fuP] at h
  | [a, c, d] => simp [fuP] at h
  | a :: c :: d :: e :: s =>
    have ha := hb a (by simp)
    have hc := hb c (by simp)
    have hd := hb d (by simp)
    have he := hb e (by simp)
    simp only [fuP] at h
    injection h with h; injection h with h2 h3
    subst h2 h3
    refine ⟨by omega, by omega, ?_⟩
    have e1 : (a * 16777216 + c * 65536 + d * 256 + e) / 16777216 % 256 = a := by omega
    have e2 : (a * 16777216 + c * 65536 + d * 256 + e) / 65536 % 256 = c := by omega
    have e3 : (a * 16777216 + c * 65536 + d * 256 + e) / 256 % 256 = d := by omega
    have e4 : (a * 16777216 + c * 65536 + d * 256 + e) % 256 = e := by omega
    rw [e1, e2, e3, e4]
theorem by_tx (b : List Int) (hb : bytesL b) (t r : List Int) (h : txP b = some (t, r)) : b = (t.length : Int) :: (t ++ r) := by
  match b with
  | [] => simp [txP] at h
  | k :: s =>
    have hk := hb k (by simp)
    simp only [txP] at h
    by_cases h1 : k ≤ s.length
    · rw [if_pos h1] at h
      injection h with h; injection h with h2 h3
      subst h2 h3
      rw [List.take_append_drop, List.length_take]
      congr 1
      omega
    · rw [if_neg h1] at h
      cases h
theorem by_of (b : List Int) (hb : bytesL b) (wide : Bool) (o : Int) (r : List Int) (h : ofP wide b = some (o, r)) : b = (if wide then [o / 256 % 256, o % 256] else [o % 256]) ++ r := by
  cases wide with
  | true =>
    simp only [ofP, if_true, Option.map_eq_some_iff] at h
    obtain ⟨⟨n, s⟩, h1, h2⟩ := h
    obtain ⟨n0, n1, h3⟩ := by_tw b hb n s h1
    injection h2 with h4 h5
    subst h5 h3
    simp only [if_true, List.cons_append, List.nil_append]
    simp only [sgF] at h4
    split at h4
    · congr 1
      · omega
      · congr 1; omega
    · congr 1
      · omega
      · congr 1; omega
  | false =>
    simp only [ofP, Bool.false_eq_true, if_false] at h
    match b with
    | [] => simp at h
    | a :: s =>
      have ha := hb a (by simp)
      injection h with h; injection h with h4 h5
      subst h5
      simp only [Bool.false_eq_true, if_false, List.cons_append, List.nil_append]
      simp only [sgF] at h4
      split at h4
      · congr 1; omega
      · congr 1; omega
theorem by_be (k : Nat) (hk : k ≤ 6) (c : Int) (wide : Bool) (b : List Int) (hb : bytesL b) (t : Tq) (r : List Int) (h : bePn k c wide b = some (t, r)) : t.c = c ∧ b = beQ k t wide ++ r ∧ gQ t := by
  have tk : ∀ (l : List Int) (m : List Int), l ++ m = b → bytesL l := fun l m e x hx => hb x (by rw [← e]; simp [hx])
  have nil : bytesL [] := fun x hx => by simp at hx
  match k, hk with
  | 0, _ => simp only [bePn] at h; injection h with h; injection h with h1 h2; subst h1 h2; exact ⟨rfl, rfl, by simp, by simp, nil⟩
  | 1, _ =>
    simp only [bePn, Option.map_eq_some_iff] at h
    obtain ⟨⟨n, s⟩, h1, h2⟩ := h
    obtain ⟨q1, q2, q3⟩ := by_fu b hb n s h1
    injection h2 with h3 h4
    subst h3 h4
    exact ⟨rfl, by simpa [beQ] using q3, q1, q2, nil⟩
  | 2, _ =>
    simp only [bePn, Option.map_eq_some_iff] at h
    obtain ⟨⟨n, s⟩, h1, h2⟩ := h
    obtain ⟨q1, q2⟩ := by_cd b hb n s h1
    injection h2 with h3 h4
    subst h3 h4
    simp only [cdd, Bool.or_eq_true, Bool.and_eq_true, decide_eq_true_eq] at q1
    exact ⟨rfl, by simpa [beQ] using q2, by show 0 ≤ n; omega, by show n < 4294967296; omega, nil⟩
  | 3, _ =>
    simp only [bePn, Option.map_eq_some_iff] at h
    obtain ⟨⟨n, s⟩, h1, h2⟩ := h
    have q := by_tx b hb n s h1
    injection h2 with h3 h4
    subst h3 h4
    exact ⟨rfl, by simpa [beQ] using q, by simp, by simp, fun x hx => hb x (by rw [q]; simp [hx])⟩
  | 4, _ =>
    simp only [bePn, Option.map_eq_some_iff] at h
    obtain ⟨⟨n, s⟩, h1, h2⟩ := h
    have q := by_of b hb wide n s h1
    injection h2 with h3 h4
    subst h3 h4
    exact ⟨rfl, by simpa [beQ] using q, by simp, by simp, nil⟩
  | 5, _ =>
    simp only [bePn, Option.map_eq_some_iff] at h
    obtain ⟨⟨n, s⟩, h1, h2⟩ := h
    obtain ⟨q1, q2, q3⟩ := by_tw b hb n s h1
    injection h2 with h3 h4
    subst h3 h4
    exact ⟨rfl, by simpa [beQ] using q3, q1, by show n < 4294967296; omega, nil⟩
  | 6, _ =>
    simp only [bePn, Option.bind_eq_some_iff, Option.map_eq_some_iff] at h
    obtain ⟨⟨t1, s1⟩, h0, ⟨n, s⟩, h1, h2⟩ := h
    have q := by_tx b hb t1 s1 h0
    have hb2 : bytesL s1 := fun x hx => hb x (by rw [q]; simp [hx])
    obtain ⟨q1, q2, q3⟩ := by_tw s1 hb2 n s h1
    injection h2 with h3 h4
    subst h3 h4
    refine ⟨rfl, ?_, q1, by show n < 4294967296; omega, fun x hx => hb x (by rw [q]; simp at hx ⊢; simp [hx])⟩
    simp only [beQ, List.cons_append, List.append_assoc, List.nil_append]
    rw [q, q3]
theorem by_one (b : List Int) (hb : bytesL b) (wide : Bool) (t : Tq) (r : List Int) (h : oneF b wide = some (t, r)) : okQ t wide = true ∧ b = byQ t wide ++ r ∧ gQ t ∧ bytesL r := by
  simp only [oneF, oneP, Option.bind_eq_some_iff] at h
  obtain ⟨⟨t1, r1⟩, ⟨⟨c, s⟩, h1, h2⟩, h3⟩ := h
  obtain ⟨q1, q2⟩ := by_cd b hb c s h1
  have hs : bytesL s := fun x hx => hb x (by rw [q2]; simp [hx])
  obtain ⟨p1, p2, p3⟩ := by_be _ (bh_le c) c wide s hs t1 r1 h2
  by_cases ho : okQ t1 wide = true
  · simp only [ho, if_true] at h3
    injection h3 with h3; injection h3 with h4 h5
    subst h4 h5
    refine ⟨ho, ?_, p3, fun x hx => hs x (by rw [p2]; simp [hx])⟩
    rw [q2, byQ, p1, List.append_assoc, ← p2]
  · simp only [ho] at h3
    simp at h3
theorem cb_pos (c : Int) : 0 < (cbF c).length := by unfold cbF; split <;> simp
theorem by_pos (t : Tq) (w : Bool) : 0 < (byQ t w).length := by have := cb_pos t.c; unfold byQ; rw [List.length_append]; omega
theorem dec_step (n : Nat) (t : Tq) (w : Bool) (g : gQ t) (h : okQ t w = true) (r : List Int) : decG (n + 1) (byQ t w ++ r) w = (decG n r (wdF w t.c)).map (t :: ·) := by
  have hp := by_pos t w
  have e := one_by t w g h r
  match hb : byQ t w ++ r with
  | [] => have := congrArg List.length hb; simp only [List.length_append, List.length_nil] at this; omega
  | a :: b =>
    rw [hb] at e
    simp only [decG, e, Option.bind_some]
theorem dec_app : ∀ (x : List Tq) (w : Bool) (a b : List Int) (n : Nat), (∀ t ∈ x, gQ t) → allB x w = some a → (∀ t ∈ x, ¬ t.c = 204) → decG (x.length + n) (a ++ b) w = (decG n b w).map (x ++ ·)
  | [], w, a, b, n, _, h, _ => by
    simp [allB] at h
    subst h
    simp
  | t :: x, w, a, b, n, g, h, hc => by
    simp only [allB] at h
    by_cases ho : okQ t w = true
    · simp only [ho, if_true, Option.map_eq_some_iff] at h
      obtain ⟨a', h1, rfl⟩ := h
      have hw : wdF w t.c = w := by simp [wdF, hc t (by simp)]
      rw [hw] at h1
      have ih := dec_app x w a' b n (fun u hu => g u (by simp [hu])) h1 (fun u hu => hc u (by simp [hu]))
      rw [show (t :: x).length + n = (x.length + n) + 1 by simp; omega, List.append_assoc, dec_step _ t w (g t (by simp)) ho, hw, ih]
      cases decG n b w <;> simp
    · simp only [ho] at h
      simp at h
theorem dec_all : ∀ (x : List Tq) (w : Bool) (a : List Int) (n : Nat), (∀ t ∈ x, gQ t) → allB x w = some a → decG (x.length + n) a w = some x
  | [], w, a, n, _, h => by
    simp [allB] at h
    subst h
    cases n <;> simp [decG]
  | t :: x, w, a, n, g, h => by
    simp only [allB] at h
    by_cases ho : okQ t w = true
    · simp only [ho, if_true, Option.map_eq_some_iff] at h
      obtain ⟨a', h1, rfl⟩ := h
      have ih := dec_all x (wdF w t.c) a' n (fun u hu => g u (by simp [hu])) h1
      rw [show (t :: x).length + n = (x.length + n) + 1 by simp; omega, dec_step _ t w (g t (by simp)) ho, ih]
      rfl
    · simp only [ho] at h
      simp at h
theorem all_dec : ∀ (n : Nat) (b : List Int) (w : Bool) (x : List Tq), bytesL b → decG n b w = some x → allB x w = some b ∧ ∀ t ∈ x, gQ t
  | n, [], w, x, hb, h => by
    cases n <;> (simp [decG] at h; subst h; exact ⟨rfl, fun t ht => by simp at ht⟩)
  | 0, a :: b, w, x, hb, h => by simp [decG] at h
  | n + 1, a :: b, w, x, hb, h => by
    simp only [decG, Option.bind_eq_some_iff, Option.map_eq_some_iff] at h
    obtain ⟨⟨t, r⟩, h1, l, h2, rfl⟩ := h
    obtain ⟨q1, q2, q3, q4⟩ := by_one _ hb w t r h1
    obtain ⟨p1, p2⟩ := all_dec n r _ l q4 h2
    refine ⟨?_, ?_⟩
    · simp only [allB, q1, if_true, p1, Option.map_some]
      rw [q2]
    · intro u hu
      simp at hu
      rcases hu with rfl | hu
      · exact q3
      · exact p2 u hu
theorem one_lt (b : List Int) (hb : bytesL b) (w : Bool) (t : Tq) (r : List Int) (h : oneF b w = some (t, r)) : r.length < b.length := by
  obtain ⟨_, q, _, _⟩ := by_one b hb w t r h
  have := by_pos t w
  rw [q, List.length_append]
  omega
/-- enough fuel is enough -/
theorem dec_fuel : ∀ (n m : Nat) (b : List Int) (w : Bool), bytesL b → b.length ≤ n → b.length ≤ m → decG n b w = decG m b w
  | n, m, [], w, _, _, _ => by cases n <;> cases m <;> rfl
  | 0, _, a :: b, w, _, h, _ => by simp at h
  | _ + 1, 0, a :: b, w, _, _, h => by simp at h
  | n + 1, m + 1, a :: b, w, hb, h1, h2 => by
    simp only [decG]
    cases h : oneF (a :: b) w with
    | none => rfl
    | some x =>
      obtain ⟨t, r⟩ := x
      have hl := one_lt _ hb w t r h
      have hr := (by_one _ hb w t r h).2.2.2
      simp only [List.length_cons] at hl h1 h2
      simp only [Option.bind_some]
      rw [dec_fuel n m r _ hr (by omega) (by omega)]
theorem all_len : ∀ (x : List Tq) (w : Bool) (a : List Int), allB x w = some a → x.length ≤ a.length
  | [], _, _, _ => by simp
  | t :: x, w, a, h => by
    simp only [allB] at h
    by_cases ho : okQ t w = true
    · simp only [ho, if_true, Option.map_eq_some_iff] at h
      obtain ⟨a', h1, rfl⟩ := h
      have := all_len x _ a' h1
      have := by_pos t w
      simp only [List.length_cons, List.length_append]
      omega
    · simp only [ho] at h
      simp at h

/-! what the laws say -/
theorem bytes_by (t : Tq) (w : Bool) (g : gQ t) (h : okQ t w = true) : bytesL (byQ t w) := by
  obtain ⟨c, n, s, o⟩ := t
  obtain ⟨g1, g2, g3⟩ := g
  simp only at g1 g2 g3
  have hcb : ∀ c, cdd c = true → bytesL (cbF c) := by
    intro c hc x hx
    simp only [cdd, Bool.or_eq_true, Bool.and_eq_true, decide_eq_true_eq] at hc
    unfold cbF at hx
    split at hx <;> simp at hx <;> omega
  simp only [okQ, Bool.and_eq_true] at h
  intro x hx
  simp only [byQ, List.mem_append] at hx
  rcases hx with hx | hx
  · exact hcb _ h.1 x hx
  · have hk := bh_le c
    have h2 := h.2
    revert hx h2
    generalize bhF c = k at hk
    intro hx h2
    match k, hk with
    | 0, _ => simp [beQ] at hx
    | 1, _ => simp [beQ] at hx; omega
    | 2, _ => simp [okB] at h2; exact hcb _ h2.2 x hx
    | 3, _ => simp [okB] at h2; simp [beQ] at hx; rcases hx with rfl | hx; · omega
              · exact g3 x hx
    | 4, _ => simp only [beQ] at hx; split at hx <;> simp at hx <;> omega
    | 5, _ => simp [beQ] at hx; omega
    | 6, _ => simp [okB] at h2; simp [beQ] at hx; rcases hx with rfl | hx | hx
              · omega
              · exact g3 x hx
              · omega
theorem bytes_all : ∀ (x : List Tq) (w : Bool) (a : List Int), (∀ t ∈ x, gQ t) → allB x w = some a → bytesL a
  | [], _, _, _, h => by simp [allB] at h; subst h; intro x hx; simp at hx
  | t :: x, w, a, g, h => by
    simp only [allB] at h
    by_cases ho : okQ t w = true
    · simp only [ho, if_true, Option.map_eq_some_iff] at h
      obtain ⟨a', h1, rfl⟩ := h
      have h2 := bytes_all x _ a' (fun u hu => g u (by simp [hu])) h1
      have h3 := bytes_by t w (g t (by simp)) ho
      intro y hy
      simp only [List.mem_append] at hy
      rcases hy with hy | hy
      · exact h3 y hy
      · exact h2 y hy
    · simp only [ho] at h
      simp at h
theorem enc_cases (l : List Tq) (w : Bool) : (∃ b, allB l w = some b ∧ b.length ≤ 8192 ∧ encF l w = (b, 0)) ∨ (encF l w).1 = [] ∧ ((encF l w).2 = 3 ∨ (encF l w).2 = 16) := by
  unfold encF finF
  cases h : allB l w with
  | none => exact Or.inr ⟨rfl, Or.inr rfl⟩
  | some b =>
    simp only [List.nil_append]
    by_cases hl : 8192 < b.length
    · rw [if_pos hl]; exact Or.inr ⟨rfl, Or.inl rfl⟩
    · rw [if_neg hl]; exact Or.inl ⟨b, rfl, by omega, rfl⟩
theorem dec_cases (b : List Int) (w : Bool) : (∃ l, decG b.length b w = some l ∧ b.length ≤ 8192 ∧ decF b w = (l, 0)) ∨ (decF b w).1 = [] ∧ ((decF b w).2 = 3 ∨ (decF b w).2 = 16) := by
  unfold decF
  by_cases hl : 8192 < b.length
  · rw [if_pos hl]; exact Or.inr ⟨rfl, Or.inl rfl⟩
  · rw [if_neg hl]
    cases h : decG b.length b w with
    | none => exact Or.inr ⟨rfl, Or.inr rfl⟩
    | some l => exact Or.inl ⟨l, rfl, by omega, rfl⟩
theorem enc_bytes (l : List Tq) (w : Bool) (g : ∀ t ∈ l, gQ t) : bytesL (encF l w).1 := by
  rcases enc_cases l w with ⟨b, h1, h2, h3⟩ | ⟨h, _⟩
  · rw [h3]; exact bytes_all l w b g h1
  · rw [h]; intro x hx; simp at hx
theorem enc_len (l : List Tq) (w : Bool) : (encF l w).1.length ≤ 8192 := by
  rcases enc_cases l w with ⟨b, h1, h2, h3⟩ | ⟨h, _⟩
  · rw [h3]; exact h2
  · rw [h]; simp
/-- what was encoded is decoded as the same -/
theorem back_law (l : List Tq) (w : Bool) (g : ∀ t ∈ l, gQ t) (h : (encF l w).2 = 0) : decF (encF l w).1 w = (l, 0) := by
  rcases enc_cases l w with ⟨b, h1, h2, h3⟩ | ⟨_, h3⟩
  · rw [h3]
    have hl := all_len l w b h1
    have := dec_all l w b (b.length - l.length) g h1
    rw [show l.length + (b.length - l.length) = b.length by omega] at this
    simp only [decF]
    rw [if_neg (by omega), this]
  · omega
/-- what was decoded is encoded as the same -/
theorem again_law (b : List Int) (w : Bool) (hb : bytesL b) (h : (decF b w).2 = 0) : encF (decF b w).1 w = (b, 0) := by
  rcases dec_cases b w with ⟨l, h1, h2, h3⟩ | ⟨_, h3⟩
  · rw [h3]
    obtain ⟨q, _⟩ := all_dec _ b w l hb h1
    simp only [encF, finF, q, List.nil_append]
    rw [if_neg (by omega)]
  · omega
theorem dec_g (b : List Int) (w : Bool) (hb : bytesL b) : ∀ t ∈ (decF b w).1, gQ t := by
  rcases dec_cases b w with ⟨l, h1, h2, h3⟩ | ⟨h, _⟩
  · rw [h3]
    exact (all_dec _ b w l hb h1).2
  · rw [h]; intro x hx; simp at hx
theorem dec_len (b : List Int) (w : Bool) (hb : bytesL b) : (decF b w).1.length ≤ b.length := by
  rcases dec_cases b w with ⟨l, h1, h2, h3⟩ | ⟨h, _⟩
  · rw [h3]
    exact all_len _ w b (all_dec _ b w l hb h1).1
  · rw [h]; simp
/-- two rows of bytes, one behind the other -/
theorem join_law (a b : List Int) (w : Bool) (ha : bytesL a) (hb : bytesL b) (hl : a.length + b.length ≤ 8192) (h : (decF a w).2 = 0) (hc : ∀ t ∈ (decF a w).1, ¬ t.c = 204) :
    (decF (a ++ b) w).2 = (decF b w).2 ∧ ((decF b w).2 = 0 → (decF (a ++ b) w).1 = (decF a w).1 ++ (decF b w).1) := by
  rcases dec_cases a w with ⟨x, h1, h2, h3⟩ | ⟨_, h3⟩
  · rw [h3] at hc ⊢
    obtain ⟨q, g⟩ := all_dec _ a w x ha h1
    have hx := all_len x w a q
    have hab : bytesL (a ++ b) := fun y hy => (List.mem_append.1 hy).elim (ha y) (hb y)
    have e := dec_app x w a b (b.length + (a.length - x.length)) g q hc
    rw [dec_fuel _ (a ++ b).length (a ++ b) w hab (by simp; omega) (Nat.le_refl _), dec_fuel _ b.length b w hb (by omega) (Nat.le_refl _)] at e
    simp only [decF]
    rw [if_neg (by simp; omega), if_neg (by omega), e]
    cases decG b.length b w with
    | none => exact ⟨rfl, fun h => by simp at h⟩
    | some l => exact ⟨rfl, fun _ => rfl⟩
  · omega
end Go.Proofs.Ytbllblikigogoaa
