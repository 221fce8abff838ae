/-
  Texts of one proof, laid one behind the other: Dsh Ppr Rp1 Rmf Br1 Br2 Sg.
-/
import Derived.Test.YtcffaojpmdhdoaaB0
import Derived.ChangeArms
namespace Go.Proofs.Ytcffaojpmdhdoaa
open Go.ChangeShapes Go.WideShapes Go.ChangeAt Go.RowKit
set_option linter.unusedVariables false
set_option linter.unusedSimpArgs false

/-
  Numbers shown in a base, as plain lists of bytes: the digits, that they are read back as the number, and that unlike numbers have unlike texts. No Go text in sight; bases from 2 to 36.
-/
/-- bytes of numbers -/
def toB (l : List Int) : ByteArray := ⟨(l.map fun x => UInt8.ofNat x.toNat).toArray⟩
theorem toB_L (t : ByteArray) : toB (L t) = t := by
  obtain ⟨⟨l⟩⟩ := t
  simp [toB, L, Function.comp_def]
theorem L_toB (l : List Int) (h : ∀ x ∈ l, 0 ≤ x ∧ x < 256) : L (toB l) = l := by
  simp only [L, toB, List.map_map]
  conv => rhs; rw [← List.map_id l]
  apply List.map_congr_left
  intro x hx
  have := h x hx
  simp [UInt8.toNat_ofNat']
  omega
theorem L_eq (t : ByteArray) (l : List Int) (h : L t = l) : t = toB l := by rw [← h, toB_L]
theorem L_app (s t : ByteArray) : L (s ++ t) = L s ++ L t := by simp [L]

/-- the digits of a number, the highest first -/
def shF (b : Int) : Nat → Int → List Int
  | 0, _ => []
  | f + 1, n => if n < b then [dg n] else shF b f (n / b) ++ [dg (n % b)]
def sh (b n : Int) : List Int := shF b 32 n
theorem shF_lo (b n : Int) (f : Nat) (h : n < b) : shF b (f + 1) n = [dg n] := by simp [shF, h]
theorem shF_hi (b n : Int) (f : Nat) (h : ¬ n < b) : shF b (f + 1) n = shF b f (n / b) ++ [dg (n % b)] := by simp [shF, h]
theorem div_half (n b : Int) (h0 : 0 ≤ n) (b0 : 2 ≤ b) : 0 ≤ n / b ∧ n / b * 2 ≤ n ∧ 0 ≤ n % b ∧ n % b < b := by
  have h1 : n / b * b ≤ n := Int.ediv_mul_le n (by omega)
  have h2 : 0 ≤ n / b := Int.ediv_nonneg h0 (by omega)
  have h3 : n / b * 2 ≤ n / b * b := Int.mul_le_mul_of_nonneg_left b0 h2
  exact ⟨h2, by omega, Int.emod_nonneg n (by omega), Int.emod_lt_of_pos n (by omega)⟩
theorem div_pos (n b : Int) (b0 : 2 ≤ b) (h : ¬ n < b) : 0 < n / b := by
  have : 1 ≤ n / b := Int.le_ediv_of_mul_le (by omega) (by omega)
  omega
theorem dg_isD (b k : Int) (b0 : 2 ≤ b) (b1 : b ≤ 36) (k0 : 0 ≤ k) (k1 : k < b) : isD (dg k) b = true ∧ vl (dg k) b = k ∧ 0 ≤ dg k ∧ dg k < 256 ∧ ¬ dg k = 45 := by
  have e : dv (dg k) = k := by unfold dg dv; omega
  have d : isD (dg k) b = true := by unfold isD; rw [e]; simp; omega
  refine ⟨d, by unfold vl; rw [if_pos d, e], ?_, ?_, ?_⟩ <;> (unfold dg; omega)

theorem shF_len (b : Int) (f : Nat) : ∀ n, (shF b f n).length ≤ f := by
  induction f with
  | zero => intro n; simp [shF]
  | succ f ih =>
    intro n
    have := ih (n / b)
    unfold shF
    split <;> simp <;> omega
theorem toB_size (l : List Int) : (toB l).size = l.length := by simp [toB, ByteArray.size]
theorem toB_cons (x : Int) (l : List Int) : toB [x] ++ toB l = toB (x :: l) := by
  simp [toB, ByteArray.ext_iff]

/-- what is shown: digits of the base, at least one, the first no sign, read back as the number -/
theorem shF_all (b : Int) (b0 : 2 ≤ b) (b1 : b ≤ 36) (f : Nat) : ∀ n : Int, 0 ≤ n → n < 2 ^ f → 0 < f →
    allD b (shF b f n) = true ∧ num b (shF b f n) = n ∧ (∀ x ∈ shF b f n, 0 ≤ x ∧ x < 256 ∧ ¬ x = 45) ∧ shF b f n ≠ [] := by
  induction f with
  | zero => intro n _ _ h; omega
  | succ f ih =>
    intro n h0 h1 _
    by_cases c : n < b
    · rw [shF_lo b n f c]
      obtain ⟨d1, d2, d3, d4, d5⟩ := dg_isD b n b0 b1 h0 c
      refine ⟨by simp [allD, d1], by simp [num, d2], ?_, by simp⟩
      intro x hx
      simp at hx
      subst hx
      exact ⟨d3, d4, d5⟩
    · obtain ⟨q0, q1, r0, r1⟩ := div_half n b h0 b0
      have qp := div_pos n b b0 c
      have hp : (2 : Int) ^ (f + 1) = 2 ^ f * 2 := Int.pow_succ 2 f
      have hf : 0 < f := by
        rcases Nat.eq_zero_or_pos f with h | h
        · subst h; simp at h1; omega
        · exact h
      obtain ⟨i1, i2, i3, i4⟩ := ih (n / b) q0 (by omega) hf
      obtain ⟨d1, d2, d3, d4, d5⟩ := dg_isD b (n % b) b0 b1 r0 r1
      rw [shF_hi b n f c]
      refine ⟨by rw [allD_snoc, i1, d1]; rfl, ?_, ?_, by simp⟩
      · rw [num_snoc, i2, d2]
        exact Int.ediv_mul_add_emod n b
      · intro x hx
        rw [List.mem_append] at hx
        rcases hx with hx | hx
        · exact i3 x hx
        · simp at hx
          subst hx
          exact ⟨d3, d4, d5⟩
theorem sh_all (b n : Int) (b0 : 2 ≤ b) (b1 : b ≤ 36) (h0 : 0 ≤ n) (h1 : n < 4294967296) :
    allD b (sh b n) = true ∧ num b (sh b n) = n ∧ (∀ x ∈ sh b n, 0 ≤ x ∧ x < 256 ∧ ¬ x = 45) ∧ sh b n ≠ [] :=
  shF_all b b0 b1 32 n h0 (by simpa using h1) (by decide)
theorem sh_L (b n : Int) (b0 : 2 ≤ b) (b1 : b ≤ 36) (h0 : 0 ≤ n) (h1 : n < 4294967296) : L (toB (sh b n)) = sh b n :=
  L_toB _ fun x hx => ⟨((sh_all b n b0 b1 h0 h1).2.2.1 x hx).1, ((sh_all b n b0 b1 h0 h1).2.2.1 x hx).2.1⟩
theorem sh_back (b n : Int) (b0 : 2 ≤ b) (b1 : b ≤ 36) (h0 : 0 ≤ n) (h1 : n < 4294967296) : prs (sh b n) b = (n, 0) := by
  obtain ⟨i1, i2, i3, i4⟩ := sh_all b n b0 b1 h0 h1
  have hh : ¬ (sh b n).head? = some 45 := by
    intro h
    have := List.mem_of_mem_head? h
    exact (i3 45 this).2.2 rfl
  unfold prs
  rw [if_neg (by omega), if_neg hh]
  unfold prsT
  rw [if_neg i4, if_neg (by rw [i1]; decide), if_neg (by rw [i2]; omega), i2]
  simp
/-- the sign ahead -/
def sg (b n : Int) : List Int := if n < 2147483648 then sh b n else 45 :: sh b (4294967296 - n)
theorem sg_back (b n : Int) (b0 : 2 ≤ b) (b1 : b ≤ 36) (h0 : 0 ≤ n) (h1 : n < 4294967296) : prs (sg b n) b = (n, 0) := by
  unfold sg
  by_cases c : n < 2147483648
  · rw [if_pos c]; exact sh_back b n b0 b1 h0 h1
  · rw [if_neg c]
    obtain ⟨i1, i2, i3, i4⟩ := sh_all b (4294967296 - n) b0 b1 (by omega) (by omega)
    unfold prs
    rw [if_neg (by omega), if_pos (by simp)]
    unfold prsT
    simp only [List.tail_cons]
    rw [if_neg i4, if_neg (by rw [i1]; decide), if_neg (by rw [i2]; omega), i2]
    simp
    omega
theorem sg_bytes (b n : Int) (b0 : 2 ≤ b) (b1 : b ≤ 36) (h0 : 0 ≤ n) (h1 : n < 4294967296) : L (toB (sg b n)) = sg b n := by
  apply L_toB
  intro x hx
  unfold sg at hx
  by_cases c : n < 2147483648
  · rw [if_pos c] at hx
    have := (sh_all b n b0 b1 h0 h1).2.2.1 x hx
    exact ⟨this.1, this.2.1⟩
  · rw [if_neg c] at hx
    simp at hx
    rcases hx with rfl | hx
    · omega
    · have := (sh_all b (4294967296 - n) b0 b1 (by omega) (by omega)).2.2.1 x hx
      exact ⟨this.1, this.2.1⟩
theorem sh_inj (b n m : Int) (b0 : 2 ≤ b) (b1 : b ≤ 36) (h0 : 0 ≤ n) (h1 : n < 4294967296) (g0 : 0 ≤ m) (g1 : m < 4294967296) : sh b n = sh b m ↔ n = m := by
  constructor
  · intro h
    have e1 := (sh_all b n b0 b1 h0 h1).2.1
    have e2 := (sh_all b m b0 b1 g0 g1).2.1
    rw [h] at e1
    omega
  · intro h; rw [h]

/-
  Names, unit addresses and the bytes of properties, as plain functions of lists of numbers. No Go text in sight.
-/
theorem L_LB (s : ByteArray) : L s = LB s := rfl
theorem toB_nums (l : List Int) : toB l = strOfNums l := rfl

/-- a byte that a name may have -/
def nmC (c : Int) : Bool := decide (33 ≤ c ∧ c ≤ 126 ∧ ¬ (65 ≤ c ∧ c ≤ 90) ∧ ¬ c = 47 ∧ ¬ c = 92 ∧ ¬ c = 58 ∧ ¬ c = 91 ∧ ¬ c = 93 ∧ ¬ c = 64)
def nmF (l : List Int) : Bool := decide (1 ≤ l.length ∧ l.length ≤ 31) && l.all nmC
theorem nm_mid (l m : List Int) (c : Int) (h : nmC c = false) : nmF (l ++ c :: m) = false := by simp [nmF, h]

/-- pieces between bytes d -/
def spl (d : Int) (cur : List Int) : List Int → List (List Int)
  | [] => [cur]
  | c :: r => if c = d then cur :: spl d [] r else spl d (cur ++ [c]) r
theorem spl_skip (d : Int) (p r : List Int) (h : ∀ x ∈ p, ¬ x = d) : ∀ cur, spl d cur (p ++ r) = spl d (cur ++ p) r := by
  induction p with
  | nil => intro cur; simp
  | cons x p ih =>
    intro cur
    rw [List.cons_append, spl, if_neg (h x (by simp)), ih (fun y hy => h y (by simp [hy]))]
    simp
theorem spl_len (d : Int) : ∀ (l cur : List Int), 1 ≤ (spl d cur l).length
  | [], _ => by simp [spl]
  | c :: r, cur => by
    unfold spl
    split
    · simp
    · exact spl_len d r _

/-- a piece of a unit address: 1 to 8 digits of base 16 -/
def pcOk (p : List Int) : Bool := decide (1 ≤ p.length ∧ p.length ≤ 8) && allD 16 p
/-- what ParseUnit answers -/
def punF (l : List Int) : List Int × Int :=
  if (spl 44 [] l).all pcOk = false then ([], 15) else if 4 < (spl 44 [] l).length then ([], 3) else ((spl 44 [] l).map (num 16), 0)
theorem vl16_bd (c : Int) (h : isD c 16 = true) (h0 : 0 ≤ c) (h1 : c < 256) : 0 ≤ vl c 16 ∧ vl c 16 < 16 := by
  unfold vl
  rw [if_pos h]
  unfold isD at h
  have := dv_bd c h0 h1
  simp at h
  omega
theorem num16_lt (p : List Int) (hb : bytesL p) (hD : allD 16 p = true) : 0 ≤ num 16 p ∧ num 16 p < 16 ^ p.length := by
  suffices h : ∀ q : List Int, bytesL q.reverse → allD 16 q.reverse = true → 0 ≤ num 16 q.reverse ∧ num 16 q.reverse < 16 ^ q.length by
    have := h p.reverse (by simpa using hb) (by simpa using hD)
    simpa using this
  intro q
  induction q with
  | nil => intro _ _; simp [num]
  | cons c q ih =>
    intro hb hD
    rw [List.reverse_cons] at hb hD ⊢
    rw [allD_snoc, Bool.and_eq_true] at hD
    have i := ih (fun x hx => hb x (by simp at hx ⊢; exact Or.inl hx)) hD.1
    have hc := hb c (by simp)
    have hv := vl16_bd c hD.2 hc.1 hc.2
    rw [num_snoc, List.length_cons, Int.pow_succ]
    obtain ⟨k, hk⟩ : ∃ k, (16 : Int) ^ q.length = k := ⟨_, rfl⟩
    rw [hk] at i ⊢
    omega
theorem pc_num (p : List Int) (hb : bytesL p) (h : pcOk p = true) : 0 ≤ num 16 p ∧ num 16 p < 4294967296 := by
  simp [pcOk] at h
  have h1 := num16_lt p hb h.2
  have h2 : (16 : Int) ^ p.length ≤ 16 ^ 8 := by
    have := Nat.pow_le_pow_right (n := 16) (by decide) h.1.2
    have e : ((16 ^ p.length : Nat) : Int) ≤ ((16 ^ 8 : Nat) : Int) := by omega
    simpa using e
  omega
/-- such a piece as layer 2 reads it -/
theorem pc_prs (p : List Int) (hb : bytesL p) (h1 : 1 ≤ p.length) (h8 : p.length ≤ 8) (hm : ¬ p.head? = some 45) : prs p 16 = if pcOk p = true then (num 16 p, 0) else (0, 15) := by
  have hne : ¬ p = [] := by intro h; rw [h] at h1; simp at h1
  unfold prs
  rw [if_neg (by omega), if_neg hm]
  unfold prsT
  rw [if_neg hne]
  cases hD : allD 16 p
  · rw [if_pos rfl, if_neg (by simp [pcOk, hD])]
  · have hok : pcOk p = true := by simp [pcOk, hD]; omega
    have := pc_num p hb hok
    rw [if_neg (by decide), if_neg (by omega), if_pos hok]
    simp
theorem pc_minus (p : List Int) (hm : p.head? = some 45) : pcOk p = false := by
  cases p with
  | nil => simp at hm
  | cons c r =>
    simp at hm
    subst hm
    simp [pcOk, allD, isD, dv]

/-- what ShowUnit answers -/
def shoT : List Int → List Int
  | [] => []
  | x :: r => 44 :: (sh 16 x ++ shoT r)
def shoF (l : List Int) : List Int := (shoT l).drop 1
theorem shoT_snoc (l : List Int) (x : Int) : shoT (l ++ [x]) = shoT l ++ 44 :: sh 16 x := by
  induction l with
  | nil => simp [shoT]
  | cons y l ih => simp [shoT, ih]
theorem shoF_one (x : Int) : shoF [x] = sh 16 x := by simp [shoF, shoT]
theorem shoF_snoc (l : List Int) (x : Int) (h : l ≠ []) : shoF (l ++ [x]) = shoF l ++ (44 :: sh 16 x) := by
  cases l with
  | nil => exact absurd rfl h
  | cons y l => simp [shoF, shoT, shoT_snoc]
def cells (l : List Int) : Prop := ∀ x ∈ l, 0 ≤ x ∧ x < 4294967296
theorem shF_len16 (f : Nat) : ∀ (k : Nat) (n : Int), 0 ≤ n → n < 16 ^ (k + 1) → (shF 16 f n).length ≤ k + 1 := by
  induction f with
  | zero => intro k n _ _; simp [shF]
  | succ f ih =>
    intro k n h0 h1
    unfold shF
    split
    · simp
    · rename_i hn
      cases k with
      | zero => simp at h1; omega
      | succ k =>
        have := ih k (n / 16) (by omega) (by rw [Int.pow_succ] at h1; omega)
        simp
        omega
theorem sh16_len (n : Int) (h0 : 0 ≤ n) (h1 : n < 4294967296) : 1 ≤ (sh 16 n).length ∧ (sh 16 n).length ≤ 8 := by
  have h2 := (sh_all 16 n (by omega) (by omega) h0 h1).2.2.2
  have h3 := shF_len16 32 7 n h0 (by omega)
  unfold sh at *
  refine ⟨?_, h3⟩
  cases h : shF 16 32 n with
  | nil => exact absurd h h2
  | cons x r => simp
theorem sh16_not (n x : Int) (h0 : 0 ≤ n) (h1 : n < 4294967296) (hx : x ∈ sh 16 n) : ¬ x = 44 := by
  have h := (sh_all 16 n (by omega) (by omega) h0 h1).1
  unfold allD at h
  rw [List.all_eq_true] at h
  have := h x hx
  intro e
  subst e
  simp [isD, dv] at this
theorem sh16_bytes (n : Int) (h0 : 0 ≤ n) (h1 : n < 4294967296) : bytesL (sh 16 n) := fun x hx =>
  ⟨((sh_all 16 n (by omega) (by omega) h0 h1).2.2.1 x hx).1, ((sh_all 16 n (by omega) (by omega) h0 h1).2.2.1 x hx).2.1⟩
theorem shoT_bytes : ∀ l : List Int, cells l → bytesL (shoT l)
  | [], _ => fun x hx => by simp [shoT] at hx
  | y :: l, h => by
    intro x hx
    simp only [shoT, List.mem_cons, List.mem_append] at hx
    rcases hx with rfl | hx | hx
    · omega
    · exact sh16_bytes y (h y (by simp)).1 (h y (by simp)).2 x hx
    · exact shoT_bytes l (fun z hz => h z (by simp [hz])) x hx
theorem shoT_len : ∀ l : List Int, cells l → (shoT l).length ≤ 9 * l.length
  | [], _ => by simp [shoT]
  | y :: l, h => by
    have h1 := sh16_len y (h y (by simp)).1 (h y (by simp)).2
    have h2 := shoT_len l (fun z hz => h z (by simp [hz]))
    simp only [shoT, List.length_cons, List.length_append]
    omega
theorem shoF_bytes (l : List Int) (h : cells l) : bytesL (shoF l) := fun x hx => shoT_bytes l h x (List.mem_of_mem_drop hx)
theorem spl_sho : ∀ (l : List Int) (cur : List Int), cells l → spl 44 cur (shoT l) = cur :: l.map (sh 16)
  | [], cur, _ => by simp [shoT, spl]
  | y :: l, cur, h => by
    rw [shoT, spl, if_pos rfl, spl_skip 44 (sh 16 y) (shoT l) (fun x hx => sh16_not y x (h y (by simp)).1 (h y (by simp)).2 hx), List.nil_append, spl_sho l (sh 16 y) (fun z hz => h z (by simp [hz]))]
    rfl
theorem spl_shoF (l : List Int) (h : cells l) (hne : l ≠ []) : spl 44 [] (shoF l) = l.map (sh 16) := by
  cases l with
  | nil => exact absurd rfl hne
  | cons y l =>
    have e : shoF (y :: l) = sh 16 y ++ shoT l := by simp [shoF, shoT]
    rw [e, spl_skip 44 (sh 16 y) (shoT l) (fun x hx => sh16_not y x (h y (by simp)).1 (h y (by simp)).2 hx), List.nil_append, spl_sho l (sh 16 y) (fun z hz => h z (by simp [hz]))]
    rfl
theorem sh16_ok (n : Int) (h0 : 0 ≤ n) (h1 : n < 4294967296) : pcOk (sh 16 n) = true ∧ num 16 (sh 16 n) = n := by
  have h := sh_all 16 n (by omega) (by omega) h0 h1
  have hl := sh16_len n h0 h1
  refine ⟨?_, h.2.1⟩
  simp [pcOk, h.1]
  omega
/-- a unit address shown is parsed as itself -/
theorem pun_back (l : List Int) (h : cells l) : punF (shoF l) = if l = [] then ([], 15) else if 4 < l.length then ([], 3) else (l, 0) := by
  by_cases hne : l = []
  · subst hne
    simp [punF, shoF, shoT, spl, pcOk]
  · rw [if_neg hne]
    unfold punF
    rw [spl_shoF l h hne]
    have hall : (l.map (sh 16)).all pcOk = true := by
      rw [List.all_eq_true]
      intro p hp
      simp only [List.mem_map] at hp
      obtain ⟨n, hn, rfl⟩ := hp
      exact (sh16_ok n (h n hn).1 (h n hn).2).1
    rw [hall, if_neg (by decide), List.length_map]
    split
    · rfl
    · rw [List.map_map]
      have : l.map (num 16 ∘ sh 16) = l := by
        conv => rhs; rw [← List.map_id l]
        apply List.map_congr_left
        intro n hn
        exact (sh16_ok n (h n hn).1 (h n hn).2).2
      rw [this]

/-- what EncodeText and Join answer -/
def enTF (l : List Int) : List Int × Int := if l.all (fun c => decide (¬ c = 0)) = false then ([], 15) else if 256 ≤ l.length then ([], 3) else (l ++ [0], 0)
def joiF (ps : List (List Int)) : List Int × Int := if 256 < ps.flatten.length then ([], 3) else (ps.flatten, 0)
/-- what DecodeInt and DecodeText answer -/
def deIF (l : List Int) : Int × List Int × Int := if l.length < 4 then (0, [], 2) else (beV (l.take 4), l.drop 4, 0)
def deTF (l : List Int) : List Int × List Int × Int :=
  match spl 0 [] l with
  | p :: q :: r => (p, l.drop (p.length + 1), 0)
  | _ => ([], [], 2)
/-- what Ints and Texts answer -/
def intL : List Int → List Int
  | a :: b :: c :: d :: r => beV [a, b, c, d] :: intL r
  | _ => []
def intF (l : List Int) : List Int × Int := if l.length % 4 = 0 then (intL l, 0) else ([], 15)
def texL (cur : List Int) : List Int → Option (List (List Int))
  | [] => if cur = [] then some [] else none
  | c :: r => if c = 0 then (texL [] r).map (cur :: ·) else texL (cur ++ [c]) r
def texsF (l : List Int) : List (List Int) × Int := match texL [] l with
  | some ts => (ts, 0)
  | none => ([], 15)
theorem beV4 (n : Int) (h0 : 0 ≤ n) (h1 : n < 4294967296) : beV (beB 4 n) = n := by
  rw [beV_beB]
  exact Int.emod_eq_of_lt h0 (by omega)
theorem int_back : ∀ l : List Int, cells l → intL (l.map (beB 4)).flatten = l
  | [], _ => rfl
  | n :: l, h => by
    have hn := h n (by simp)
    have i := int_back l (fun x hx => h x (by simp [hx]))
    have e : beB 4 n = [n / 256 / 256 / 256 % 256, n / 256 / 256 % 256, n / 256 % 256, n % 256] := by simp [beB]
    have e2 := beV4 n hn.1 hn.2
    rw [e] at e2
    simp only [List.map_cons, List.flatten_cons]
    rw [e]
    show beV [n / 256 / 256 / 256 % 256, n / 256 / 256 % 256, n / 256 % 256, n % 256] :: intL (l.map (beB 4)).flatten = _
    rw [e2, i]
theorem enc_len : ∀ l : List Int, ((l.map (beB 4)).flatten).length = 4 * l.length
  | [] => rfl
  | n :: l => by
    simp only [List.map_cons, List.flatten_cons, List.length_append, beB_len, List.length_cons, enc_len l]
    omega
theorem intF_back (l : List Int) (h : cells l) : intF (l.map (beB 4)).flatten = (l, 0) := by
  unfold intF
  rw [enc_len, if_pos (by omega), int_back l h]
theorem texL_skip (p r : List Int) (h : ∀ x ∈ p, ¬ x = 0) : ∀ cur, texL cur (p ++ r) = texL (cur ++ p) r := by
  induction p with
  | nil => intro cur; simp
  | cons x p ih =>
    intro cur
    rw [List.cons_append, texL, if_neg (h x (by simp)), ih (fun y hy => h y (by simp [hy]))]
    simp
theorem tex_back : ∀ ts : List (List Int), (∀ t ∈ ts, ∀ x ∈ t, ¬ x = 0) → texL [] (ts.map (· ++ [0])).flatten = some ts
  | [], _ => rfl
  | t :: ts, h => by
    simp only [List.map_cons, List.flatten_cons, List.append_assoc]
    rw [texL_skip t _ (h t (by simp)), List.nil_append]
    show texL t (0 :: (ts.map (· ++ [0])).flatten) = _
    rw [texL, if_pos rfl, tex_back ts (fun u hu => h u (by simp [hu]))]
    rfl
theorem texsF_back (ts : List (List Int)) (h : ∀ t ∈ ts, ∀ x ∈ t, ¬ x = 0) : texsF (ts.map (· ++ [0])).flatten = (ts, 0) := by
  unfold texsF
  rw [tex_back ts h]

/-
  Named, EncodeInt, EncodeText of the document's answer for properties.
-/
theorem run_at {w : World} (s : ByteArray) (k : Nat) (h : k < s.size) (hm : s.size ≤ maxLen) : (Instr.index 9 (.string s) (.int .i64 (k : Int))).run Try.prog w = .ok (.int .u8 (s[k].toNat : Int)) w := by
  unfold maxLen at hm
  rw [run_index_string (h := Try.underlying9)]
  simp [h]

theorem run_bad (k : Nat) (hk : k < 6) (w : World) : (Instr.index 9 (.string ⟨#[47, 92, 58, 91, 93, 64]⟩) (.int .i64 (k : Int))).run Try.prog w = .ok (.int .u8 (([47, 92, 58, 91, 93, 64] : List Int).getD k 0)) w := by
  rw [run_at ⟨#[47, 92, 58, 91, 93, 64]⟩ k (show k < 6 from hk) (by decide)]
  have : k = 0 ∨ k = 1 ∨ k = 2 ∨ k = 3 ∨ k = 4 ∨ k = 5 := by omega
  rcases this with rfl | rfl | rfl | rfl | rfl | rfl <;> rfl

/-- one byte more on a row of bytes of the call's own -/
def Own8 (base : Nat) (w : World) (v : Value) (xs : List Int) : Prop := w.ownsRow base 5 1 v xs.length (xs.map (Value.int .u8))

theorem enc_at (n : Int) (h0 : 0 ≤ n) (k : Nat) (hk : k ≤ 3) : (beB 4 n).take (3 - k + 1) = (beB 4 n).take (3 - k) ++ [n / 2 ^ (8 * k) % 256] := by
  have e : beB 4 n = [n / 256 / 256 / 256 % 256, n / 256 / 256 % 256, n / 256 % 256, n % 256] := by simp [beB]
  rw [e]
  have : k = 0 ∨ k = 1 ∨ k = 2 ∨ k = 3 := by omega
  rcases this with rfl | rfl | rfl | rfl
  all_goals simp
  all_goals omega

/-
  Fetch and Text of the document's answer for a memory of bytes.
-/
/-- a byte of the memory: its address' rule, its cell, its bounds -/
theorem mem_at {w : World} {v : Value} {xs : List Int} (h : Rd .u8 w v xs) (hb : bytesL xs) (i : Int) (h0 : 0 ≤ i) (h1 : i < xs.length) :
    ∃ (ad : Addr) (b : Int), (∀ w', (Instr.indexAt 22 v (.int .i64 i)).run Try.prog w' = .ok (.pointer (some ad)) w') ∧ w.cell? ad = some (.int .u8 b) ∧ 0 ≤ b ∧ b < 256 ∧ xs.getD i.toNat 0 = b := by
  obtain ⟨ad, h2, h3⟩ := rd_idx h uB zB i h0 h1
  have hm : xs.getD i.toNat 0 ∈ xs := by
    rw [List.getD_eq_getElem?_getD, List.getElem?_eq_getElem (by omega)]
    simp
  exact ⟨ad, _, h2, h3, (hb _ hm).1, (hb _ hm).2, rfl⟩
theorem take_one (xs : List Int) (p : Nat) (h : p < xs.length) : (xs.drop p).take 1 = [xs.getD p 0] := by
  rw [List.drop_eq_getElem_cons h, List.getD_eq_getElem?_getD, List.getElem?_eq_getElem h]; rfl
theorem take_more (xs : List Int) (p n : Nat) (h : p < xs.length) : (xs.drop p).take (n + 1) = xs.getD p 0 :: (xs.drop (p + 1)).take n := by
  rw [List.drop_eq_getElem_cons h, List.getD_eq_getElem?_getD, List.getElem?_eq_getElem h]; rfl

/-
  Formed, In, Read, Get, Write, Put of the document's answer for layer 20.
-/
theorem own8_nil (base : Nat) (w : World) : Own8 base w (.slice none 0 0) [] := World.ownsRow_nil _ _ _ _
theorem own8_below {w w' : World} {base : Nat} {v : Value} {xs : List Int} (h : Own8 base w v xs) (g : Below w.heap.size w w') : Own8 base w' v xs := by
  obtain ⟨hl, h⟩ := h
  refine ⟨hl, ?_⟩
  rcases h with h | ⟨b, cap, cur, rfl, hb, hg, hc, hm, hs, ht⟩
  · exact Or.inl h
  · refine Or.inr ⟨b, cap, cur, rfl, hb, ?_, hc, hm, hs, ht⟩
    rw [g.block b (Array.getElem?_eq_some_iff.1 hg).1]
    exact hg
theorem own8_base {base base' : Nat} {w : World} {v : Value} {xs : List Int} (h : Own8 base w v xs) (hb : base' ≤ base) : Own8 base' w v xs := by
  obtain ⟨hl, h⟩ := h
  refine ⟨hl, ?_⟩
  rcases h with h | ⟨b, cap, cur, rfl, hb2, hg, hc, hm, hs, ht⟩
  · exact Or.inl h
  · exact Or.inr ⟨b, cap, cur, rfl, Nat.le_trans hb hb2, hg, hc, hm, hs, ht⟩

set_option maxHeartbeats 1000000 in
theorem w_rformed20 (v : Value) (d : List Int) (w : World) (h : Rd .u8 w v d) (hz : d.length ≤ 140737488351232) :
    Calls Try.prog 16 #[v] w fun e w' => e = .returned (.bool (dkB d)) ∧ w' = w := by
  have hlen := rd_len h uB (P := Try.prog)
  have t1 : (d.length : Int).tmod 512 = (d.length : Int) % 512 := Int.tmod_eq_emod_of_nonneg (by omega)
  by_cases h1 : d.length % 512 = 0
  · have e : dkB d = decide ((d.length : Int) ≤ 32768) := by unfold dkB; rw [decide_eq_true h1, Bool.true_and]; congr 1; apply propext; omega
    rw [e]
    have hq : ((d.length : Int) % 512 == 0) = true := by rw [beq_iff_eq]; omega
    clear e h1
    go_enter Try.func16, Try.ntmps16
    go_wp2_with fail
    go_ret
    exact ⟨rfl, rfl⟩
  · have e : dkB d = false := by unfold dkB; rw [decide_eq_false h1, Bool.false_and]
    rw [e]
    have hq : ((d.length : Int) % 512 == 0) = false := by rw [beq_eq_false_iff_ne]; omega
    clear e h1
    go_enter Try.func16, Try.ntmps16
    go_wp2_with fail
    go_ret
    exact ⟨rfl, rfl⟩

set_option maxHeartbeats 1000000 in
theorem w_rin20 (v : Value) (d : List Int) (a n : Int) (w : World) (h : Rd .u8 w v d) (hz : d.length ≤ 140737488351232) :
    Calls Try.prog 23 #[v, .int .i64 a, .int .i64 n] w fun e w' => e = .returned (.bool (dkI d.length a n)) ∧ w' = w := by
  have hlen := rd_len h uB (P := Try.prog)
  have hL : (0 : Int) ≤ d.length := by omega
  have hL2 : (d.length : Int) ≤ 140737488351232 := by omega
  unfold dkI
  by_cases h1 : 0 ≤ a
  · by_cases h2 : a ≤ d.length
    · by_cases h3 : 0 ≤ n
      · have e : decide (0 ≤ a ∧ a ≤ (d.length : Int) ∧ 0 ≤ n ∧ n ≤ (d.length : Int) - a) = decide (n ≤ (d.length : Int) - a) := by congr 1; apply propext; omega
        rw [e]
        clear e
        go_enter Try.func23, Try.ntmps23
        go_wp2_with fail
        go_ret
        exact ⟨rfl, rfl⟩
      · rw [decide_eq_false (by omega)]
        go_enter Try.func23, Try.ntmps23
        go_wp2_with fail
        go_ret
        exact ⟨rfl, rfl⟩
    · rw [decide_eq_false (by omega)]
      go_enter Try.func23, Try.ntmps23
      go_wp2_with fail
      go_ret
      exact ⟨rfl, rfl⟩
  · rw [decide_eq_false (by omega)]
    go_enter Try.func23, Try.ntmps23
    go_wp2_with fail
    go_ret
    exact ⟨rfl, rfl⟩

set_option maxHeartbeats 1000000 in
theorem w_rread20 (v : Value) (d : List Int) (n : Int) (w : World) (h : Rd .u8 w v d) (hz : d.length ≤ 140737488351232) :
    Calls Try.prog 11 #[v, .int .i64 n] w fun e w' => ∃ v', e = .returned (.tuple #[v', .int .i64 (dkRd d n).2]) ∧ Own8 w.heap.size w' v' (dkRd d n).1 ∧ Below w.heap.size w w' := by
  have cF := w_rformed20 v d w h hz
  have hlen := rd_len h uB (P := Try.prog)
  have t1 : (d.length : Int).tdiv 512 = (d.length : Int) / 512 := Int.tdiv_eq_ediv_of_nonneg (by omega)
  unfold dkRd
  cases hB : dkB d
  · rw [hB] at cF
    simp only [Bool.false_eq_true, if_false]
    go_enter Try.func11, Try.ntmps11
    go_wp2_with (go_at_call 16; refine cF.mono ?_; rintro e q ⟨rfl, hw⟩; obtain rfl := hw.symm)
    go_ret2
    exact ⟨_, rfl, own8_nil _ _, Below.refl _ _⟩
  · rw [hB] at cF
    obtain ⟨l1, l2⟩ := dk_len hB
    simp only [if_true]
    by_cases hn0 : 0 ≤ n
    · by_cases hn1 : n < (d.length : Int) / 512
      · rw [show dkN d n = true by unfold dkN; rw [decide_eq_true ⟨hn0, hn1⟩]]
        simp only [if_true]
        obtain ⟨vb, rb, sb, -, -⟩ := rd_cutI h uB zB (512 * n) (512 * n + 512) (by omega) (by omega) (by omega)
        rw [show (512 * n + 512 - 512 * n).toNat = 512 by omega] at rb
        have cC := w_rcopy vb _ w rb (by simp; omega)
        obtain ⟨B, hBe⟩ : ∃ B, (d.drop (512 * n).toNat).take 512 = B := ⟨_, rfl⟩
        rw [hBe] at cC rb ⊢
        clear hBe hB l1
        go_enter Try.func11, Try.ntmps11
        go_wp2_with (first
          | (go_at_call 16; refine cF.mono ?_; rintro e q ⟨rfl, hw⟩; obtain rfl := hw.symm)
          | (go_at_call 9; refine cC.mono ?_; rintro e q2 ⟨v2, rfl, o2, b2⟩))
        go_ret2
        exact ⟨_, rfl, o2, b2⟩
      · rw [show dkN d n = false by unfold dkN; rw [decide_eq_false (by omega)]]
        simp only [Bool.false_eq_true, if_false]
        clear hB l1
        go_enter Try.func11, Try.ntmps11
        go_wp2_with (go_at_call 16; refine cF.mono ?_; rintro e q ⟨rfl, hw⟩; obtain rfl := hw.symm)
        go_ret2
        exact ⟨_, rfl, own8_nil _ _, Below.refl _ _⟩
    · rw [show dkN d n = false by unfold dkN; rw [decide_eq_false (by omega)]]
      simp only [Bool.false_eq_true, if_false]
      clear hB l1
      go_enter Try.func11, Try.ntmps11
      go_wp2_with (go_at_call 16; refine cF.mono ?_; rintro e q ⟨rfl, hw⟩; obtain rfl := hw.symm)
      go_ret2
      exact ⟨_, rfl, own8_nil _ _, Below.refl _ _⟩

set_option maxHeartbeats 1000000 in
theorem w_rget20 (v : Value) (d : List Int) (a n : Int) (w : World) (h : Rd .u8 w v d) (hz : d.length ≤ 140737488351232) :
    Calls Try.prog 20 #[v, .int .i64 a, .int .i64 n] w fun e w' => ∃ v', e = .returned (.tuple #[v', .int .i64 (dkGt d a n).2]) ∧ Own8 w.heap.size w' v' (dkGt d a n).1 ∧ Below w.heap.size w w' := by
  have cF := w_rformed20 v d w h hz
  have cI := w_rin20 v d a n w h hz
  unfold dkGt
  cases hB : dkB d
  · rw [hB] at cF
    simp only [Bool.false_eq_true, if_false]
    go_enter Try.func20, Try.ntmps20
    go_wp2_with (go_at_call 16; refine cF.mono ?_; rintro e q ⟨rfl, hw⟩; obtain rfl := hw.symm)
    go_ret2
    exact ⟨_, rfl, own8_nil _ _, Below.refl _ _⟩
  · rw [hB] at cF
    obtain ⟨l1, l2⟩ := dk_len hB
    simp only [if_true]
    cases hI : dkI d.length a n
    · rw [hI] at cI
      simp only [Bool.false_eq_true, if_false]
      clear hB l1 hI
      go_enter Try.func20, Try.ntmps20
      go_wp2_with (first
        | (go_at_call 16; refine cF.mono ?_; rintro e q ⟨rfl, hw⟩; obtain rfl := hw.symm)
        | (go_at_call 23; refine cI.mono ?_; rintro e q ⟨rfl, hw⟩; obtain rfl := hw.symm))
      go_ret2
      exact ⟨_, rfl, own8_nil _ _, Below.refl _ _⟩
    · rw [hI] at cI
      unfold dkI at hI
      rw [decide_eq_true_eq] at hI
      obtain ⟨i1, i2, i3, i4⟩ := hI
      simp only [if_true]
      obtain ⟨vb, rb, sb, -, -⟩ := rd_cutI h uB zB a (a + n) (by omega) (by omega) (by omega)
      rw [show (a + n - a).toNat = n.toNat by omega] at rb
      have cC := w_rcopy vb _ w rb (by simp; omega)
      obtain ⟨B, hBe⟩ : ∃ B, (d.drop a.toNat).take n.toNat = B := ⟨_, rfl⟩
      rw [hBe] at cC rb ⊢
      clear hBe hB l1
      go_enter Try.func20, Try.ntmps20
      go_wp2_with (first
        | (go_at_call 16; refine cF.mono ?_; rintro e q ⟨rfl, hw⟩; obtain rfl := hw.symm)
        | (go_at_call 23; refine cI.mono ?_; rintro e q ⟨rfl, hw⟩; obtain rfl := hw.symm)
        | (go_at_call 9; refine cC.mono ?_; rintro e q2 ⟨v2, rfl, o2, b2⟩))
      go_ret2
      exact ⟨_, rfl, o2, b2⟩

/-
  Write and Put of the document's answer for layer 20.
-/
set_option maxHeartbeats 2000000 in
theorem w_rwrite20 (v vb : Value) (d b : List Int) (n : Int) (w : World) (h : Rd .u8 w v d) (hb : Rd .u8 w vb b) (hz : d.length ≤ 140737488351232) :
    Calls Try.prog 13 #[v, .int .i64 n, vb] w fun e w' => ∃ v', e = .returned (.tuple #[v', .int .i64 (dkWr d n b).2]) ∧ Own8 w.heap.size w' v' (dkWr d n b).1 ∧ Below w.heap.size w w' := by
  obtain ⟨i0, hi, hz0, hz1, hz2⟩ := info_parts infoU8
  have cF := w_rformed20 v d w h hz
  have hlen := rd_len h uB (P := Try.prog)
  have hlb := rd_len hb uB (P := Try.prog)
  have t1 : (d.length : Int).tdiv 512 = (d.length : Int) / 512 := Int.tdiv_eq_ediv_of_nonneg (by omega)
  unfold dkWr
  cases hB : dkB d
  · rw [hB] at cF
    simp only [Bool.false_and, Bool.false_eq_true, if_false]
    go_enter Try.func13, Try.ntmps13
    go_wp2_with (first | (go_at_call 16; refine cF.mono ?_; rintro e q ⟨rfl, hw⟩; obtain rfl := hw.symm))
    go_ret2
    exact ⟨_, rfl, own8_nil _ _, Below.refl _ _⟩
  · rw [hB] at cF
    obtain ⟨l1, l2⟩ := dk_len hB
    by_cases h5 : b.length = 512
    · have hq : ((b.length : Int) != 512) = false := by rw [show (b.length : Int) = 512 by omega]; rfl
      rw [decide_eq_true h5]
      simp only [Bool.and_self, if_true]
      by_cases hn0 : 0 ≤ n
      · by_cases hn1 : n < (d.length : Int) / 512
        · rw [show dkN d n = true by unfold dkN; rw [decide_eq_true ⟨hn0, hn1⟩]]
          simp only [if_true]
          obtain ⟨va, ra, -, sa, -⟩ := rd_cutI h uB zB 0 (512 * n) (by omega) (by omega) (by omega)
          have sa' := sa rfl
          rw [show (512 * n - 0).toNat = (512 * n).toNat by omega, show (0 : Int).toNat = 0 from rfl, List.drop_zero] at ra
          obtain ⟨vc, rc, -, -, sc⟩ := rd_cutI h uB zB (512 * n + 512) d.length (by omega) (by omega) (by omega)
          have sc' := sc rfl
          rw [List.take_of_length_le (by rw [List.length_drop]; omega)] at rc
          have cC := w_rcopy va _ w ra (by rw [List.length_take]; omega)
          have hPl : (d.take (512 * n).toNat).length ≤ 32768 := by rw [List.length_take]; omega
          have hCl : (d.drop (512 * n + 512).toNat).length ≤ 32768 := by rw [List.length_drop]; omega
          obtain ⟨P, hP⟩ : ∃ P, d.take (512 * n).toNat = P := ⟨_, rfl⟩
          obtain ⟨C, hC⟩ : ∃ C, d.drop (512 * n + 512).toNat = C := ⟨_, rfl⟩
          rw [hP] at cC ra hPl ⊢
          rw [hC] at rc hCl ⊢
          clear hP hC hB l1 sa sc
          go_enter Try.func13, Try.ntmps13
          go_wp2_with (first
            | (go_at_call 16; refine cF.mono ?_; rintro e q ⟨rfl, hw⟩; obtain rfl := hw.symm)
            | (go_at_call 9; refine cC.mono ?_; rintro e q2 ⟨v2, rfl, o2, b2⟩)
            | (at_builtin; refine wpList_append_rd (k := .u8) rfl _ _ 22 rfl w.heap.size 5 i0 1 Try.underlying22 hi hz0 hz1 hz2 v3 (P ++ b) rfl o3 vc C rfl (rc.below b3) (by unfold maxLen; rw [List.length_append]; omega) (by rw [List.length_append]; omega) b3.size ?_; intro v4 w4 o4 g4; have b4 := below_grown b3 g4 (fun k hk => (o3.lt k hk).1))
            | (at_builtin; refine wpList_append_rd (k := .u8) rfl _ _ 22 rfl w.heap.size 5 i0 1 Try.underlying22 hi hz0 hz1 hz2 v2 P rfl o2 vb b rfl (hb.below b2) (by unfold maxLen; omega) (by omega) b2.size ?_; intro v3 w3 o3 g3; have b3 := below_grown b2 g3 (fun k hk => (o2.lt k hk).1)))
          go_ret2
          exact ⟨_, rfl, o4, b4⟩
        · rw [show dkN d n = false by unfold dkN; rw [decide_eq_false (by omega)]]
          simp only [Bool.false_eq_true, if_false]
          clear hB l1 h5
          go_enter Try.func13, Try.ntmps13
          go_wp2_with (first | (go_at_call 16; refine cF.mono ?_; rintro e q ⟨rfl, hw⟩; obtain rfl := hw.symm))
          go_ret2
          exact ⟨_, rfl, own8_nil _ _, Below.refl _ _⟩
      · rw [show dkN d n = false by unfold dkN; rw [decide_eq_false (by omega)]]
        simp only [Bool.false_eq_true, if_false]
        clear hB l1 h5
        go_enter Try.func13, Try.ntmps13
        go_wp2_with (first | (go_at_call 16; refine cF.mono ?_; rintro e q ⟨rfl, hw⟩; obtain rfl := hw.symm))
        go_ret2
        exact ⟨_, rfl, own8_nil _ _, Below.refl _ _⟩
    · have hq : ((b.length : Int) != 512) = true := by simp; omega
      rw [decide_eq_false h5]
      simp only [Bool.and_false, Bool.false_eq_true, if_false]
      clear hB l1 h5
      go_enter Try.func13, Try.ntmps13
      go_wp2_with (first | (go_at_call 16; refine cF.mono ?_; rintro e q ⟨rfl, hw⟩; obtain rfl := hw.symm))
      go_ret2
      exact ⟨_, rfl, own8_nil _ _, Below.refl _ _⟩

set_option maxHeartbeats 2000000 in
theorem w_rput20 (v vb : Value) (d b : List Int) (a : Int) (w : World) (h : Rd .u8 w v d) (hb : Rd .u8 w vb b) (hz : d.length ≤ 140737488351232) :
    Calls Try.prog 22 #[v, .int .i64 a, vb] w fun e w' => ∃ v', e = .returned (.tuple #[v', .int .i64 (dkPt d a b).2]) ∧ Own8 w.heap.size w' v' (dkPt d a b).1 ∧ Below w.heap.size w w' := by
  obtain ⟨i0, hi, hz0, hz1, hz2⟩ := info_parts infoU8
  have cF := w_rformed20 v d w h hz
  have cI := w_rin20 v d a b.length w h hz
  have hlb := rd_len hb uB (P := Try.prog)
  unfold dkPt
  cases hB : dkB d
  · rw [hB] at cF
    simp only [Bool.false_eq_true, if_false]
    go_enter Try.func22, Try.ntmps22
    go_wp2_with (first | (go_at_call 16; refine cF.mono ?_; rintro e q ⟨rfl, hw⟩; obtain rfl := hw.symm))
    go_ret2
    exact ⟨_, rfl, own8_nil _ _, Below.refl _ _⟩
  · rw [hB] at cF
    obtain ⟨l1, l2⟩ := dk_len hB
    simp only [if_true]
    cases hI : dkI d.length a b.length
    · rw [hI] at cI
      simp only [Bool.false_eq_true, if_false]
      clear hB l1 hI
      go_enter Try.func22, Try.ntmps22
      go_wp2_with (first | (go_at_call 16; refine cF.mono ?_; rintro e q ⟨rfl, hw⟩; obtain rfl := hw.symm) | (go_at_call 23; refine cI.mono ?_; rintro e q ⟨rfl, hw⟩; obtain rfl := hw.symm))
      go_ret2
      exact ⟨_, rfl, own8_nil _ _, Below.refl _ _⟩
    · rw [hI] at cI
      unfold dkI at hI
      rw [decide_eq_true_eq] at hI
      obtain ⟨i1, i2, i3, i4⟩ := hI
      simp only [if_true]
      obtain ⟨va, ra, -, sa, -⟩ := rd_cutI h uB zB 0 a (by omega) (by omega) (by omega)
      have sa' := sa rfl
      rw [show (a - 0).toNat = a.toNat by omega, show (0 : Int).toNat = 0 from rfl, List.drop_zero] at ra
      obtain ⟨vc, rc, -, -, sc⟩ := rd_cutI h uB zB (a + b.length) d.length (by omega) (by omega) (by omega)
      have sc' := sc rfl
      rw [List.take_of_length_le (by rw [List.length_drop]; omega), show (a + (b.length : Int)).toNat = a.toNat + b.length by omega] at rc
      have cC := w_rcopy va _ w ra (by rw [List.length_take]; omega)
      have hPl : (d.take a.toNat).length ≤ 32768 := by rw [List.length_take]; omega
      have hCl : (d.drop (a.toNat + b.length)).length ≤ 32768 := by rw [List.length_drop]; omega
      have hbl : b.length ≤ 32768 := by omega
      obtain ⟨P, hP⟩ : ∃ P, d.take a.toNat = P := ⟨_, rfl⟩
      obtain ⟨C, hC⟩ : ∃ C, d.drop (a.toNat + b.length) = C := ⟨_, rfl⟩
      rw [hP] at cC ra hPl ⊢
      rw [hC] at rc hCl ⊢
      clear hP hC hB l1 sa sc
      go_enter Try.func22, Try.ntmps22
      go_wp2_with (first
        | (go_at_call 16; refine cF.mono ?_; rintro e q ⟨rfl, hw⟩; obtain rfl := hw.symm)
        | (go_at_call 23; refine cI.mono ?_; rintro e q ⟨rfl, hw⟩; obtain rfl := hw.symm)
        | (go_at_call 9; refine cC.mono ?_; rintro e q2 ⟨v2, rfl, o2, b2⟩)
        | (at_builtin; refine wpList_append_rd (k := .u8) rfl _ _ 22 rfl w.heap.size 5 i0 1 Try.underlying22 hi hz0 hz1 hz2 v3 (P ++ b) rfl o3 vc C rfl (rc.below b3) (by unfold maxLen; rw [List.length_append]; omega) (by rw [List.length_append]; omega) b3.size ?_; intro v4 w4 o4 g4; have b4 := below_grown b3 g4 (fun k hk => (o3.lt k hk).1))
        | (at_builtin; refine wpList_append_rd (k := .u8) rfl _ _ 22 rfl w.heap.size 5 i0 1 Try.underlying22 hi hz0 hz1 hz2 v2 P rfl o2 vb b rfl (hb.below b2) (by unfold maxLen; omega) (by omega) b2.size ?_; intro v3 w3 o3 g3; have b3 := below_grown b2 g3 (fun k hk => (o2.lt k hk).1)))
      go_ret2
      exact ⟨_, rfl, o4, b4⟩

/-
  Slices of anything that is read: the rows of cells that a slice value has in a world, and what they read as. No Go text in sight.
-/
/-- the slice value v has these rows, of sz cells each -/
def SlC (sz : Nat) (w : World) (v : Value) (rows : List (List Value)) : Prop :=
  (∃ ao cap, v = .slice ao 0 cap ∧ (ao = none → cap = 0) ∧ rows = []) ∨
  ∃ b off cap, v = .slice (some ⟨b, off, none⟩) rows.length cap ∧ 0 < rows.length ∧ rows.length ≤ cap ∧ cap ≤ maxLen ∧
    ∀ i, i < rows.length → (rows.getD i []).length = sz ∧ ∀ j, j < sz → w.cell? ⟨b, off + i * sz + j, none⟩ = (rows.getD i [])[j]?
theorem SlC.below {sz : Nat} {w w' : World} {v : Value} {rows : List (List Value)} (h : SlC sz w v rows) (g : Below w.heap.size w w') : SlC sz w' v rows := by
  rcases h with h | ⟨b, off, cap, rfl, h0, h1, h2, hc⟩
  · exact Or.inl h
  · refine Or.inr ⟨b, off, cap, rfl, h0, h1, h2, fun i hi => ⟨(hc i hi).1, fun j hj => ?_⟩⟩
    have hl := (hc i hi).1
    have e := (hc i hi).2 j hj
    rw [List.getElem?_eq_getElem (by omega)] at e ⊢
    exact below_cell g e
theorem SlC.form {sz : Nat} {w : World} {v : Value} {rows : List (List Value)} (h : SlC sz w v rows) : ∃ ao cap, v = .slice ao rows.length cap ∧ rows.length ≤ cap ∧ (ao = none → cap = 0) ∧
    (0 < rows.length → cap ≤ maxLen ∧ ∃ b off, ao = some ⟨b, off, none⟩ ∧ ∀ i, i < rows.length → (rows.getD i []).length = sz ∧ ∀ j, j < sz → w.cell? ⟨b, off + i * sz + j, none⟩ = (rows.getD i [])[j]?) := by
  rcases h with ⟨ao, cap, rfl, h1, rfl⟩ | ⟨b, off, cap, rfl, h0, h1, h2, hc⟩
  · exact ⟨ao, cap, rfl, Nat.zero_le _, h1, fun h => by simp at h⟩
  · exact ⟨_, cap, rfl, h1, (fun h => by cases h), fun _ => ⟨h2, b, off, rfl, hc⟩⟩
/-- the slice value v reads as the list xs, each of its rows as R says -/
def SlR {α : Type} (sz : Nat) (R : World → List Value → α → Prop) (w : World) (v : Value) (xs : List α) : Prop :=
  ∃ rows, SlC sz w v rows ∧ rows.length = xs.length ∧ ∀ i (h : i < xs.length), R w (rows.getD i []) xs[i]
theorem SlR.below {α : Type} {sz : Nat} {R : World → List Value → α → Prop} {w w' : World} {v : Value} {xs : List α} (h : SlR sz R w v xs) (g : Below w.heap.size w w') (hR : ∀ cs x, R w cs x → R w' cs x) : SlR sz R w' v xs := by
  obtain ⟨rows, h1, h2, h3⟩ := h
  exact ⟨rows, h1.below g, h2, fun i hi => hR _ _ (h3 i hi)⟩
theorem SlR.nil {α : Type} {sz : Nat} {R : World → List Value → α → Prop} {w : World} : SlR sz R w (.slice none 0 0) ([] : List α) :=
  ⟨[], Or.inl ⟨none, 0, rfl, fun _ => rfl, rfl⟩, rfl, fun i h => by simp at h⟩
theorem slr_len {α : Type} {P : Program} {sz : Nat} {R : World → List Value → α → Prop} {w : World} {v : Value} {xs : List α} (h : SlR sz R w v xs) {t e : TypeId} (ht : P.underlying t = some (.slice e)) (ty : TypeId) (w' : World) :
    (Builtin.len_ #[t] ty #[v]).run P w' = .ok (.int .i64 xs.length) w' := by
  obtain ⟨rows, h1, h2, h3⟩ := h
  obtain ⟨ao, cap, rfl, _⟩ := h1.form
  simp [Builtin.len_, run_underlying ht, goInt, h2]
theorem slr_max {α : Type} {sz : Nat} {R : World → List Value → α → Prop} {w : World} {v : Value} {xs : List α} (h : SlR sz R w v xs) : xs.length ≤ maxLen := by
  obtain ⟨rows, h1, h2, h3⟩ := h
  rcases h1 with ⟨ao, cap, rfl, _, rfl⟩ | ⟨b, off, cap, rfl, h0, h1, h2', hc⟩
  · simp at h2; omega
  · omega
/-- an element of one cell: its address' rule, its cell, what it reads as -/
theorem slr_idx {α : Type} {P : Program} {R : World → List Value → α → Prop} {w : World} {v : Value} {xs : List α} (h : SlR 1 R w v xs) {t : TypeId} (ht : P.underlying t = some (.slice (P.elem t))) (hs : ∀ w, (sizeOf (P.elem t)).run P w = .ok 1 w) (i : Int) (h0 : 0 ≤ i) (h1 : i < xs.length) :
    ∃ (a : Addr) (c : Value), (∀ w', (Instr.indexAt t v (.int .i64 i)).run P w' = .ok (.pointer (some a)) w') ∧ w.cell? a = some c ∧ R w [c] (xs[i.toNat]'(by omega)) := by
  obtain ⟨rows, g1, g2, g3⟩ := h
  obtain ⟨ao, cap, rfl, hc, hn, hx⟩ := g1.form
  obtain ⟨hm, b, off, rfl, hcell⟩ := hx (by omega)
  have hi : i.toNat < rows.length := by omega
  obtain ⟨l1, l2⟩ := hcell i.toNat hi
  have e := l2 0 (by omega)
  have hr := g3 i.toNat (by omega)
  match hrow : rows.getD i.toNat [], l1 with
  | [c], _ =>
    rw [hrow] at e hr
    refine ⟨⟨b, off + i.toNat, none⟩, c, fun w' => ?_, by simpa using e, hr⟩
    rw [run_indexAt_slice (h := ht), if_pos ⟨h0, by omega⟩, hs]
    simp only [Result.andThen, Nat.mul_one]
    congr 3
    unfold Addr.add
    split
    · rename_i hz; rw [hz]; rfl
    · rfl
/-- what the call has built, one cell an element -/
theorem slr_own {α : Type} {R : World → List Value → α → Prop} {w : World} {base : Nat} {e : TypeId} {v : Value} {n : Nat} {cs : List Value} {xs : List α} (h : w.ownsRow base e 1 v n cs) (hl : cs.length = xs.length) (hR : ∀ i (h : i < xs.length), R w [cs[i]'(by omega)] xs[i]) : SlR 1 R w v xs := by
  obtain ⟨hl2, h⟩ := h
  have hn : n = cs.length := by omega
  refine ⟨cs.map (fun c => [c]), ?_, by simp [hl], fun i hi => by simpa [List.getD_eq_getElem?_getD, List.getElem?_eq_getElem (show i < cs.length by omega)] using hR i hi⟩
  rcases h with ⟨rfl, h0⟩ | ⟨g, cap, cur, rfl, hb, hg, hc, hm, hs, ht⟩
  · have : cs = [] := List.eq_nil_of_length_eq_zero (by omega)
    subst this
    exact Or.inl ⟨none, 0, rfl, fun _ => rfl, rfl⟩
  · rcases Nat.eq_zero_or_pos cs.length with h0 | h0
    · have : cs = [] := List.eq_nil_of_length_eq_zero h0
      subst this
      exact Or.inl ⟨_, _, by rw [hn]; rfl, (fun h => by cases h), rfl⟩
    · refine Or.inr ⟨g, 0, cap, by simp [hn], by simpa using h0, by simp; omega, hm, fun i hi => ?_⟩
      have hi2 : i < cs.length := by simpa using hi
      have e1 : (cs.map (fun c => [c])).getD i [] = [cs[i]] := by simp [List.getD_eq_getElem?_getD, List.getElem?_eq_getElem hi2]
      rw [e1]
      refine ⟨rfl, fun j hj => ?_⟩
      obtain rfl : j = 0 := by omega
      have e2 : (cur.toList.take (n * 1))[i]? = some cs[i] := by rw [ht, List.getElem?_eq_getElem hi2]
      rw [List.getElem?_take] at e2
      split at e2
      · simp [World.cell?, hg]
        simpa using e2
      · cases e2

/-- a slice value's length, for measures -/
def lenOf : Value → Nat | .slice _ n _ => n | _ => 0
theorem rd_lenOf {k : IntKind} {w : World} {v : Value} {xs : List Int} (h : Rd k w v xs) : lenOf v = xs.length := by
  obtain ⟨ao, cap, rfl, _⟩ := rd_form h
  rfl

/-- a slice that came in: its rows, each of which reads as something of the element's type -/
theorem slc_open {H : Type} {enc : TypeId × Value → H} {P : Program} {W : World} {t e : TypeId} {a : Option Addr} {len cap : Nat} {d : DataW H} {ps : List MemPlace} {sz fuel : Nat}
    (ht : P.underlying t = some (.slice e)) (hc : P.cellsOf e = sz) (hsz : 0 < sz) (h : DataW.trod enc P W 0 (fun _ => true) true fuel t [.slice a len cap] = some (d, ps)) :
    ∃ rows : List (List Value), SlC sz W (.slice a len cap) rows ∧ rows.length = len ∧ (d = .nil ∧ rows = [] ∨ ∃ ds zs, d = .slice ds zs ∧ ds.length = rows.length ∧
      ∀ i, i < rows.length → ∃ n y, DataW.trod enc P W 0 (fun _ => true) true n e (rows.getD i []) = some y ∧ ds[i]? = some y.1) := by
  rcases DataW.trod_slice ht h with ⟨h0, hx⟩ | ⟨x, l, c, elems, rest, n, _, hcs, hx, hb, hl, hm, hlen, hel, hsp, hns⟩
  · simp at h0 hx
    obtain ⟨rfl, rfl, rfl⟩ := h0
    exact ⟨[], Or.inl ⟨none, 0, rfl, fun _ => rfl, rfl⟩, rfl, Or.inl ⟨hx.1, rfl⟩⟩
  · simp at hcs
    obtain ⟨rfl, rfl, rfl⟩ := hcs
    rw [hc] at hel
    have each : ∀ i, i < len → ∃ cs y, W.cells? 0 (x.add (i * sz)) sz = some cs ∧ DataW.trod enc P W 0 (fun _ => true) true n e cs = some y ∧ elems[i]? = some y := by
      intro i hi
      have e1 := hel i hi
      rw [List.getElem?_eq_getElem (by omega)] at e1
      obtain ⟨cs, h1, h2⟩ := Option.bind_eq_some_iff.1 e1
      exact ⟨cs, _, h1, h2, List.getElem?_eq_getElem (by omega)⟩
    refine ⟨(List.range len).map (fun i => ((W.cells? 0 (x.add (i * sz)) sz).getD [])), ?_, by simp, Or.inr ⟨_, _, (Prod.mk.inj hx).1, by simp [hlen], fun i hi => ?_⟩⟩
    · rcases Nat.eq_zero_or_pos len with h0 | h0
      · subst h0
        exact Or.inl ⟨some x, cap, rfl, (fun h => by cases h), rfl⟩
      · obtain ⟨b, off, spot⟩ := x
        have hspot : spot = none := by
          obtain ⟨cs, y, h1, _, _⟩ := each 0 h0
          obtain ⟨_, g1, g2⟩ := World.cells?_some h1
          have g3 := g2 0 hsz
          rw [List.getElem?_eq_getElem (by omega)] at g3
          simpa [Addr.add] using World.cell?_spot g3
        subst hspot
        refine Or.inr ⟨b, off, cap, by simp, by simpa using h0, by simpa using hl, hm, fun i hi => ?_⟩
        have hi2 : i < len := by simpa using hi
        obtain ⟨cs, y, h1, _, _⟩ := each i hi2
        have e1 : ((List.range len).map (fun i => ((W.cells? 0 ((⟨b, off, none⟩ : Addr).add (i * sz)) sz).getD []))).getD i [] = cs := by
          simp [List.getD_eq_getElem?_getD, List.getElem?_range, hi2, h1]
        rw [e1]
        obtain ⟨_, g1, g2⟩ := World.cells?_some h1
        refine ⟨g1, fun j hj => ?_⟩
        rw [← g2 j hj]
        congr 1
        unfold Addr.add
        split
        · rename_i hz
          split
          · rename_i hz2; simp [hz, hz2]
          · simp [hz]
        · split
          · rename_i hz2; simp [hz2]
          · simp
    · have hi2 : i < len := by simpa using hi
      obtain ⟨cs, y, h1, h2, h3⟩ := each i hi2
      refine ⟨n, y, ?_, by rw [List.getElem?_map, h3]; rfl⟩
      have e1 : ((List.range len).map (fun i => ((W.cells? 0 (x.add (i * sz)) sz).getD []))).getD i [] = cs := by
        simp [List.getD_eq_getElem?_getD, List.getElem?_range, hi2, h1]
      rw [e1]
      exact h2

/-- texts -/
def strR (_ : World) (cs : List Value) (s : ByteArray) : Prop := cs = [.string s] ∧ s.size ≤ maxLen
/-- slices of bytes -/
def bytR (w : World) (cs : List Value) (xs : List Int) : Prop := ∃ v, cs = [v] ∧ Rd .u8 w v xs ∧ bytesL xs
theorem bytR_below {w w' : World} (g : Below w.heap.size w w') (cs : List Value) (xs : List Int) (h : bytR w cs xs) : bytR w' cs xs := by
  obtain ⟨v, h1, h2, h3⟩ := h
  exact ⟨v, h1, h2.below g, h3⟩
theorem wf_bytes {xs : List Int} (h : ∀ n ∈ xs, (Lit.int .u8 n).wf = true) : bytesL xs := by
  intro x hx
  have := h x hx
  simp [Lit.wf, IntKind.min, IntKind.max, IntKind.bits, IntKind.signed] at this
  omega
/-- from rows that each read as something to the list of what they read as -/
theorem choose_list {α β : Type} (rows : List β) (p : β → α → Prop) (h : ∀ r ∈ rows, ∃ x, p r x) : ∃ xs : List α, xs.length = rows.length ∧ ∀ i (h : i < rows.length) (g : i < xs.length), p rows[i] xs[i] := by
  induction rows with
  | nil => exact ⟨[], rfl, fun i h => by simp at h⟩
  | cons r rs ih =>
    obtain ⟨x, hx⟩ := h r (by simp)
    obtain ⟨xs, h1, h2⟩ := ih (fun r' hr => h r' (by simp [hr]))
    refine ⟨x :: xs, by simp [h1], fun i hi hg => ?_⟩
    cases i with
    | zero => exact hx
    | succ i => exact h2 i (by simpa using hi) (by simpa using hg)
theorem str_open {H : Type} {enc : TypeId × Value → H} {P : Program} {W : World} {t e : TypeId} {a : Option Addr} {len cap : Nat} {d : DataW H} {ps : List MemPlace}
    (ht : P.underlying t = some (.slice e)) (he : P.underlying e = some .string) (hc : P.cellsOf e = 1) (h : DataW.Trod enc P W 0 (fun _ => true) true t (.slice a len cap) d ps) :
    ∃ xs : List ByteArray, SlR 1 strR W (.slice a len cap) xs := by
  obtain ⟨fuel, hf⟩ := h
  obtain ⟨rows, h1, h2, h3⟩ := slc_open ht hc (by omega) (show DataW.trod enc P W 0 (fun _ => true) true fuel t [.slice a len cap] = some (d, ps) from hf)
  obtain ⟨xs, hx1, hx2⟩ := choose_list rows (fun r (s : ByteArray) => strR W r s) (fun r hr => by
    obtain ⟨i, hi, rfl⟩ := List.getElem_of_mem hr
    rcases h3 with ⟨_, rfl⟩ | ⟨ds, zs, _, _, h3⟩
    · simp at hi
    · obtain ⟨n, y, g, _⟩ := h3 i hi
      rw [List.getD_eq_getElem?_getD, List.getElem?_eq_getElem hi] at g
      obtain ⟨s, g1, _, g3⟩ := DataW.trod_string he g
      exact ⟨s, g1, g3⟩)
  refine ⟨xs, rows, h1, hx1.symm, fun i hi => ?_⟩
  rw [List.getD_eq_getElem?_getD, List.getElem?_eq_getElem (by omega)]
  exact hx2 i (by omega) hi
theorem byt_open {H : Type} {enc : TypeId × Value → H} {P : Program} {W : World} {t e b : TypeId} {a : Option Addr} {len cap : Nat} {d : DataW H} {ps : List MemPlace}
    (ht : P.underlying t = some (.slice e)) (he : P.underlying e = some (.slice b)) (hb : P.underlying b = some (.int .u8)) (hc : P.cellsOf e = 1) (hcb : P.cellsOf b = 1) (h : DataW.Trod enc P W 0 (fun _ => true) true t (.slice a len cap) d ps) :
    ∃ xs : List (List Int), SlR 1 bytR W (.slice a len cap) xs := by
  obtain ⟨fuel, hf⟩ := h
  obtain ⟨rows, h1, h2, h3⟩ := slc_open ht hc (by omega) (show DataW.trod enc P W 0 (fun _ => true) true fuel t [.slice a len cap] = some (d, ps) from hf)
  obtain ⟨xs, hx1, hx2⟩ := choose_list rows (fun r (s : List Int) => bytR W r s) (fun r hr => by
    obtain ⟨i, hi, rfl⟩ := List.getElem_of_mem hr
    rcases h3 with ⟨_, rfl⟩ | ⟨ds, zs, _, _, h3⟩
    · simp at hi
    · obtain ⟨n, y, g, _⟩ := h3 i hi
      rw [List.getD_eq_getElem?_getD, List.getElem?_eq_getElem hi] at g
      have g' : ∃ x l c, rows[i] = [.slice x l c] := by
        rcases DataW.trod_slice he g with ⟨h0, _⟩ | ⟨x, l, c, _, _, _, _, h0, _⟩
        · exact ⟨none, 0, 0, h0⟩
        · exact ⟨some x, l, c, h0⟩
      obtain ⟨x, l, c, g'⟩ := g'
      simp only [Option.getD_some] at g
      rw [g'] at g ⊢
      obtain ⟨zs, k1, k2, _⟩ := rd_open (k := .u8) (W := W) (a := x) (len := l) (cap := c) he hb hcb ⟨n, g⟩
      exact ⟨zs, _, rfl, k1, wf_bytes k2⟩)
  refine ⟨xs, rows, h1, hx1.symm, fun i hi => ?_⟩
  rw [List.getD_eq_getElem?_getD, List.getElem?_eq_getElem (by omega)]
  exact hx2 i (by omega) hi

end Go.Proofs.Ytcffaojpmdhdoaa
