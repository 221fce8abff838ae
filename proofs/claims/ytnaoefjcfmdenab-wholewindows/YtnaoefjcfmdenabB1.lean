/-
  Texts of one proof, laid one behind the other: Ppr Pl1 Pl2 Pl3 Sg.
-/
import Derived.Test.YtnaoefjcfmdenabB0
import Derived.ChangeArms
namespace Go.Proofs.Ytnaoefjcfmdenab
open Go.ChangeShapes Go.WideShapes Go.ChangeAt Go.RowKit
set_option linter.unusedVariables false
set_option linter.unusedSimpArgs false

/-
  Names, unit addresses and the bytes of properties, as plain functions of lists of numbers. No Go text in sight.
-/
theorem L_LB (s : ByteArray) : L s = LB s := rfl
theorem toB_nums (l : List Int) : toB l = strOfNums l := rfl

/-- a byte that a name may have -/
def nmC (c : Int) : Bool := decide (33 ≤ c ∧ c ≤ 126 ∧ ¬ (65 ≤ c ∧ c ≤ 90) ∧ ¬ c = 47 ∧ ¬ c = 92 ∧ ¬ c = 58 ∧ ¬ c = 91 ∧ ¬ c = 93 ∧ ¬ c = 64)
def nmF (l : List Int) : Bool := decide (1 ≤ l.length ∧ l.length ≤ 31) && l.all nmC
theorem nm_mid (l m : List Int) (c : Int) (h : nmC c = false) : nmF (l ++ c :: m) = false := by simp [nmF, h]

/-- pieces between bytes d -/
def spl (d : Int) (cur : List Int) : List Int → List (List Int)
  | [] => [cur]
  | c :: r => if c = d then cur :: spl d [] r else spl d (cur ++ [c]) r
theorem spl_skip (d : Int) (p r : List Int) (h : ∀ x ∈ p, ¬ x = d) : ∀ cur, spl d cur (p ++ r) = spl d (cur ++ p) r := by
  induction p with
  | nil => intro cur; simp
  | cons x p ih =>
    intro cur
    rw [List.cons_append, spl, if_neg (h x (by simp)), ih (fun y hy => h y (by simp [hy]))]
    simp
theorem spl_len (d : Int) : ∀ (l cur : List Int), 1 ≤ (spl d cur l).length
  | [], _ => by simp [spl]
  | c :: r, cur => by
    unfold spl
    split
    · simp
    · exact spl_len d r _

/-- a piece of a unit address: 1 to 8 digits of base 16 -/
def pcOk (p : List Int) : Bool := decide (1 ≤ p.length ∧ p.length ≤ 8) && allD 16 p
/-- what ParseUnit answers -/
def punF (l : List Int) : List Int × Int :=
  if (spl 44 [] l).all pcOk = false then ([], 15) else if 4 < (spl 44 [] l).length then ([], 3) else ((spl 44 [] l).map (num 16), 0)
theorem vl16_bd (c : Int) (h : isD c 16 = true) (h0 : 0 ≤ c) (h1 : c < 256) : 0 ≤ vl c 16 ∧ vl c 16 < 16 := by
  unfold vl
  rw [if_pos h]
  unfold isD at h
  have := dv_bd c h0 h1
  simp at h
  omega
theorem num16_lt (p : List Int) (hb : bytesL p) (hD : allD 16 p = true) : 0 ≤ num 16 p ∧ num 16 p < 16 ^ p.length := by
  suffices h : ∀ q : List Int, bytesL q.reverse → allD 16 q.reverse = true → 0 ≤ num 16 q.reverse ∧ num 16 q.reverse < 16 ^ q.length by
    have := h p.reverse (by simpa using hb) (by simpa using hD)
    simpa using this
  intro q
  induction q with
  | nil => intro _ _; simp [num]
  | cons c q ih =>
    intro hb hD
    rw [List.reverse_cons] at hb hD ⊢
    rw [allD_snoc, Bool.and_eq_true] at hD
    have i := ih (fun x hx => hb x (by simp at hx ⊢; exact Or.inl hx)) hD.1
    have hc := hb c (by simp)
    have hv := vl16_bd c hD.2 hc.1 hc.2
    rw [num_snoc, List.length_cons, Int.pow_succ]
    obtain ⟨k, hk⟩ : ∃ k, (16 : Int) ^ q.length = k := ⟨_, rfl⟩
    rw [hk] at i ⊢
    omega
theorem pc_num (p : List Int) (hb : bytesL p) (h : pcOk p = true) : 0 ≤ num 16 p ∧ num 16 p < 4294967296 := by
  simp [pcOk] at h
  have h1 := num16_lt p hb h.2
  have h2 : (16 : Int) ^ p.length ≤ 16 ^ 8 := by
    have := Nat.pow_le_pow_right (n := 16) (by decide) h.1.2
    have e : ((16 ^ p.length : Nat) : Int) ≤ ((16 ^ 8 : Nat) : Int) := by omega
    simpa using e
  omega
/-- such a piece as layer 2 reads it -/
theorem pc_prs (p : List Int) (hb : bytesL p) (h1 : 1 ≤ p.length) (h8 : p.length ≤ 8) (hm : ¬ p.head? = some 45) : prs p 16 = if pcOk p = true then (num 16 p, 0) else (0, 15) := by
  have hne : ¬ p = [] := by intro h; rw [h] at h1; simp at h1
  unfold prs
  rw [if_neg (by omega), if_neg hm]
  unfold prsT
  rw [if_neg hne]
  cases hD : allD 16 p
  · rw [if_pos rfl, if_neg (by simp [pcOk, hD])]
  · have hok : pcOk p = true := by simp [pcOk, hD]; omega
    have := pc_num p hb hok
    rw [if_neg (by decide), if_neg (by omega), if_pos hok]
    simp
theorem pc_minus (p : List Int) (hm : p.head? = some 45) : pcOk p = false := by
  cases p with
  | nil => simp at hm
  | cons c r =>
    simp at hm
    subst hm
    simp [pcOk, allD, isD, dv]

/-- what ShowUnit answers -/
def shoT : List Int → List Int
  | [] => []
  | x :: r => 44 :: (sh 16 x ++ shoT r)
def shoF (l : List Int) : List Int := (shoT l).drop 1
theorem shoT_snoc (l : List Int) (x : Int) : shoT (l ++ [x]) = shoT l ++ 44 :: sh 16 x := by
  induction l with
  | nil => simp [shoT]
  | cons y l ih => simp [shoT, ih]
theorem shoF_one (x : Int) : shoF [x] = sh 16 x := by simp [shoF, shoT]
theorem shoF_snoc (l : List Int) (x : Int) (h : l ≠ []) : shoF (l ++ [x]) = shoF l ++ (44 :: sh 16 x) := by
  cases l with
  | nil => exact absurd rfl h
  | cons y l => simp [shoF, shoT, shoT_snoc]
def cells (l : List Int) : Prop := ∀ x ∈ l, 0 ≤ x ∧ x < 4294967296
theorem shF_len16 (f : Nat) : ∀ (k : Nat) (n : Int), 0 ≤ n → n < 16 ^ (k + 1) → (shF 16 f n).length ≤ k + 1 := by
  induction f with
  | zero => intro k n _ _; simp [shF]
  | succ f ih =>
    intro k n h0 h1
    unfold shF
    split
    · simp
    · rename_i hn
      cases k with
      | zero => simp at h1; omega
      | succ k =>
        have := ih k (n / 16) (by omega) (by rw [Int.pow_succ] at h1; omega)
        simp
        omega
theorem sh16_len (n : Int) (h0 : 0 ≤ n) (h1 : n < 4294967296) : 1 ≤ (sh 16 n).length ∧ (sh 16 n).length ≤ 8 := by
  have h2 := (sh_all 16 n (by omega) (by omega) h0 h1).2.2.2
  have h3 := shF_len16 32 7 n h0 (by omega)
  unfold sh at *
  refine ⟨?_, h3⟩
  cases h : shF 16 32 n with
  | nil => exact absurd h h2
  | cons x r => simp
theorem sh16_not (n x : Int) (h0 : 0 ≤ n) (h1 : n < 4294967296) (hx : x ∈ sh 16 n) : ¬ x = 44 := by
  have h := (sh_all 16 n (by omega) (by omega) h0 h1).1
  unfold allD at h
  rw [List.all_eq_true] at h
  have := h x hx
  intro e
  subst e
  simp [isD, dv] at this
theorem sh16_bytes (n : Int) (h0 : 0 ≤ n) (h1 : n < 4294967296) : bytesL (sh 16 n) := fun x hx =>
  ⟨((sh_all 16 n (by omega) (by omega) h0 h1).2.2.1 x hx).1, ((sh_all 16 n (by omega) (by omega) h0 h1).2.2.1 x hx).2.1⟩
theorem shoT_bytes : ∀ l : List Int, cells l → bytesL (shoT l)
  | [], _ => fun x hx => by simp [shoT] at hx
  | y :: l, h => by
    intro x hx
    simp only [shoT, List.mem_cons, List.mem_append] at hx
    rcases hx with rfl | hx | hx
    · omega
    · exact sh16_bytes y (h y (by simp)).1 (h y (by simp)).2 x hx
    · exact shoT_bytes l (fun z hz => h z (by simp [hz])) x hx
theorem shoT_len : ∀ l : List Int, cells l → (shoT l).length ≤ 9 * l.length
  | [], _ => by simp [shoT]
  | y :: l, h => by
    have h1 := sh16_len y (h y (by simp)).1 (h y (by simp)).2
    have h2 := shoT_len l (fun z hz => h z (by simp [hz]))
    simp only [shoT, List.length_cons, List.length_append]
    omega
theorem shoF_bytes (l : List Int) (h : cells l) : bytesL (shoF l) := fun x hx => shoT_bytes l h x (List.mem_of_mem_drop hx)
theorem spl_sho : ∀ (l : List Int) (cur : List Int), cells l → spl 44 cur (shoT l) = cur :: l.map (sh 16)
  | [], cur, _ => by simp [shoT, spl]
  | y :: l, cur, h => by
    rw [shoT, spl, if_pos rfl, spl_skip 44 (sh 16 y) (shoT l) (fun x hx => sh16_not y x (h y (by simp)).1 (h y (by simp)).2 hx), List.nil_append, spl_sho l (sh 16 y) (fun z hz => h z (by simp [hz]))]
    rfl
theorem spl_shoF (l : List Int) (h : cells l) (hne : l ≠ []) : spl 44 [] (shoF l) = l.map (sh 16) := by
  cases l with
  | nil => exact absurd rfl hne
  | cons y l =>
    have e : shoF (y :: l) = sh 16 y ++ shoT l := by simp [shoF, shoT]
    rw [e, spl_skip 44 (sh 16 y) (shoT l) (fun x hx => sh16_not y x (h y (by simp)).1 (h y (by simp)).2 hx), List.nil_append, spl_sho l (sh 16 y) (fun z hz => h z (by simp [hz]))]
    rfl
theorem sh16_ok (n : Int) (h0 : 0 ≤ n) (h1 : n < 4294967296) : pcOk (sh 16 n) = true ∧ num 16 (sh 16 n) = n := by
  have h := sh_all 16 n (by omega) (by omega) h0 h1
  have hl := sh16_len n h0 h1
  refine ⟨?_, h.2.1⟩
  simp [pcOk, h.1]
  omega
/-- a unit address shown is parsed as itself -/
theorem pun_back (l : List Int) (h : cells l) : punF (shoF l) = if l = [] then ([], 15) else if 4 < l.length then ([], 3) else (l, 0) := by
  by_cases hne : l = []
  · subst hne
    simp [punF, shoF, shoT, spl, pcOk]
  · rw [if_neg hne]
    unfold punF
    rw [spl_shoF l h hne]
    have hall : (l.map (sh 16)).all pcOk = true := by
      rw [List.all_eq_true]
      intro p hp
      simp only [List.mem_map] at hp
      obtain ⟨n, hn, rfl⟩ := hp
      exact (sh16_ok n (h n hn).1 (h n hn).2).1
    rw [hall, if_neg (by decide), List.length_map]
    split
    · rfl
    · rw [List.map_map]
      have : l.map (num 16 ∘ sh 16) = l := by
        conv => rhs; rw [← List.map_id l]
        apply List.map_congr_left
        intro n hn
        exact (sh16_ok n (h n hn).1 (h n hn).2).2
      rw [this]

/-- what EncodeText and Join answer -/
def enTF (l : List Int) : List Int × Int := if l.all (fun c => decide (¬ c = 0)) = false then ([], 15) else if 256 ≤ l.length then ([], 3) else (l ++ [0], 0)
def joiF (ps : List (List Int)) : List Int × Int := if 256 < ps.flatten.length then ([], 3) else (ps.flatten, 0)
/-- what DecodeInt and DecodeText answer -/
def deIF (l : List Int) : Int × List Int × Int := if l.length < 4 then (0, [], 2) else (beV (l.take 4), l.drop 4, 0)
def deTF (l : List Int) : List Int × List Int × Int :=
  match spl 0 [] l with
  | p :: q :: r => (p, l.drop (p.length + 1), 0)
  | _ => ([], [], 2)
/-- what Ints and Texts answer -/
def intL : List Int → List Int
  | a :: b :: c :: d :: r => beV [a, b, c, d] :: intL r
  | _ => []
def intF (l : List Int) : List Int × Int := if l.length % 4 = 0 then (intL l, 0) else ([], 15)
def texL (cur : List Int) : List Int → Option (List (List Int))
  | [] => if cur = [] then some [] else none
  | c :: r => if c = 0 then (texL [] r).map (cur :: ·) else texL (cur ++ [c]) r
def texsF (l : List Int) : List (List Int) × Int := match texL [] l with
  | some ts => (ts, 0)
  | none => ([], 15)
theorem beV4 (n : Int) (h0 : 0 ≤ n) (h1 : n < 4294967296) : beV (beB 4 n) = n := by
  rw [beV_beB]
  exact Int.emod_eq_of_lt h0 (by omega)
theorem int_back : ∀ l : List Int, cells l → intL (l.map (beB 4)).flatten = l
  | [], _ => rfl
  | n :: l, h => by
    have hn := h n (by simp)
    have i := int_back l (fun x hx => h x (by simp [hx]))
    have e : beB 4 n = [n / 256 / 256 / 256 % 256, n / 256 / 256 % 256, n / 256 % 256, n % 256] := by simp [beB]
    have e2 := beV4 n hn.1 hn.2
    rw [e] at e2
    simp only [List.map_cons, List.flatten_cons]
    rw [e]
    show beV [n / 256 / 256 / 256 % 256, n / 256 / 256 % 256, n / 256 % 256, n % 256] :: intL (l.map (beB 4)).flatten = _
    rw [e2, i]
theorem enc_len : ∀ l : List Int, ((l.map (beB 4)).flatten).length = 4 * l.length
  | [] => rfl
  | n :: l => by
    simp only [List.map_cons, List.flatten_cons, List.length_append, beB_len, List.length_cons, enc_len l]
    omega
theorem intF_back (l : List Int) (h : cells l) : intF (l.map (beB 4)).flatten = (l, 0) := by
  unfold intF
  rw [enc_len, if_pos (by omega), int_back l h]
theorem texL_skip (p r : List Int) (h : ∀ x ∈ p, ¬ x = 0) : ∀ cur, texL cur (p ++ r) = texL (cur ++ p) r := by
  induction p with
  | nil => intro cur; simp
  | cons x p ih =>
    intro cur
    rw [List.cons_append, texL, if_neg (h x (by simp)), ih (fun y hy => h y (by simp [hy]))]
    simp
theorem tex_back : ∀ ts : List (List Int), (∀ t ∈ ts, ∀ x ∈ t, ¬ x = 0) → texL [] (ts.map (· ++ [0])).flatten = some ts
  | [], _ => rfl
  | t :: ts, h => by
    simp only [List.map_cons, List.flatten_cons, List.append_assoc]
    rw [texL_skip t _ (h t (by simp)), List.nil_append]
    show texL t (0 :: (ts.map (· ++ [0])).flatten) = _
    rw [texL, if_pos rfl, tex_back ts (fun u hu => h u (by simp [hu]))]
    rfl
theorem texsF_back (ts : List (List Int)) (h : ∀ t ∈ ts, ∀ x ∈ t, ¬ x = 0) : texsF (ts.map (· ++ [0])).flatten = (ts, 0) := by
  unfold texsF
  rw [tex_back ts h]

/-
  Labels, arguments and windows as plain functions of lists. No Go text in sight.
-/
def xorI (a b : Int) : Int := ((a.toNat ^^^ b.toNat : Nat) : Int)
theorem xorI_self (a : Int) : xorI a a = 0 := by simp [xorI]
theorem xorI_byte {a b : Int} (a1 : a < 256) (b1 : b < 256) : 0 ≤ xorI a b ∧ xorI a b < 256 := by
  have := Nat.xor_lt_two_pow (n := 8) (x := a.toNat) (y := b.toNat) (by omega) (by omega)
  unfold xorI
  omega
theorem xorI_left {a b c : Int} (b0 : 0 ≤ b) (c0 : 0 ≤ c) (h : xorI a b = xorI a c) : b = c := by
  unfold xorI at h
  have h2 : a.toNat ^^^ b.toNat = a.toNat ^^^ c.toNat := by omega
  have := congrArg (fun z => a.toNat ^^^ z) h2
  simp [← Nat.xor_assoc] at this
  omega
theorem xorI_right {a b c : Int} (a0 : 0 ≤ a) (b0 : 0 ≤ b) (h : xorI a c = xorI b c) : a = b := by
  have e : ∀ x y, xorI x y = xorI y x := fun x y => by unfold xorI; rw [Nat.xor_comm]
  rw [e a, e b] at h
  exact xorI_left a0 b0 h
/-- the exclusive or of the numbers of two bytes, byte by byte -/
def xevF : List Int → Int × Int → Int × Int
  | a :: b :: l, p => xevF l (xorI p.1 a, xorI p.2 b)
  | _, p => p
theorem xev_app : ∀ (n : Nat) (l : List Int) (p : Int × Int) (a b : Int), l.length = 2 * n → xevF (l ++ [a, b]) p = (xorI (xevF l p).1 a, xorI (xevF l p).2 b)
  | 0, l, p, a, b, h => by
    have : l = [] := List.eq_nil_of_length_eq_zero (by omega)
    subst this
    rfl
  | n + 1, l, p, a, b, h => by
    match l, h with
    | c :: d :: l, h => exact xev_app n l _ a b (by simp at h; omega)
theorem xev_byte : ∀ (n : Nat) (l : List Int) (p : Int × Int), l.length = 2 * n → bytesL l → (0 ≤ p.1 ∧ p.1 < 256) → (0 ≤ p.2 ∧ p.2 < 256) → (0 ≤ (xevF l p).1 ∧ (xevF l p).1 < 256) ∧ (0 ≤ (xevF l p).2 ∧ (xevF l p).2 < 256)
  | 0, l, p, h, hb, h1, h2 => by
    have : l = [] := List.eq_nil_of_length_eq_zero (by omega)
    subst this
    exact ⟨h1, h2⟩
  | n + 1, l, p, h, hb, h1, h2 => by
    match l, h, hb with
    | c :: d :: l, h, hb =>
      have hc := hb c (by simp)
      have hd := hb d (by simp)
      exact xev_byte n l _ (by simp at h; omega) (fun x hx => hb x (by simp [hx])) (xorI_byte (by omega) (by omega)) (xorI_byte (by omega) (by omega))
theorem xev_inj : ∀ (n : Nat) (l : List Int) (p q : Int × Int), l.length = 2 * n → bytesL l → (0 ≤ p.1 ∧ p.1 < 256) → (0 ≤ p.2 ∧ p.2 < 256) → (0 ≤ q.1 ∧ q.1 < 256) → (0 ≤ q.2 ∧ q.2 < 256) → xevF l p = xevF l q → p = q
  | 0, l, p, q, h, hb, h1, h2, h3, h4, e => by
    have : l = [] := List.eq_nil_of_length_eq_zero (by omega)
    subst this
    exact e
  | n + 1, l, p, q, h, hb, h1, h2, h3, h4, e => by
    match l, h, hb, e with
    | c :: d :: l, h, hb, e =>
      have hc := hb c (by simp)
      have hd := hb d (by simp)
      have := xev_inj n l _ _ (by simp at h; omega) (fun x hx => hb x (by simp [hx])) (xorI_byte (by omega) (by omega)) (xorI_byte (by omega) (by omega)) (xorI_byte (by omega) (by omega)) (xorI_byte (by omega) (by omega)) e
      simp only [Prod.mk.injEq] at this
      exact Prod.ext (xorI_right h1.1 h3.1 this.1) (xorI_right h2.1 h4.1 this.2)
/-- one byte that is another one is told -/
theorem xev_set : ∀ (n : Nat) (l : List Int) (p : Int × Int) (i : Nat) (y : Int), l.length = 2 * n → bytesL l → (0 ≤ p.1 ∧ p.1 < 256) → (0 ≤ p.2 ∧ p.2 < 256) → i < l.length → 0 ≤ y → y < 256 → ¬ y = l.getD i 0 → ¬ xevF (l.set i y) p = xevF l p
  | 0, l, p, i, y, h, hb, h1, h2, hi, y0, y1, hy => by omega
  | n + 1, l, p, i, y, h, hb, h1, h2, hi, y0, y1, hy => by
    match l, h, hb, hi, hy with
    | c :: d :: l, h, hb, hi, hy =>
      have hc := hb c (by simp)
      have hd := hb d (by simp)
      have hl : l.length = 2 * n := by simp at h; omega
      have hbl : bytesL l := fun x hx => hb x (by simp [hx])
      match i, hi, hy with
      | 0, hi, hy =>
        intro e
        have := xev_inj n l _ _ hl hbl (xorI_byte (by omega) (by omega)) (xorI_byte (by omega) (by omega)) (xorI_byte (by omega) (by omega)) (xorI_byte (by omega) (by omega)) (show xevF l (xorI p.1 y, xorI p.2 d) = xevF l (xorI p.1 c, xorI p.2 d) from e)
        simp only [Prod.mk.injEq] at this
        exact hy (xorI_left y0 hc.1 this.1)
      | 1, hi, hy =>
        intro e
        have := xev_inj n l _ _ hl hbl (xorI_byte (by omega) (by omega)) (xorI_byte (by omega) (by omega)) (xorI_byte (by omega) (by omega)) (xorI_byte (by omega) (by omega)) (show xevF l (xorI p.1 c, xorI p.2 y) = xevF l (xorI p.1 c, xorI p.2 d) from e)
        simp only [Prod.mk.injEq] at this
        exact hy (xorI_left y0 hd.1 this.2)
      | i + 2, hi, hy =>
        exact xev_set n l _ i y hl hbl (xorI_byte (by omega) (by omega)) (xorI_byte (by omega) (by omega)) (by simp at hi; omega) y0 y1 (by simpa using hy)

/-- a label of any partitions: sixteen numbers -/
def lbH (ps : List Int) : List Int := ps.flatMap (beB 4) ++ List.replicate 444 0 ++ [218, 190]
def lbF (ps : List Int) : List Int := lbH ps ++ [(xevF (lbH ps) (0, 0)).1, (xevF (lbH ps) (0, 0)).2]
def unF (b : List Int) : Nat → List Int
  | 0 => []
  | n + 1 => beV (b.take 4) :: unF (b.drop 4) n
def psF (b : List Int) : List Int × Int := if b.length = 512 ∧ lbF (unF b 16) = b then (unF b 16, 0) else (List.replicate 16 0, 24)
def lb64 (ps : List Int) : Bool := ps.all fun x => decide (x ≤ 64)
def mkF (ps : List Int) : List Int × Int := if lb64 ps = true then (lbF ps, 0) else ([], 1)
def u32L (ps : List Int) : Prop := ∀ x ∈ ps, 0 ≤ x ∧ x < 4294967296
theorem be4_len (x : Int) : (beB 4 x).length = 4 := by simp [beB]
theorem be4_bytes {x : Int} (h0 : 0 ≤ x) (h1 : x < 4294967296) : bytesL (beB 4 x) := by
  intro y hy
  simp [beB] at hy
  omega
theorem be4_back {x : Int} (h0 : 0 ≤ x) (h1 : x < 4294967296) : beV (beB 4 x) = x := by
  simp [beB, beV]
  omega
theorem flat_be_len : ∀ ps : List Int, (ps.flatMap (beB 4)).length = 4 * ps.length
  | [] => rfl
  | x :: l => by rw [List.flatMap_cons, List.length_append, flat_be_len l, be4_len, List.length_cons]; omega
theorem flat_be_bytes : ∀ {ps : List Int}, u32L ps → bytesL (ps.flatMap (beB 4))
  | [], _ => by intro x hx; simp at hx
  | x :: l, h => by
    rw [List.flatMap_cons]
    have := h x (by simp)
    exact bytes_app (be4_bytes this.1 this.2) (flat_be_bytes (fun y hy => h y (by simp [hy])))
theorem un_app : ∀ (ps : List Int) (r : List Int), u32L ps → unF (ps.flatMap (beB 4) ++ r) ps.length = ps
  | [], r, _ => rfl
  | x :: l, r, h => by
    have hx := h x (by simp)
    rw [List.flatMap_cons, List.append_assoc, List.length_cons]
    show beV ((beB 4 x ++ (l.flatMap (beB 4) ++ r)).take 4) :: unF ((beB 4 x ++ (l.flatMap (beB 4) ++ r)).drop 4) l.length = _
    rw [List.take_left' (be4_len x), List.drop_left' (be4_len x), be4_back hx.1 hx.2, un_app l r (fun y hy => h y (by simp [hy]))]
theorem lbH_len {ps : List Int} (h : ps.length = 16) : (lbH ps).length = 510 := by
  simp only [lbH, List.length_append, flat_be_len, List.length_replicate, List.length_cons, List.length_nil]
  omega
theorem lbF_len {ps : List Int} (h : ps.length = 16) : (lbF ps).length = 512 := by
  simp only [lbF, List.length_append, lbH_len h, List.length_cons, List.length_nil]
theorem lbH_bytes {ps : List Int} (h : u32L ps) : bytesL (lbH ps) := by
  unfold lbH
  refine bytes_app (bytes_app (flat_be_bytes h) ?_) ?_
  · intro x hx
    simp only [List.mem_replicate] at hx
    omega
  · intro x hx
    simp only [List.mem_cons, List.not_mem_nil, or_false] at hx
    omega
theorem lbF_bytes {ps : List Int} (hl : ps.length = 16) (h : u32L ps) : bytesL (lbF ps) := by
  unfold lbF
  have hx := xev_byte 255 (lbH ps) (0, 0) (lbH_len hl) (lbH_bytes h) ⟨by decide, by decide⟩ ⟨by decide, by decide⟩
  refine bytes_app (lbH_bytes h) ?_
  intro x hm
  simp only [List.mem_cons, List.not_mem_nil, or_false] at hm
  omega
theorem lbF_xor {ps : List Int} (hl : ps.length = 16) : xevF (lbF ps) (0, 0) = (0, 0) := by
  unfold lbF
  rw [xev_app 255 _ _ _ _ (lbH_len hl), xorI_self, xorI_self]
theorem lbF_un {ps : List Int} (hl : ps.length = 16) (h : u32L ps) : unF (lbF ps) 16 = ps := by
  unfold lbF lbH
  rw [List.append_assoc, List.append_assoc, ← hl]
  exact un_app ps _ h
theorem un_len : ∀ (n : Nat) (b : List Int), (unF b n).length = n
  | 0, _ => rfl
  | n + 1, b => by show (unF (b.drop 4) n).length + 1 = _; rw [un_len n]
theorem be4_bd {b : List Int} (hb : bytesL b) (h : b.length = 4) : 0 ≤ beV b ∧ beV b < 4294967296 := by
  match b, h, hb with
  | [x0, x1, x2, x3], _, hb =>
    have y0 := hb x0 (by simp)
    have y1 := hb x1 (by simp)
    have y2 := hb x2 (by simp)
    have y3 := hb x3 (by simp)
    simp [beV]
    omega
theorem un_u32 : ∀ (n : Nat) (b : List Int), bytesL b → 4 * n ≤ b.length → u32L (unF b n)
  | 0, _, _, _ => by intro x hx; simp [unF] at hx
  | n + 1, b, hb, hl => by
    intro x hx
    simp only [unF, List.mem_cons] at hx
    rcases hx with rfl | hx
    · exact be4_bd (bytes_take hb _) (by rw [List.length_take]; omega)
    · exact un_u32 n (b.drop 4) (bytes_drop hb _) (by rw [List.length_drop]; omega) x hx
/-- what was made is parsed again -/
theorem ps_back {ps : List Int} (hl : ps.length = 16) (h : u32L ps) : psF (lbF ps) = (ps, 0) := by
  unfold psF
  rw [lbF_un hl h, if_pos ⟨lbF_len hl, rfl⟩]
/-- and with one byte that is another one it is none -/
theorem ps_tells {ps : List Int} (hl : ps.length = 16) (h : u32L ps) (i : Nat) (y : Int) (hi : i < 512) (y0 : 0 ≤ y) (y1 : y < 256) (hy : ¬ y = (lbF ps).getD i 0) : psF ((lbF ps).set i y) = (List.replicate 16 0, 24) := by
  unfold psF
  rw [if_neg]
  rintro ⟨_, e⟩
  have h1 := lbF_xor (ps := unF ((lbF ps).set i y) 16) (un_len _ _)
  rw [e] at h1
  exact xev_set 256 (lbF ps) (0, 0) i y (lbF_len hl) (lbF_bytes hl h) ⟨by decide, by decide⟩ ⟨by decide, by decide⟩ (by rw [lbF_len hl]; omega) y0 y1 hy (h1.trans (lbF_xor hl).symm)

/-- an argument -/
def slF : List Int → Int × List Int × Int
  | [] => (-1, [], 0)
  | c :: l => if c < 97 ∨ 104 < c ∨ (0 < l.length ∧ ¬ l.getD 0 0 = 44) then (0, [], 15) else (c - 97, l.drop 1, 0)
def wnF (d a : List Int) : Int × Int × Int :=
  if dkB d = true then
    if (slF a).2.2 = 0 then
      if (slF a).1 < 0 then (0, (d.length : Int), 0)
      else if d.length = 0 then (0, 0, 24)
      else if (psF (d.take 512)).2 = 0 then
        if (psF (d.take 512)).1.getD (2 * (slF a).1 + 1).toNat 0 = 0 ∨ (d.length : Int) / 512 < (psF (d.take 512)).1.getD (2 * (slF a).1).toNat 0 + (psF (d.take 512)).1.getD (2 * (slF a).1 + 1).toNat 0 then (0, 0, 24)
        else (512 * (psF (d.take 512)).1.getD (2 * (slF a).1).toNat 0, 512 * (psF (d.take 512)).1.getD (2 * (slF a).1 + 1).toNat 0, 0)
      else (0, 0, (psF (d.take 512)).2)
    else (0, 0, (slF a).2.2)
  else (0, 0, 1)
def insF (d a : List Int) (at_ n : Int) : Int × Int :=
  if (wnF d a).2.2 = 0 then if at_ < 0 ∨ n < 0 ∨ (wnF d a).2.1 < at_ ∨ (wnF d a).2.1 - at_ < n then (0, 23) else ((wnF d a).1 + at_, 0) else (0, (wnF d a).2.2)
def lgF (d a : List Int) (at_ n : Int) : List Int × Int := if (insF d a at_ n).2 = 0 then dkGt d (insF d a at_ n).1 n else ([], (insF d a at_ n).2)
def lpF (d a : List Int) (at_ : Int) (b : List Int) : List Int × Int := if (insF d a at_ b.length).2 = 0 then dkPt d (insF d a at_ b.length).1 b else ([], (insF d a at_ b.length).2)
theorem byt_get {l : List Int} (h : bytesL l) (i : Nat) : 0 ≤ l.getD i 0 ∧ l.getD i 0 < 256 := by
  by_cases hi : i < l.length
  · rw [List.getD_eq_getElem?_getD, List.getElem?_eq_getElem hi]
    exact h _ (List.getElem_mem hi)
  · rw [List.getD_eq_getElem?_getD, List.getElem?_eq_none (by omega)]
    simp
theorem sl_eq (a : List Int) (h : 0 < a.length) : slF a = if a.getD 0 0 < 97 ∨ 104 < a.getD 0 0 ∨ (1 < a.length ∧ ¬ a.getD 1 0 = 44) then (0, [], 15) else (a.getD 0 0 - 97, a.drop 2, 0) := by
  match a, h with
  | c :: l, _ =>
    have e : (0 < l.length) = (1 < (c :: l).length) := by apply propext; simp
    show (if c < 97 ∨ 104 < c ∨ (0 < l.length ∧ ¬ l.getD 0 0 = 44) then (0, [], 15) else (c - 97, l.drop 1, 0)) = _
    simp only [e]
    rfl
theorem sl_rg (a : List Int) : -1 ≤ (slF a).1 ∧ (slF a).1 ≤ 7 ∧ ((slF a).2.2 = 0 ∨ (slF a).2.2 = 15) := by
  unfold slF
  split
  · simp
  · split <;> simp <;> omega
theorem ps_rg (b : List Int) : ((psF b).2 = 0 ∨ (psF b).2 = 24) ∧ (psF b).1.length = 16 := by
  unfold psF
  split
  · exact ⟨Or.inl rfl, un_len _ _⟩
  · exact ⟨Or.inr rfl, by simp⟩
theorem ps_u32 {b : List Int} (hb : bytesL b) : u32L (psF b).1 := by
  unfold psF
  split
  · rename_i h
    exact un_u32 16 b hb (by omega)
  · intro x hx
    simp only [List.mem_replicate] at hx
    omega
theorem u32_get {ps : List Int} (h : u32L ps) (i : Nat) : 0 ≤ ps.getD i 0 ∧ ps.getD i 0 < 4294967296 := by
  by_cases hi : i < ps.length
  · rw [List.getD_eq_getElem?_getD, List.getElem?_eq_getElem hi]
    exact h _ (List.getElem_mem hi)
  · rw [List.getD_eq_getElem?_getD, List.getElem?_eq_none (by omega)]
    simp
theorem wn_ok {d a : List Int} (hb : bytesL d) (h : (wnF d a).2.2 = 0) : dkB d = true ∧ 0 ≤ (wnF d a).1 ∧ 0 ≤ (wnF d a).2.1 ∧ (wnF d a).1 + (wnF d a).2.1 ≤ d.length := by
  have hu := ps_u32 (bytes_take hb 512)
  have u0 := u32_get hu (2 * (slF a).1).toNat
  have u1 := u32_get hu (2 * (slF a).1 + 1).toNat
  unfold wnF at h ⊢
  by_cases h1 : dkB d = true
  · rw [if_pos h1] at h ⊢
    by_cases h2 : (slF a).2.2 = 0
    · rw [if_pos h2] at h ⊢
      by_cases h3 : (slF a).1 < 0
      · rw [if_pos h3]
        exact ⟨h1, by simp, by simp, by simp⟩
      · rw [if_neg h3] at h ⊢
        by_cases h4 : d.length = 0
        · rw [if_pos h4] at h
          simp at h
        · rw [if_neg h4] at h ⊢
          by_cases h5 : (psF (d.take 512)).2 = 0
          · rw [if_pos h5] at h ⊢
            by_cases h6 : (psF (d.take 512)).1.getD (2 * (slF a).1 + 1).toNat 0 = 0 ∨ (d.length : Int) / 512 < (psF (d.take 512)).1.getD (2 * (slF a).1).toNat 0 + (psF (d.take 512)).1.getD (2 * (slF a).1 + 1).toNat 0
            · rw [if_pos h6] at h
              simp at h
            · rw [if_neg h6]
              refine ⟨h1, ?_, ?_, ?_⟩ <;> dsimp only <;> omega
          · rw [if_neg h5] at h
            exact absurd h h5
    · rw [if_neg h2] at h
      exact absurd h h2
  · rw [if_neg h1] at h
    simp at h

/-
  What is put into a window stands there and changes no other byte; windows that do not touch. No Go text in sight.
-/
theorem dk_same {d x : List Int} (hl : x.length = d.length) : dkB x = dkB d := by unfold dkB; rw [hl]
theorem wn_same {d x a : List Int} (hl : x.length = d.length) (ht : x.take 512 = d.take 512) : wnF x a = wnF d a := by
  unfold wnF
  rw [dk_same hl, ht, hl]
theorem ins_same {d x a : List Int} {at_ n : Int} (hl : x.length = d.length) (ht : x.take 512 = d.take 512) : insF x a at_ n = insF d a at_ n := by
  unfold insF
  rw [wn_same hl ht]
theorem ins_in {d a : List Int} {at_ n : Int} (h : (insF d a at_ n).2 = 0) : (wnF d a).2.2 = 0 ∧ 0 ≤ at_ ∧ 0 ≤ n ∧ at_ + n ≤ (wnF d a).2.1 ∧ (insF d a at_ n).1 = (wnF d a).1 + at_ := by
  unfold insF at h ⊢
  by_cases h1 : (wnF d a).2.2 = 0
  · rw [if_pos h1] at h ⊢
    by_cases h2 : at_ < 0 ∨ n < 0 ∨ (wnF d a).2.1 < at_ ∨ (wnF d a).2.1 - at_ < n
    · rw [if_pos h2] at h
      simp at h
    · rw [if_neg h2]
      exact ⟨h1, by omega, by omega, by omega, rfl⟩
  · rw [if_neg h1] at h
    exact absurd h h1
/-- what was put, or nothing -/
theorem lp_put {d a b : List Int} {at_ : Int} (hb : bytesL d) (h : (lpF d a at_ b).2 = 0) : (wnF d a).2.2 = 0 ∧ 0 ≤ at_ ∧ at_ + b.length ≤ (wnF d a).2.1 ∧ (lpF d a at_ b).1 = d.take ((wnF d a).1 + at_).toNat ++ b ++ d.drop (((wnF d a).1 + at_).toNat + b.length) := by
  unfold lpF at h ⊢
  by_cases h1 : (insF d a at_ b.length).2 = 0
  · obtain ⟨k1, k2, k3, k4, k5⟩ := ins_in h1
    obtain ⟨m1, m2, m3, m4⟩ := wn_ok hb k1
    rw [if_pos h1, k5]
    refine ⟨k1, k2, k4, ?_⟩
    unfold dkPt
    rw [if_pos m1, if_pos (by unfold dkI; rw [decide_eq_true_iff]; omega)]
  · rw [if_neg h1] at h
    exact absurd h h1
theorem lp_none {d a b : List Int} {at_ : Int} (hb : bytesL d) (h : ¬ (lpF d a at_ b).2 = 0) : (lpF d a at_ b).1 = [] := by
  unfold lpF at h ⊢
  by_cases h1 : (insF d a at_ b.length).2 = 0
  · rw [if_pos h1] at h ⊢
    unfold dkPt at h ⊢
    split
    · split
      · rename_i h2 h3
        rw [if_pos h2, if_pos h3] at h
        simp at h
      · rfl
    · rfl
  · rw [if_neg h1]
theorem lp_err {d a b : List Int} {at_ : Int} (h : ¬ (wnF d a).2.2 = 0) : ¬ (lpF d a at_ b).2 = 0 := by
  have hi : insF d a at_ b.length = (0, (wnF d a).2.2) := by unfold insF; rw [if_neg h]
  unfold lpF
  rw [hi, if_neg h]
  exact h
theorem put_len (d b : List Int) (k : Nat) (h : k + b.length ≤ d.length) : (d.take k ++ b ++ d.drop (k + b.length)).length = d.length := by
  simp only [List.length_append, List.length_take, List.length_drop]
  omega
theorem put_head (d b : List Int) (k : Nat) (h : k + b.length ≤ d.length) (hk : 512 ≤ k) : (d.take k ++ b ++ d.drop (k + b.length)).take 512 = d.take 512 := by
  rw [List.append_assoc, List.take_append_of_le_length (by rw [List.length_take]; omega), List.take_take, Nat.min_eq_left hk]
/-- a stretch that does not touch what was put -/
theorem put_apart (d b : List Int) (k p n : Nat) (h : k + b.length ≤ d.length) (hp : p + n ≤ d.length) (ha : p + n ≤ k ∨ k + b.length ≤ p) : ((d.take k ++ b ++ d.drop (k + b.length)).drop p).take n = (d.drop p).take n := by
  have hl := put_len d b k h
  apply ext_getDD
  · simp only [List.length_take, List.length_drop, hl]
  · intro i hi
    simp only [List.length_take, List.length_drop, hl] at hi
    have hin : i < n := by omega
    rw [getD_takeD _ n i, getD_takeD _ n i, if_pos hin, if_pos hin, getD_dropD, getD_dropD, put_at d b k _ h, if_neg (by omega)]
theorem lg_apart {d a c b : List Int} {at_ au n : Int} (hb : bytesL d) (h : (lpF d a at_ b).2 = 0) (hw : (wnF d c).2.2 = 0) (h512 : ¬ (wnF d a).1 < 512) (hd : ¬ ((wnF d c).1 < (wnF d a).1 + (wnF d a).2.1 ∧ (wnF d a).1 < (wnF d c).1 + (wnF d c).2.1)) :
    lgF (lpF d a at_ b).1 c au n = lgF d c au n := by
  obtain ⟨k1, k2, k3, k4⟩ := lp_put hb h
  obtain ⟨m1, m2, m3, m4⟩ := wn_ok hb k1
  obtain ⟨p1, p2, p3, p4⟩ := wn_ok hb hw
  have hfit : ((wnF d a).1 + at_).toNat + b.length ≤ d.length := by omega
  have hl := put_len d b _ hfit
  have ht := put_head d b _ hfit (by omega)
  rw [k4]
  unfold lgF
  rw [ins_same hl ht]
  by_cases h1 : (insF d c au n).2 = 0
  · obtain ⟨q1, q2, q3, q4, q5⟩ := ins_in h1
    rw [if_pos h1, if_pos h1, q5]
    unfold dkGt
    rw [dk_same hl, hl]
    by_cases hI : dkI d.length ((wnF d c).1 + au) n = true
    · rw [if_pos hI, if_pos hI, put_apart d b _ _ _ hfit (by omega) (by omega)]
    · rw [if_neg hI, if_neg hI]
  · rw [if_neg h1, if_neg h1]

/-
  A disk of a label, two windows side by side and a sector behind them: what is got, put and read is these lists. No Go text in sight.
-/
def wwP : List Int := [1, 2, 3, 1, 0, 0, 0, 0, 0, 0, 0, 0, 0, 0, 0, 0]
def wwL : List Int := lbF wwP
def wwD (F S : List Int) : List Int := wwL ++ F ++ S ++ List.replicate 512 0
theorem ww_mk : mkF wwP = (wwL, 0) := by kernel_rfl
theorem ww_len : wwL.length = 512 := by kernel_rfl
theorem ww_ps : psF wwL = (wwP, 0) := by kernel_rfl
theorem ww_u32 : u32L wwP := by
  intro x hx
  simp only [wwP, List.mem_cons, List.not_mem_nil, or_false] at hx
  omega
theorem ww_bytes {F S : List Int} (hF : bytesL F) (hS : bytesL S) : bytesL (wwD F S) := bytes_app (bytes_app (bytes_app (lbF_bytes rfl ww_u32) hF) hS) (by
  intro x hx
  simp only [List.mem_replicate] at hx
  omega)
theorem ww_dlen {F S : List Int} (hF : F.length = 1024) (hS : S.length = 512) : (wwD F S).length = 2560 := by
  unfold wwD
  rw [List.length_append, List.length_append, List.length_append, ww_len, List.length_replicate, hF, hS]
theorem ww_first : wwL ++ List.replicate 2048 0 = wwD (List.replicate 1024 0) (List.replicate 512 0) := by
  unfold wwD
  rw [List.append_assoc, List.append_assoc, List.replicate_append_replicate, List.replicate_append_replicate]
theorem ww_head (F S : List Int) : (wwD F S).take 512 = wwL := by
  unfold wwD
  rw [List.append_assoc, List.append_assoc]
  exact List.take_left' ww_len
theorem ww_dk {F S : List Int} (hF : F.length = 1024) (hS : S.length = 512) : dkB (wwD F S) = true := by
  unfold dkB
  rw [ww_dlen hF hS]
  decide
theorem ww_a {F S : List Int} (hF : F.length = 1024) (hS : S.length = 512) : wnF (wwD F S) [97] = (512, 1024, 0) := by
  unfold wnF
  rw [if_pos (ww_dk hF hS), ww_head, ww_ps, ww_dlen hF hS]
  decide
theorem ww_b {F S : List Int} (hF : F.length = 1024) (hS : S.length = 512) : wnF (wwD F S) [98] = (1536, 512, 0) := by
  unfold wnF
  rw [if_pos (ww_dk hF hS), ww_head, ww_ps, ww_dlen hF hS]
  decide
def putW (F b : List Int) (a : Int) : List Int := F.take a.toNat ++ b ++ F.drop (a.toNat + b.length)
theorem putW_len {F b : List Int} {a : Int} (h0 : 0 ≤ a) (h : a + b.length ≤ F.length) : (putW F b a).length = F.length := by
  unfold putW
  simp only [List.length_append, List.length_take, List.length_drop]
  omega
theorem putW_bytes {F b : List Int} {a : Int} (hF : bytesL F) (hb : bytesL b) : bytesL (putW F b a) := bytes_app (bytes_app (bytes_take hF _) hb) (bytes_drop hF _)
/-- a splice within the middle one of three -/
theorem splice_mid (A F R b : List Int) (k : Nat) (h : k + b.length ≤ F.length) : (A ++ F ++ R).take (A.length + k) ++ b ++ (A ++ F ++ R).drop (A.length + k + b.length) = A ++ (F.take k ++ b ++ F.drop (k + b.length)) ++ R := by
  have e1 : (A ++ F ++ R).take (A.length + k) = A ++ F.take k := by
    rw [List.append_assoc, List.take_append, List.take_of_length_le (by omega), Nat.add_sub_cancel_left, List.take_append_of_le_length (by omega)]
  have e2 : (A ++ F ++ R).drop (A.length + k + b.length) = F.drop (k + b.length) ++ R := by
    rw [List.append_assoc, Nat.add_assoc, ← List.drop_drop, List.drop_left' rfl, List.drop_append_of_le_length h]
  rw [e1, e2]
  simp only [List.append_assoc]
theorem ww_ins {F S a : List Int} {B M at_ n : Int} (hw : wnF (wwD F S) a = (B, M, 0)) : insF (wwD F S) a at_ n = if at_ < 0 ∨ n < 0 ∨ M < at_ ∨ M - at_ < n then (0, 23) else (B + at_, 0) := by
  unfold insF
  rw [hw, if_pos rfl]
theorem ww_insno {F S a : List Int} {B M at_ n : Int} (hw : wnF (wwD F S) a = (B, M, 0)) (h : at_ < 0 ∨ n < 0 ∨ M < at_ ∨ M - at_ < n) : insF (wwD F S) a at_ n = (0, 23) := by rw [ww_ins hw, if_pos h]
theorem ww_insok {F S a : List Int} {B M at_ n : Int} (hw : wnF (wwD F S) a = (B, M, 0)) (h : ¬ (at_ < 0 ∨ n < 0 ∨ M < at_ ∨ M - at_ < n)) : insF (wwD F S) a at_ n = (B + at_, 0) := by rw [ww_ins hw, if_neg h]
theorem ww_no {F S a b : List Int} {B M at_ : Int} (hw : wnF (wwD F S) a = (B, M, 0)) (h : at_ < 0 ∨ M < at_ ∨ M - at_ < b.length) : lpF (wwD F S) a at_ b = ([], 23) := by
  unfold lpF
  rw [ww_insno hw (by omega), if_neg (by simp)]
theorem ww_put {F S a b : List Int} {B M at_ : Int} (hF : F.length = 1024) (hS : S.length = 512) (hw : wnF (wwD F S) a = (B, M, 0)) (hB : 0 ≤ B) (hM : B + M ≤ 2560) (h : ¬ (at_ < 0 ∨ M < at_ ∨ M - at_ < b.length)) :
    lpF (wwD F S) a at_ b = ((wwD F S).take (B + at_).toNat ++ b ++ (wwD F S).drop ((B + at_).toNat + b.length), 0) := by
  unfold lpF
  rw [ww_insok hw (by omega), if_pos rfl]
  unfold dkPt
  rw [if_pos (ww_dk hF hS), ww_dlen hF hS, if_pos (by unfold dkI; rw [decide_eq_true_iff]; omega)]
theorem ww_puta {F S b : List Int} {at_ : Int} (hF : F.length = 1024) (hS : S.length = 512) (h : ¬ (at_ < 0 ∨ 1024 < at_ ∨ 1024 - at_ < b.length)) : lpF (wwD F S) [97] at_ b = (wwD (putW F b at_) S, 0) := by
  rw [ww_put hF hS (ww_a hF hS) (by omega) (by omega) h]
  congr 1
  have := splice_mid wwL F (S ++ List.replicate 512 0) b at_.toNat (by omega)
  rw [ww_len] at this
  unfold wwD putW
  rw [show (512 + at_).toNat = 512 + at_.toNat by omega]
  simp only [List.append_assoc] at this ⊢
  exact this
theorem ww_putb {F S b : List Int} {at_ : Int} (hF : F.length = 1024) (hS : S.length = 512) (h : ¬ (at_ < 0 ∨ 512 < at_ ∨ 512 - at_ < b.length)) : lpF (wwD F S) [98] at_ b = (wwD F (putW S b at_), 0) := by
  rw [ww_put hF hS (ww_b hF hS) (by omega) (by omega) h]
  congr 1
  have := splice_mid (wwL ++ F) S (List.replicate 512 0) b at_.toNat (by omega)
  rw [List.length_append, ww_len, hF] at this
  unfold wwD putW
  rw [show (1536 + at_).toNat = 512 + 1024 + at_.toNat by omega]
  exact this
theorem cut_mid (A F R : List Int) (k n : Nat) (h : k + n ≤ F.length) : ((A ++ F ++ R).drop (A.length + k)).take n = (F.drop k).take n := by
  rw [List.append_assoc, ← List.drop_drop, List.drop_left' rfl, List.drop_append_of_le_length (by omega), List.take_append_of_le_length (by rw [List.length_drop]; omega)]
theorem ww_geta {F S : List Int} (hF : F.length = 1024) (hS : S.length = 512) : lgF (wwD F S) [97] 0 1024 = (F, 0) := by
  unfold lgF
  rw [ww_insok (ww_a hF hS) (by omega), if_pos rfl]
  unfold dkGt
  rw [if_pos (ww_dk hF hS), ww_dlen hF hS, if_pos (by decide)]
  have := cut_mid wwL F (S ++ List.replicate 512 0) 0 1024 (by omega)
  rw [ww_len, List.drop_zero, List.take_of_length_le (l := F) (by omega)] at this
  show (((wwD F S).drop ((512 : Int) + 0).toNat).take (1024 : Int).toNat, (0 : Int)) = (F, 0)
  rw [show ((512 : Int) + 0).toNat = 512 + 0 by omega, show (1024 : Int).toNat = 1024 by omega]
  unfold wwD
  rw [List.append_assoc (wwL ++ F), this]
theorem ww_getb {F S : List Int} (hF : F.length = 1024) (hS : S.length = 512) : lgF (wwD F S) [98] 0 512 = (S, 0) := by
  unfold lgF
  rw [ww_insok (ww_b hF hS) (by omega), if_pos rfl]
  unfold dkGt
  rw [if_pos (ww_dk hF hS), ww_dlen hF hS, if_pos (by decide)]
  have := cut_mid (wwL ++ F) S (List.replicate 512 0) 0 512 (by omega)
  rw [List.length_append, ww_len, hF, List.drop_zero, List.take_of_length_le (l := S) (by omega)] at this
  show (((wwD F S).drop ((1536 : Int) + 0).toNat).take (512 : Int).toNat, (0 : Int)) = (S, 0)
  rw [show ((1536 : Int) + 0).toNat = 512 + 1024 + 0 by omega, show (512 : Int).toNat = 512 by omega]
  unfold wwD
  rw [this]
/-- sector k, from 1 on -/
theorem ww_rd {F S : List Int} (hF : F.length = 1024) (hS : S.length = 512) (k : Nat) (h1 : 1 ≤ k) (h4 : k < 5) :
    dkRd (wwD F S) k = (if k < 4 then ((F ++ S).drop (512 * (k - 1))).take 512 else List.replicate 512 0, 0) := by
  unfold dkRd
  rw [if_pos (ww_dk hF hS)]
  unfold dkN
  rw [ww_dlen hF hS, if_pos (by rw [decide_eq_true_iff]; omega)]
  congr 1
  unfold wwD
  rw [List.append_assoc wwL F S]
  by_cases hk : k < 4
  · rw [if_pos hk]
    have := cut_mid wwL (F ++ S) (List.replicate 512 0) (512 * (k - 1)) 512 (by rw [List.length_append]; omega)
    rw [ww_len] at this
    rw [show (512 * (k : Int)).toNat = 512 + 512 * (k - 1) by omega]
    exact this
  · have hk4 : k = 4 := by omega
    subst hk4
    rw [if_neg hk, show (512 * ((4 : Nat) : Int)).toNat = 2048 by omega, List.drop_left' (by rw [List.length_append, List.length_append, ww_len]; omega), List.take_of_length_le (by rw [List.length_replicate]; omega)]

/-
  Slices of anything that is read: the rows of cells that a slice value has in a world, and what they read as. No Go text in sight.
-/
/-- the slice value v has these rows, of sz cells each -/
def SlC (sz : Nat) (w : World) (v : Value) (rows : List (List Value)) : Prop :=
  (∃ ao cap, v = .slice ao 0 cap ∧ (ao = none → cap = 0) ∧ rows = []) ∨
  ∃ b off cap, v = .slice (some ⟨b, off, none⟩) rows.length cap ∧ 0 < rows.length ∧ rows.length ≤ cap ∧ cap ≤ maxLen ∧
    ∀ i, i < rows.length → (rows.getD i []).length = sz ∧ ∀ j, j < sz → w.cell? ⟨b, off + i * sz + j, none⟩ = (rows.getD i [])[j]?
theorem SlC.below {sz : Nat} {w w' : World} {v : Value} {rows : List (List Value)} (h : SlC sz w v rows) (g : Below w.heap.size w w') : SlC sz w' v rows := by
  rcases h with h | ⟨b, off, cap, rfl, h0, h1, h2, hc⟩
  · exact Or.inl h
  · refine Or.inr ⟨b, off, cap, rfl, h0, h1, h2, fun i hi => ⟨(hc i hi).1, fun j hj => ?_⟩⟩
    have hl := (hc i hi).1
    have e := (hc i hi).2 j hj
    rw [List.getElem?_eq_getElem (by omega)] at e ⊢
    exact below_cell g e
theorem SlC.form {sz : Nat} {w : World} {v : Value} {rows : List (List Value)} (h : SlC sz w v rows) : ∃ ao cap, v = .slice ao rows.length cap ∧ rows.length ≤ cap ∧ (ao = none → cap = 0) ∧
    (0 < rows.length → cap ≤ maxLen ∧ ∃ b off, ao = some ⟨b, off, none⟩ ∧ ∀ i, i < rows.length → (rows.getD i []).length = sz ∧ ∀ j, j < sz → w.cell? ⟨b, off + i * sz + j, none⟩ = (rows.getD i [])[j]?) := by
  rcases h with ⟨ao, cap, rfl, h1, rfl⟩ | ⟨b, off, cap, rfl, h0, h1, h2, hc⟩
  · exact ⟨ao, cap, rfl, Nat.zero_le _, h1, fun h => by simp at h⟩
  · exact ⟨_, cap, rfl, h1, (fun h => by cases h), fun _ => ⟨h2, b, off, rfl, hc⟩⟩
/-- the slice value v reads as the list xs, each of its rows as R says -/
def SlR {α : Type} (sz : Nat) (R : World → List Value → α → Prop) (w : World) (v : Value) (xs : List α) : Prop :=
  ∃ rows, SlC sz w v rows ∧ rows.length = xs.length ∧ ∀ i (h : i < xs.length), R w (rows.getD i []) xs[i]
theorem SlR.below {α : Type} {sz : Nat} {R : World → List Value → α → Prop} {w w' : World} {v : Value} {xs : List α} (h : SlR sz R w v xs) (g : Below w.heap.size w w') (hR : ∀ cs x, R w cs x → R w' cs x) : SlR sz R w' v xs := by
  obtain ⟨rows, h1, h2, h3⟩ := h
  exact ⟨rows, h1.below g, h2, fun i hi => hR _ _ (h3 i hi)⟩
theorem SlR.nil {α : Type} {sz : Nat} {R : World → List Value → α → Prop} {w : World} : SlR sz R w (.slice none 0 0) ([] : List α) :=
  ⟨[], Or.inl ⟨none, 0, rfl, fun _ => rfl, rfl⟩, rfl, fun i h => by simp at h⟩
theorem slr_len {α : Type} {P : Program} {sz : Nat} {R : World → List Value → α → Prop} {w : World} {v : Value} {xs : List α} (h : SlR sz R w v xs) {t e : TypeId} (ht : P.underlying t = some (.slice e)) (ty : TypeId) (w' : World) :
    (Builtin.len_ #[t] ty #[v]).run P w' = .ok (.int .i64 xs.length) w' := by
  obtain ⟨rows, h1, h2, h3⟩ := h
  obtain ⟨ao, cap, rfl, _⟩ := h1.form
  simp [Builtin.len_, run_underlying ht, goInt, h2]
theorem slr_max {α : Type} {sz : Nat} {R : World → List Value → α → Prop} {w : World} {v : Value} {xs : List α} (h : SlR sz R w v xs) : xs.length ≤ maxLen := by
  obtain ⟨rows, h1, h2, h3⟩ := h
  rcases h1 with ⟨ao, cap, rfl, _, rfl⟩ | ⟨b, off, cap, rfl, h0, h1, h2', hc⟩
  · simp at h2; omega
  · omega
/-- an element of one cell: its address' rule, its cell, what it reads as -/
theorem slr_idx {α : Type} {P : Program} {R : World → List Value → α → Prop} {w : World} {v : Value} {xs : List α} (h : SlR 1 R w v xs) {t : TypeId} (ht : P.underlying t = some (.slice (P.elem t))) (hs : ∀ w, (sizeOf (P.elem t)).run P w = .ok 1 w) (i : Int) (h0 : 0 ≤ i) (h1 : i < xs.length) :
    ∃ (a : Addr) (c : Value), (∀ w', (Instr.indexAt t v (.int .i64 i)).run P w' = .ok (.pointer (some a)) w') ∧ w.cell? a = some c ∧ R w [c] (xs[i.toNat]'(by omega)) := by
  obtain ⟨rows, g1, g2, g3⟩ := h
  obtain ⟨ao, cap, rfl, hc, hn, hx⟩ := g1.form
  obtain ⟨hm, b, off, rfl, hcell⟩ := hx (by omega)
  have hi : i.toNat < rows.length := by omega
  obtain ⟨l1, l2⟩ := hcell i.toNat hi
  have e := l2 0 (by omega)
  have hr := g3 i.toNat (by omega)
  match hrow : rows.getD i.toNat [], l1 with
  | [c], _ =>
    rw [hrow] at e hr
    refine ⟨⟨b, off + i.toNat, none⟩, c, fun w' => ?_, by simpa using e, hr⟩
    rw [run_indexAt_slice (h := ht), if_pos ⟨h0, by omega⟩, hs]
    simp only [Result.andThen, Nat.mul_one]
    congr 3
    unfold Addr.add
    split
    · rename_i hz; rw [hz]; rfl
    · rfl
/-- what the call has built, one cell an element -/
theorem slr_own {α : Type} {R : World → List Value → α → Prop} {w : World} {base : Nat} {e : TypeId} {v : Value} {n : Nat} {cs : List Value} {xs : List α} (h : w.ownsRow base e 1 v n cs) (hl : cs.length = xs.length) (hR : ∀ i (h : i < xs.length), R w [cs[i]'(by omega)] xs[i]) : SlR 1 R w v xs := by
  obtain ⟨hl2, h⟩ := h
  have hn : n = cs.length := by omega
  refine ⟨cs.map (fun c => [c]), ?_, by simp [hl], fun i hi => by simpa [List.getD_eq_getElem?_getD, List.getElem?_eq_getElem (show i < cs.length by omega)] using hR i hi⟩
  rcases h with ⟨rfl, h0⟩ | ⟨g, cap, cur, rfl, hb, hg, hc, hm, hs, ht⟩
  · have : cs = [] := List.eq_nil_of_length_eq_zero (by omega)
    subst this
    exact Or.inl ⟨none, 0, rfl, fun _ => rfl, rfl⟩
  · rcases Nat.eq_zero_or_pos cs.length with h0 | h0
    · have : cs = [] := List.eq_nil_of_length_eq_zero h0
      subst this
      exact Or.inl ⟨_, _, by rw [hn]; rfl, (fun h => by cases h), rfl⟩
    · refine Or.inr ⟨g, 0, cap, by simp [hn], by simpa using h0, by simp; omega, hm, fun i hi => ?_⟩
      have hi2 : i < cs.length := by simpa using hi
      have e1 : (cs.map (fun c => [c])).getD i [] = [cs[i]] := by simp [List.getD_eq_getElem?_getD, List.getElem?_eq_getElem hi2]
      rw [e1]
      refine ⟨rfl, fun j hj => ?_⟩
      obtain rfl : j = 0 := by omega
      have e2 : (cur.toList.take (n * 1))[i]? = some cs[i] := by rw [ht, List.getElem?_eq_getElem hi2]
      rw [List.getElem?_take] at e2
      split at e2
      · simp [World.cell?, hg]
        simpa using e2
      · cases e2

/-- a slice value's length, for measures -/
def lenOf : Value → Nat | .slice _ n _ => n | _ => 0
theorem rd_lenOf {k : IntKind} {w : World} {v : Value} {xs : List Int} (h : Rd k w v xs) : lenOf v = xs.length := by
  obtain ⟨ao, cap, rfl, _⟩ := rd_form h
  rfl

/-- a slice that came in: its rows, each of which reads as something of the element's type -/
theorem slc_open {H : Type} {enc : TypeId × Value → H} {P : Program} {W : World} {t e : TypeId} {a : Option Addr} {len cap : Nat} {d : DataW H} {ps : List MemPlace} {sz fuel : Nat}
    (ht : P.underlying t = some (.slice e)) (hc : P.cellsOf e = sz) (hsz : 0 < sz) (h : DataW.trod enc P W 0 (fun _ => true) true fuel t [.slice a len cap] = some (d, ps)) :
    ∃ rows : List (List Value), SlC sz W (.slice a len cap) rows ∧ rows.length = len ∧ (d = .nil ∧ rows = [] ∨ ∃ ds zs, d = .slice ds zs ∧ ds.length = rows.length ∧
      ∀ i, i < rows.length → ∃ n y, DataW.trod enc P W 0 (fun _ => true) true n e (rows.getD i []) = some y ∧ ds[i]? = some y.1) := by
  rcases DataW.trod_slice ht h with ⟨h0, hx⟩ | ⟨x, l, c, elems, rest, n, _, hcs, hx, hb, hl, hm, hlen, hel, hsp, hns⟩
  · simp at h0 hx
    obtain ⟨rfl, rfl, rfl⟩ := h0
    exact ⟨[], Or.inl ⟨none, 0, rfl, fun _ => rfl, rfl⟩, rfl, Or.inl ⟨hx.1, rfl⟩⟩
  · simp at hcs
    obtain ⟨rfl, rfl, rfl⟩ := hcs
    rw [hc] at hel
    have each : ∀ i, i < len → ∃ cs y, W.cells? 0 (x.add (i * sz)) sz = some cs ∧ DataW.trod enc P W 0 (fun _ => true) true n e cs = some y ∧ elems[i]? = some y := by
      intro i hi
      have e1 := hel i hi
      rw [List.getElem?_eq_getElem (by omega)] at e1
      obtain ⟨cs, h1, h2⟩ := Option.bind_eq_some_iff.1 e1
      exact ⟨cs, _, h1, h2, List.getElem?_eq_getElem (by omega)⟩
    refine ⟨(List.range len).map (fun i => ((W.cells? 0 (x.add (i * sz)) sz).getD [])), ?_, by simp, Or.inr ⟨_, _, (Prod.mk.inj hx).1, by simp [hlen], fun i hi => ?_⟩⟩
    · rcases Nat.eq_zero_or_pos len with h0 | h0
      · subst h0
        exact Or.inl ⟨some x, cap, rfl, (fun h => by cases h), rfl⟩
      · obtain ⟨b, off, spot⟩ := x
        have hspot : spot = none := by
          obtain ⟨cs, y, h1, _, _⟩ := each 0 h0
          obtain ⟨_, g1, g2⟩ := World.cells?_some h1
          have g3 := g2 0 hsz
          rw [List.getElem?_eq_getElem (by omega)] at g3
          simpa [Addr.add] using World.cell?_spot g3
        subst hspot
        refine Or.inr ⟨b, off, cap, by simp, by simpa using h0, by simpa using hl, hm, fun i hi => ?_⟩
        have hi2 : i < len := by simpa using hi
        obtain ⟨cs, y, h1, _, _⟩ := each i hi2
        have e1 : ((List.range len).map (fun i => ((W.cells? 0 ((⟨b, off, none⟩ : Addr).add (i * sz)) sz).getD []))).getD i [] = cs := by
          simp [List.getD_eq_getElem?_getD, List.getElem?_range, hi2, h1]
        rw [e1]
        obtain ⟨_, g1, g2⟩ := World.cells?_some h1
        refine ⟨g1, fun j hj => ?_⟩
        rw [← g2 j hj]
        congr 1
        unfold Addr.add
        split
        · rename_i hz
          split
          · rename_i hz2; simp [hz, hz2]
          · simp [hz]
        · split
          · rename_i hz2; simp [hz2]
          · simp
    · have hi2 : i < len := by simpa using hi
      obtain ⟨cs, y, h1, h2, h3⟩ := each i hi2
      refine ⟨n, y, ?_, by rw [List.getElem?_map, h3]; rfl⟩
      have e1 : ((List.range len).map (fun i => ((W.cells? 0 (x.add (i * sz)) sz).getD []))).getD i [] = cs := by
        simp [List.getD_eq_getElem?_getD, List.getElem?_range, hi2, h1]
      rw [e1]
      exact h2

/-- texts -/
def strR (_ : World) (cs : List Value) (s : ByteArray) : Prop := cs = [.string s] ∧ s.size ≤ maxLen
/-- slices of bytes -/
def bytR (w : World) (cs : List Value) (xs : List Int) : Prop := ∃ v, cs = [v] ∧ Rd .u8 w v xs ∧ bytesL xs
theorem bytR_below {w w' : World} (g : Below w.heap.size w w') (cs : List Value) (xs : List Int) (h : bytR w cs xs) : bytR w' cs xs := by
  obtain ⟨v, h1, h2, h3⟩ := h
  exact ⟨v, h1, h2.below g, h3⟩
theorem wf_bytes {xs : List Int} (h : ∀ n ∈ xs, (Lit.int .u8 n).wf = true) : bytesL xs := by
  intro x hx
  have := h x hx
  simp [Lit.wf, IntKind.min, IntKind.max, IntKind.bits, IntKind.signed] at this
  omega
/-- from rows that each read as something to the list of what they read as -/
theorem choose_list {α β : Type} (rows : List β) (p : β → α → Prop) (h : ∀ r ∈ rows, ∃ x, p r x) : ∃ xs : List α, xs.length = rows.length ∧ ∀ i (h : i < rows.length) (g : i < xs.length), p rows[i] xs[i] := by
  induction rows with
  | nil => exact ⟨[], rfl, fun i h => by simp at h⟩
  | cons r rs ih =>
    obtain ⟨x, hx⟩ := h r (by simp)
    obtain ⟨xs, h1, h2⟩ := ih (fun r' hr => h r' (by simp [hr]))
    refine ⟨x :: xs, by simp [h1], fun i hi hg => ?_⟩
    cases i with
    | zero => exact hx
    | succ i => exact h2 i (by simpa using hi) (by simpa using hg)
theorem str_open {H : Type} {enc : TypeId × Value → H} {P : Program} {W : World} {t e : TypeId} {a : Option Addr} {len cap : Nat} {d : DataW H} {ps : List MemPlace}
    (ht : P.underlying t = some (.slice e)) (he : P.underlying e = some .string) (hc : P.cellsOf e = 1) (h : DataW.Trod enc P W 0 (fun _ => true) true t (.slice a len cap) d ps) :
    ∃ xs : List ByteArray, SlR 1 strR W (.slice a len cap) xs := by
  obtain ⟨fuel, hf⟩ := h
  obtain ⟨rows, h1, h2, h3⟩ := slc_open ht hc (by omega) (show DataW.trod enc P W 0 (fun _ => true) true fuel t [.slice a len cap] = some (d, ps) from hf)
  obtain ⟨xs, hx1, hx2⟩ := choose_list rows (fun r (s : ByteArray) => strR W r s) (fun r hr => by
    obtain ⟨i, hi, rfl⟩ := List.getElem_of_mem hr
    rcases h3 with ⟨_, rfl⟩ | ⟨ds, zs, _, _, h3⟩
    · simp at hi
    · obtain ⟨n, y, g, _⟩ := h3 i hi
      rw [List.getD_eq_getElem?_getD, List.getElem?_eq_getElem hi] at g
      obtain ⟨s, g1, _, g3⟩ := DataW.trod_string he g
      exact ⟨s, g1, g3⟩)
  refine ⟨xs, rows, h1, hx1.symm, fun i hi => ?_⟩
  rw [List.getD_eq_getElem?_getD, List.getElem?_eq_getElem (by omega)]
  exact hx2 i (by omega) hi
theorem byt_open {H : Type} {enc : TypeId × Value → H} {P : Program} {W : World} {t e b : TypeId} {a : Option Addr} {len cap : Nat} {d : DataW H} {ps : List MemPlace}
    (ht : P.underlying t = some (.slice e)) (he : P.underlying e = some (.slice b)) (hb : P.underlying b = some (.int .u8)) (hc : P.cellsOf e = 1) (hcb : P.cellsOf b = 1) (h : DataW.Trod enc P W 0 (fun _ => true) true t (.slice a len cap) d ps) :
    ∃ xs : List (List Int), SlR 1 bytR W (.slice a len cap) xs := by
  obtain ⟨fuel, hf⟩ := h
  obtain ⟨rows, h1, h2, h3⟩ := slc_open ht hc (by omega) (show DataW.trod enc P W 0 (fun _ => true) true fuel t [.slice a len cap] = some (d, ps) from hf)
  obtain ⟨xs, hx1, hx2⟩ := choose_list rows (fun r (s : List Int) => bytR W r s) (fun r hr => by
    obtain ⟨i, hi, rfl⟩ := List.getElem_of_mem hr
    rcases h3 with ⟨_, rfl⟩ | ⟨ds, zs, _, _, h3⟩
    · simp at hi
    · obtain ⟨n, y, g, _⟩ := h3 i hi
      rw [List.getD_eq_getElem?_getD, List.getElem?_eq_getElem hi] at g
      have g' : ∃ x l c, rows[i] = [.slice x l c] := by
        rcases DataW.trod_slice he g with ⟨h0, _⟩ | ⟨x, l, c, _, _, _, _, h0, _⟩
        · exact ⟨none, 0, 0, h0⟩
        · exact ⟨some x, l, c, h0⟩
      obtain ⟨x, l, c, g'⟩ := g'
      simp only [Option.getD_some] at g
      rw [g'] at g ⊢
      obtain ⟨zs, k1, k2, _⟩ := rd_open (k := .u8) (W := W) (a := x) (len := l) (cap := c) he hb hcb ⟨n, g⟩
      exact ⟨zs, _, rfl, k1, wf_bytes k2⟩)
  refine ⟨xs, rows, h1, hx1.symm, fun i hi => ?_⟩
  rw [List.getD_eq_getElem?_getD, List.getElem?_eq_getElem (by omega)]
  exact hx2 i (by omega) hi

end Go.Proofs.Ytnaoefjcfmdenab
