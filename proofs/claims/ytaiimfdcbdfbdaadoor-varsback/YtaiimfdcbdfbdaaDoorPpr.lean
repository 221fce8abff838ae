/-
  Names, unit addresses and the bytes of properties, as plain functions of lists of numbers. No Go text in sight.
-/
import Derived.Test.YtaiimfdcbdfbdaaDoorDsh
import Derived.Test.YtaiimfdcbdfbdaaDoorPmm
namespace Go.Proofs.YtaiimfdcbdfbdaaDoor
set_option linter.unusedVariables false
set_option linter.unusedSimpArgs false

theorem L_LB (s : ByteArray) : L s = LB s := rfl
theorem toB_nums (l : List Int) : toB l = strOfNums l := rfl

/-- a byte that a name may have -/
def nmC (c : Int) : Bool := decide (33 ≤ c ∧ c ≤ 126 ∧ ¬ (65 ≤ c ∧ c ≤ 90) ∧ ¬ c = 47 ∧ ¬ c = 92 ∧ ¬ c = 58 ∧ ¬ c = 91 ∧ ¬ c = 93 ∧ ¬ c = 64)
def nmF (l : List Int) : Bool := decide (1 ≤ l.length ∧ l.length ≤ 31) && l.all nmC
theorem nm_mid (l m : List Int) (c : Int) (h : nmC c = false) : nmF (l ++ c :: m) = false := by simp [nmF, h]

/-- pieces between bytes d -/
def spl (d : Int) (cur : List Int) : List Int → List (List Int)
  | [] => [cur]
  | c :: r => if c = d then cur :: spl d [] r else spl d (cur ++ [c]) r
theorem spl_skip (d : Int) (p r : List Int) (h : ∀ x ∈ p, ¬ x = d) : ∀ cur, spl d cur (p ++ r) = spl d (cur ++ p) r := by
  induction p with
  | nil => intro cur; simp
  | cons x p ih =>
    intro cur
    rw [List.cons_append, spl, if_neg (h x (by simp)), ih (fun y hy => h y (by simp [hy]))]
    simp
theorem spl_len (d : Int) : ∀ (l cur : List Int), 1 ≤ (spl d cur l).length
  | [], _ => by simp [spl]
  | c :: r, cur => by
    unfold spl
    split
    · simp
    · exact spl_len d r _

/-- a piece of a unit address: 1 to 8 digits of base 16 -/
def pcOk (p : List Int) : Bool := decide (1 ≤ p.length ∧ p.length ≤ 8) && allD 16 p
/-- what ParseUnit answers -/
def punF (l : List Int) : List Int × Int :=
  if (spl 44 [] l).all pcOk = false then ([], 15) else if 4 < (spl 44 [] l).length then ([], 3) else ((spl 44 [] l).map (num 16), 0)
theorem vl16_bd (c : Int) (h : isD c 16 = true) (h0 : 0 ≤ c) (h1 : c < 256) : 0 ≤ vl c 16 ∧ vl c 16 < 16 := by
  unfold vl
  rw [if_pos h]
  unfold isD at h
  have := dv_bd c h0 h1
  simp at h
  omega
theorem num16_lt (p : List Int) (hb : bytesL p) (hD : allD 16 p = true) : 0 ≤ num 16 p ∧ num 16 p < 16 ^ p.length := by
  suffices h : ∀ q : List Int, bytesL q.reverse → allD 16 q.reverse = true → 0 ≤ num 16 q.reverse ∧ num 16 q.reverse < 16 ^ q.length by
    have := h p.reverse (by simpa using hb) (by simpa using hD)
    simpa using this
  intro q
  induction q with
  | nil => intro _ _; simp [num]
  | cons c q ih =>
    intro hb hD
    rw [List.reverse_cons] at hb hD ⊢
    rw [allD_snoc, Bool.and_eq_true] at hD
    have i := ih (fun x hx => hb x (by simp at hx ⊢; exact Or.inl hx)) hD.1
    have hc := hb c (by simp)
    have hv := vl16_bd c hD.2 hc.1 hc.2
    rw [num_snoc, List.length_cons, Int.pow_succ]
    obtain ⟨k, hk⟩ : ∃ k, (16 : Int) ^ q.length = k := ⟨_, rfl⟩
    rw [hk] at i ⊢
    omega
theorem pc_num (p : List Int) (hb : bytesL p) (h : pcOk p = true) : 0 ≤ num 16 p ∧ num 16 p < 4294967296 := by
  simp [pcOk] at h
  have h1 := num16_lt p hb h.2
  have h2 : (16 : Int) ^ p.length ≤ 16 ^ 8 := by
    have := Nat.pow_le_pow_right (n := 16) (by decide) h.1.2
    have e : ((16 ^ p.length : Nat) : Int) ≤ ((16 ^ 8 : Nat) : Int) := by omega
    simpa using e
  omega
/-- such a piece as layer 2 reads it -/
theorem pc_prs (p : List Int) (hb : bytesL p) (h1 : 1 ≤ p.length) (h8 : p.length ≤ 8) (hm : ¬ p.head? = some 45) : prs p 16 = if pcOk p = true then (num 16 p, 0) else (0, 15) := by
  have hne : ¬ p = [] := by intro h; rw [h] at h1; simp at h1
  unfold prs
  rw [if_neg (by omega), if_neg hm]
  unfold prsT
  rw [if_neg hne]
  cases hD : allD 16 p
  · rw [if_pos rfl, if_neg (by simp [pcOk, hD])]
  · have hok : pcOk p = true := by simp [pcOk, hD]; omega
    have := pc_num p hb hok
    rw [if_neg (by decide), if_neg (by omega), if_pos hok]
    simp
theorem pc_minus (p : List Int) (hm : p.head? = some 45) : pcOk p = false := by
  cases p with
  | nil => simp at hm
  | cons c r =>
    simp at hm
    subst hm
    simp [pcOk, allD, isD, dv]

/-- what ShowUnit answers -/
def shoT : List Int → List Int
  | [] => []
  | x :: r => 44 :: (sh 16 x ++ shoT r)
def shoF (l : List Int) : List Int := (shoT l).drop 1
theorem shoT_snoc (l : List Int) (x : Int) : shoT (l ++ [x]) = shoT l ++ 44 :: sh 16 x := by
  induction l with
  | nil => simp [shoT]
  | cons y l ih => simp [shoT, ih]
theorem shoF_one (x : Int) : shoF [x] = sh 16 x := by simp [shoF, shoT]
theorem shoF_snoc (l : List Int) (x : Int) (h : l ≠ []) : shoF (l ++ [x]) = shoF l ++ (44 :: sh 16 x) := by
  cases l with
  | nil => exact absurd rfl h
  | cons y l => simp [shoF, shoT, shoT_snoc]
def cells (l : List Int) : Prop := ∀ x ∈ l, 0 ≤ x ∧ x < 4294967296
theorem shF_len16 (f : Nat) : ∀ (k : Nat) (n : Int), 0 ≤ n → n < 16 ^ (k + 1) → (shF 16 f n).length ≤ k + 1 := by
  induction f with
  | zero => intro k n _ _; simp [shF]
  | succ f ih =>
    intro k n h0 h1
    unfold shF
    split
    · simp
    · rename_i hn
      cases k with
      | zero => simp at h1; omega
      | succ k =>
        have := ih k (n / 16) (by omega) (by rw [Int.pow_succ] at h1; omega)
        simp
        omega
theorem sh16_len (n : Int) (h0 : 0 ≤ n) (h1 : n < 4294967296) : 1 ≤ (sh 16 n).length ∧ (sh 16 n).length ≤ 8 := by
  have h2 := (sh_all 16 n (by omega) (by omega) h0 h1).2.2.2
  have h3 := shF_len16 32 7 n h0 (by omega)
  unfold sh at *
  refine ⟨?_, h3⟩
  cases h : shF 16 32 n with
  | nil => exact absurd h h2
  | cons x r => simp
theorem sh16_not (n x : Int) (h0 : 0 ≤ n) (h1 : n < 4294967296) (hx : x ∈ sh 16 n) : ¬ x = 44 := by
  have h := (sh_all 16 n (by omega) (by omega) h0 h1).1
  unfold allD at h
  rw [List.all_eq_true] at h
  have := h x hx
  intro e
  subst e
  simp [isD, dv] at this
theorem sh16_bytes (n : Int) (h0 : 0 ≤ n) (h1 : n < 4294967296) : bytesL (sh 16 n) := fun x hx =>
  ⟨((sh_all 16 n (by omega) (by omega) h0 h1).2.2.1 x hx).1, ((sh_all 16 n (by omega) (by omega) h0 h1).2.2.1 x hx).2.1⟩
theorem shoT_bytes : ∀ l : List Int, cells l → bytesL (shoT l)
  | [], _ => fun x hx => by simp [shoT] at hx
  | y :: l, h => by
    intro x hx
    simp only [shoT, List.mem_cons, List.mem_append] at hx
    rcases hx with rfl | hx | hx
    · omega
    · exact sh16_bytes y (h y (by simp)).1 (h y (by simp)).2 x hx
    · exact shoT_bytes l (fun z hz => h z (by simp [hz])) x hx
theorem shoT_len : ∀ l : List Int, cells l → (shoT l).length ≤ 9 * l.length
  | [], _ => by simp [shoT]
  | y :: l, h => by
    have h1 := sh16_len y (h y (by simp)).1 (h y (by simp)).2
    have h2 := shoT_len l (fun z hz => h z (by simp [hz]))
    simp only [shoT, List.length_cons, List.length_append]
    omega
theorem shoF_bytes (l : List Int) (h : cells l) : bytesL (shoF l) := fun x hx => shoT_bytes l h x (List.mem_of_mem_drop hx)
theorem spl_sho : ∀ (l : List Int) (cur : List Int), cells l → spl 44 cur (shoT l) = cur :: l.map (sh 16)
  | [], cur, _ => by simp [shoT, spl]
  | y :: l, cur, h => by
    rw [shoT, spl, if_pos rfl, spl_skip 44 (sh 16 y) (shoT l) (fun x hx => sh16_not y x (h y (by simp)).1 (h y (by simp)).2 hx), List.nil_append, spl_sho l (sh 16 y) (fun z hz => h z (by simp [hz]))]
    rfl
theorem spl_shoF (l : List Int) (h : cells l) (hne : l ≠ []) : spl 44 [] (shoF l) = l.map (sh 16) := by
  cases l with
  | nil => exact absurd rfl hne
  | cons y l =>
    have e : shoF (y :: l) = sh 16 y ++ shoT l := by simp [shoF, shoT]
    rw [e, spl_skip 44 (sh 16 y) (shoT l) (fun x hx => sh16_not y x (h y (by simp)).1 (h y (by simp)).2 hx), List.nil_append, spl_sho l (sh 16 y) (fun z hz => h z (by simp [hz]))]
    rfl
theorem sh16_ok (n : Int) (h0 : 0 ≤ n) (h1 : n < 4294967296) : pcOk (sh 16 n) = true ∧ num 16 (sh 16 n) = n := by
  have h := sh_all 16 n (by omega) (by omega) h0 h1
  have hl := sh16_len n h0 h1
  refine ⟨?_, h.2.1⟩
  simp [pcOk, h.1]
  omega
/-- a unit address shown is parsed as itself -/
theorem pun_back (l : List Int) (h : cells l) : punF (shoF l) = if l = [] then ([], 15) else if 4 < l.length then ([], 3) else (l, 0) := by
  by_cases hne : l = []
  · subst hne
    simp [punF, shoF, shoT, spl, pcOk]
  · rw [if_neg hne]
    unfold punF
    rw [spl_shoF l h hne]
    have hall : (l.map (sh 16)).all pcOk = true := by
      rw [List.all_eq_true]
      intro p hp
      simp only [List.mem_map] at hp
      obtain ⟨n, hn, rfl⟩ := hp
      exact (sh16_ok n (h n hn).1 (h n hn).2).1
    rw [hall, if_neg (by decide), List.length_map]
    split
    · rfl
    · rw [List.map_map]
      have : l.map (num 16 ∘ sh 16) = l := by
        conv => rhs; rw [← List.map_id l]
        apply List.map_congr_left
        intro n hn
        exact (sh16_ok n (h n hn).1 (h n hn).2).2
      rw [this]

/-- what EncodeText and Join answer -/
def enTF (l : List Int) : List Int × Int := if l.all (fun c => decide (¬ c = 0)) = false then ([], 15) else if 256 ≤ l.length then ([], 3) else (l ++ [0], 0)
def joiF (ps : List (List Int)) : List Int × Int := if 256 < ps.flatten.length then ([], 3) else (ps.flatten, 0)
/-- what DecodeInt and DecodeText answer -/
def deIF (l : List Int) : Int × List Int × Int := if l.length < 4 then (0, [], 2) else (beV (l.take 4), l.drop 4, 0)
def deTF (l : List Int) : List Int × List Int × Int :=
  match spl 0 [] l with
  | p :: q :: r => (p, l.drop (p.length + 1), 0)
  | _ => ([], [], 2)
/-- what Ints and Texts answer -/
def intL : List Int → List Int
  | a :: b :: c :: d :: r => beV [a, b, c, d] :: intL r
  | _ => []
def intF (l : List Int) : List Int × Int := if l.length % 4 = 0 then (intL l, 0) else ([], 15)
def texL (cur : List Int) : List Int → Option (List (List Int))
  | [] => if cur = [] then some [] else none
  | c :: r => if c = 0 then (texL [] r).map (cur :: ·) else texL (cur ++ [c]) r
def texsF (l : List Int) : List (List Int) × Int := match texL [] l with
  | some ts => (ts, 0)
  | none => ([], 15)
theorem beV4 (n : Int) (h0 : 0 ≤ n) (h1 : n < 4294967296) : beV (beB 4 n) = n := by
  rw [beV_beB]
  exact Int.emod_eq_of_lt h0 (by omega)
theorem int_back : ∀ l : List Int, cells l → intL (l.map (beB 4)).flatten = l
  | [], _ => rfl
  | n :: l, h => by
    have hn := h n (by simp)
    have i := int_back l (fun x hx => h x (by simp [hx]))
    have e : beB 4 n = [n / 256 / 256 / 256 % 256, n / 256 / 256 % 256, n / 256 % 256, n % 256] := by simp [beB]
    have e2 := beV4 n hn.1 hn.2
    rw [e] at e2
    simp only [List.map_cons, List.flatten_cons]
    rw [e]
    show beV [n / 256 / 256 / 256 % 256, n / 256 / 256 % 256, n / 256 % 256, n % 256] :: intL (l.map (beB 4)).flatten = _
    rw [e2, i]
theorem enc_len : ∀ l : List Int, ((l.map (beB 4)).flatten).length = 4 * l.length
  | [] => rfl
  | n :: l => by
    simp only [List.map_cons, List.flatten_cons, List.length_append, beB_len, List.length_cons, enc_len l]
    omega
theorem intF_back (l : List Int) (h : cells l) : intF (l.map (beB 4)).flatten = (l, 0) := by
  unfold intF
  rw [enc_len, if_pos (by omega), int_back l h]
theorem texL_skip (p r : List Int) (h : ∀ x ∈ p, ¬ x = 0) : ∀ cur, texL cur (p ++ r) = texL (cur ++ p) r := by
  induction p with
  | nil => intro cur; simp
  | cons x p ih =>
    intro cur
    rw [List.cons_append, texL, if_neg (h x (by simp)), ih (fun y hy => h y (by simp [hy]))]
    simp
theorem tex_back : ∀ ts : List (List Int), (∀ t ∈ ts, ∀ x ∈ t, ¬ x = 0) → texL [] (ts.map (· ++ [0])).flatten = some ts
  | [], _ => rfl
  | t :: ts, h => by
    simp only [List.map_cons, List.flatten_cons, List.append_assoc]
    rw [texL_skip t _ (h t (by simp)), List.nil_append]
    show texL t (0 :: (ts.map (· ++ [0])).flatten) = _
    rw [texL, if_pos rfl, tex_back ts (fun u hu => h u (by simp [hu]))]
    rfl
theorem texsF_back (ts : List (List Int)) (h : ∀ t ∈ ts, ∀ x ∈ t, ¬ x = 0) : texsF (ts.map (· ++ [0])).flatten = (ts, 0) := by
  unfold texsF
  rw [tex_back ts h]
end Go.Proofs.YtaiimfdcbdfbdaaDoor
