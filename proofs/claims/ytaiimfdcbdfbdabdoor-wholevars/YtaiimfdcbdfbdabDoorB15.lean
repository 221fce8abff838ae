/-
  Texts of one proof, laid one behind the other: Pn1.
-/
import Derived.Test.YtaiimfdcbdfbdabDoorB14
namespace Go.Proofs.YtaiimfdcbdfbdabDoor
open Go.ChangeShapes Go.WideShapes Go.ChangeAt Go.RowKit
set_option linter.unusedVariables false
set_option linter.unusedSimpArgs false

/-
  The NVRAM as plain functions of lists: its sum, its banks, what is found, planned and written. No Go text in sight.
-/
/-- one step of the sum -/
def fnvS (h x : Int) : Int := (((h.toNat ^^^ x.toNat) * 16777619 % 4294967296 : Nat) : Int)
def fnvL (h : Int) (l : List Int) : Int := l.foldl fnvS h
def nsF (g : Int) (d : List Int) : Int := fnvL 2166136261 ([g, (d.length : Int) / 256 % 256, (d.length : Int) % 256] ++ d)
theorem fnvS_bd (h x : Int) : 0 ≤ fnvS h x ∧ fnvS h x < 4294967296 := by unfold fnvS; omega
theorem fnvL_snoc (h : Int) (l : List Int) (x : Int) : fnvL h (l ++ [x]) = fnvS (fnvL h l) x := by simp [fnvL]
theorem fnvL_bd : ∀ (l : List Int) (h : Int), 0 ≤ h ∧ h < 4294967296 → 0 ≤ fnvL h l ∧ fnvL h l < 4294967296
  | [], h, e => e
  | x :: l, h, e => fnvL_bd l (fnvS h x) (fnvS_bd h x)
theorem ns_bd (g : Int) (d : List Int) : 0 ≤ nsF g d ∧ nsF g d < 4294967296 := fnvL_bd _ _ (by omega)
theorem mul_inj {a b : Nat} (ha : a < 4294967296) (hb : b < 4294967296) (h : a * 16777619 % 4294967296 = b * 16777619 % 4294967296) : a = b := by
  have e : ∀ x : Nat, x < 4294967296 → (x * 16777619 % 4294967296) * 899433627 % 4294967296 = x := by
    intro x hx
    rw [Nat.mod_mul_mod, Nat.mul_assoc, show 16777619 * 899433627 = 4294967296 * 3513497 + 1 by decide, Nat.mul_add, Nat.mul_one, ← Nat.mul_assoc, Nat.mul_comm x 4294967296, Nat.mul_assoc, Nat.mul_add_mod, Nat.mod_eq_of_lt hx]
  rw [← e a ha, ← e b hb, h]
theorem xor_lt32 {a b : Nat} (ha : a < 4294967296) (hb : b < 4294967296) : a ^^^ b < 4294967296 := Nat.xor_lt_two_pow (n := 32) ha hb
theorem xor_left {a b c : Nat} (h : a ^^^ b = a ^^^ c) : b = c := by
  have := congrArg (fun z => a ^^^ z) h
  simpa [← Nat.xor_assoc] using this
theorem fnvS_x {h x y : Int} (h0 : 0 ≤ h) (h1 : h < 4294967296) (x0 : 0 ≤ x) (x1 : x < 256) (y0 : 0 ≤ y) (y1 : y < 256) (e : fnvS h x = fnvS h y) : x = y := by
  unfold fnvS at e
  have := mul_inj (xor_lt32 (a := h.toNat) (b := x.toNat) (by omega) (by omega)) (xor_lt32 (a := h.toNat) (b := y.toNat) (by omega) (by omega)) (by omega)
  have := xor_left this
  omega
theorem fnvS_h {h g x : Int} (h0 : 0 ≤ h) (h1 : h < 4294967296) (g0 : 0 ≤ g) (g1 : g < 4294967296) (x0 : 0 ≤ x) (x1 : x < 256) (e : fnvS h x = fnvS g x) : h = g := by
  unfold fnvS at e
  have := mul_inj (xor_lt32 (a := h.toNat) (b := x.toNat) (by omega) (by omega)) (xor_lt32 (a := g.toNat) (b := x.toNat) (by omega) (by omega)) (by omega)
  rw [Nat.xor_comm, Nat.xor_comm g.toNat] at this
  have := xor_left this
  omega
theorem fnvL_h : ∀ (l : List Int) (h g : Int), bytesL l → 0 ≤ h → h < 4294967296 → 0 ≤ g → g < 4294967296 → fnvL h l = fnvL g l → h = g
  | [], h, g, _, _, _, _, _, e => e
  | x :: l, h, g, hb, h0, h1, g0, g1, e => by
    have hx := hb x (List.mem_cons_self ..)
    have a := fnvS_bd h x
    have b := fnvS_bd g x
    exact fnvS_h h0 h1 g0 g1 hx.1 hx.2 (fnvL_h l _ _ (fun y hy => hb y (List.mem_cons_of_mem _ hy)) a.1 a.2 b.1 b.2 e)
/-- one byte that is another one is told by the sum -/
theorem fnvL_set : ∀ (l : List Int) (h : Int) (i : Nat) (y : Int), bytesL l → 0 ≤ h → h < 4294967296 → i < l.length → 0 ≤ y → y < 256 → ¬ y = l.getD i 0 → ¬ fnvL h (l.set i y) = fnvL h l
  | [], h, i, y, hb, h0, h1, hi, y0, y1, hy => absurd hi (by simp)
  | x :: l, h, 0, y, hb, h0, h1, _, y0, y1, hy => by
    intro e
    have hx := hb x (List.mem_cons_self ..)
    have a := fnvS_bd h x
    have b := fnvS_bd h y
    have := fnvL_h l (fnvS h y) (fnvS h x) (fun z hz => hb z (List.mem_cons_of_mem _ hz)) b.1 b.2 a.1 a.2 e
    exact hy (by simpa using fnvS_x h0 h1 y0 y1 hx.1 hx.2 this)
  | x :: l, h, i + 1, y, hb, h0, h1, hi, y0, y1, hy => by
    have a := fnvS_bd h x
    exact fnvL_set l (fnvS h x) i y (fun z hz => hb z (List.mem_cons_of_mem _ hz)) a.1 a.2 (by simpa using hi) y0 y1 (by simpa using hy)
theorem fnvL_3 (h a b c : Int) (l : List Int) : fnvL h ([a, b, c] ++ l) = fnvL (fnvS (fnvS (fnvS h a) b) c) l := by
  unfold fnvL
  generalize fnvS = f
  rfl
theorem ns_set (g : Int) (d : List Int) (hb : bytesL d) (i : Nat) (y : Int) (hi : i < d.length) (y0 : 0 ≤ y) (y1 : y < 256) (hy : ¬ y = d.getD i 0) : ¬ nsF g (d.set i y) = nsF g d := by
  unfold nsF
  rw [List.length_set, fnvL_3, fnvL_3]
  have a := fnvS_bd 2166136261 g
  have b := fnvS_bd (fnvS 2166136261 g) ((d.length : Int) / 256 % 256)
  have c := fnvS_bd (fnvS (fnvS 2166136261 g) ((d.length : Int) / 256 % 256)) ((d.length : Int) % 256)
  exact fnvL_set d _ i y hb c.1 c.2 hi y0 y1 hy

/-- a bank, and what it tells -/
def bkF (nv : List Int) (k : Int) : List Int := (nv.drop (256 * k).toNat).take 256
def bkN (b : List Int) : Int := 256 * b.getD 2 0 + b.getD 3 0
def bkD (b : List Int) : List Int := (b.drop 8).take (bkN b).toNat
def bkS (b : List Int) : Int := beV ((b.drop 4).take 4)
def bkR (b : List Int) : Bool := decide (b.getD 0 0 = 165) && decide (bkN b ≤ 248) && decide (bkS b = nsF (b.getD 1 0) (bkD b))
def cntF (nv : List Int) : Int × Int :=
  if bkR (bkF nv 0) = true ∧ bkR (bkF nv 1) = true ∧ (bkF nv 1).getD 1 0 = ((bkF nv 0).getD 1 0 + 1) % 256 then (1, (bkF nv 1).getD 1 0)
  else if bkR (bkF nv 0) = true then (0, (bkF nv 0).getD 1 0)
  else if bkR (bkF nv 1) = true then (1, (bkF nv 1).getD 1 0) else (-1, 0)
def rcvF (nv : List Int) : List Int × Int × Bool :=
  if nv.length = 512 then if (cntF nv).1 < 0 then ([], 0, false) else (bkD (bkF nv (cntF nv).1), (cntF nv).1, true) else ([], 0, false)
/-- bytes that are written, one behind the other -/
def rowF (at_ : Int) : List Int → List (Int × Int)
  | [] => []
  | x :: l => (at_, x) :: rowF (at_ + 1) l
def bsF (k : Int) : Int := if k = 0 then 256 else 0
def hedF (g : Int) (d : List Int) : List Int := [g, 0, (d.length : Int)] ++ beB 4 (nsF g d) ++ d
def wrtF (b g : Int) (d : List Int) : List (Int × Int) := (b, 0) :: (rowF (b + 1) (hedF g d) ++ [(b, 165)])
def plnF (nv d : List Int) : List (Int × Int) × Int :=
  if nv.length = 512 then if (248 : Int) < d.length then ([], 3) else (wrtF (bsF (cntF nv).1) (((cntF nv).2 + 1) % 256) d, 0) else ([], 1)
def putB (nv : List Int) (p : Int × Int) : List Int := if 0 ≤ p.1 ∧ p.1 < nv.length then nv.set p.1.toNat p.2 else nv
def aplL (nv : List Int) (l : List (Int × Int)) : List Int := l.foldl putB nv
def aplF (nv : List Int) (l : List (Int × Int)) (n : Int) : List Int := aplL nv (l.take n.toNat)

theorem put_len (nv : List Int) (p : Int × Int) : (putB nv p).length = nv.length := by unfold putB; split <;> simp
theorem apl_cons (nv : List Int) (p : Int × Int) (l : List (Int × Int)) : aplL nv (p :: l) = aplL (putB nv p) l := rfl
theorem apl_len : ∀ (l : List (Int × Int)) (nv : List Int), (aplL nv l).length = nv.length
  | [], _ => rfl
  | p :: l, nv => by rw [show aplL nv (p :: l) = aplL (putB nv p) l from rfl, apl_len l, put_len]
theorem apl_app (nv : List Int) (a b : List (Int × Int)) : aplL nv (a ++ b) = aplL (aplL nv a) b := by simp [aplL]
theorem apl_snoc (nv : List Int) (a : List (Int × Int)) (p : Int × Int) : aplL nv (a ++ [p]) = putB (aplL nv a) p := by simp [aplL]
theorem put_other (nv : List Int) (p : Int × Int) (i : Nat) (h : ¬ p.1 = i) : (putB nv p).getD i 0 = nv.getD i 0 := by
  unfold putB
  split
  · rw [List.getD_eq_getElem?_getD, List.getElem?_set, if_neg (by omega), ← List.getD_eq_getElem?_getD]
  · rfl
theorem put_self (nv : List Int) (i : Nat) (v : Int) (h : i < nv.length) : (putB nv ((i : Int), v)).getD i 0 = v := by
  unfold putB
  rw [if_pos ⟨by simp, by simpa using h⟩, List.getD_eq_getElem?_getD, List.getElem?_set, if_pos (by simp), if_pos (by simpa using h)]
  rfl
theorem apl_other : ∀ (l : List (Int × Int)) (nv : List Int) (i : Nat), (∀ p ∈ l, ¬ p.1 = i) → (aplL nv l).getD i 0 = nv.getD i 0
  | [], _, _, _ => rfl
  | p :: l, nv, i, h => by
    rw [show aplL nv (p :: l) = aplL (putB nv p) l from rfl, apl_other l _ i (fun q hq => h q (List.mem_cons_of_mem _ hq)), put_other nv p i (h p (List.mem_cons_self ..))]
theorem row_len : ∀ (l : List Int) (a : Int), (rowF a l).length = l.length
  | [], _ => rfl
  | x :: l, a => by simp [rowF, row_len l]
theorem row_mem : ∀ (l : List Int) (a : Int) (p : Int × Int), p ∈ rowF a l → a ≤ p.1 ∧ p.1 < a + l.length ∧ p.2 ∈ l
  | [], _, _, h => by simp [rowF] at h
  | x :: l, a, p, h => by
    simp only [rowF, List.mem_cons] at h
    rcases h with rfl | h
    · simp; omega
    · have := row_mem l (a + 1) p h
      simp only [List.length_cons, List.mem_cons]
      exact ⟨by omega, by omega, Or.inr this.2.2⟩
theorem row_at : ∀ (l : List Int) (nv : List Int) (a : Nat) (j : Nat), j < l.length → a + l.length ≤ nv.length → (aplL nv (rowF a l)).getD (a + j) 0 = l.getD j 0
  | [], _, _, _, h, _ => by simp at h
  | x :: l, nv, a, 0, _, hl => by
    simp only [List.length_cons] at hl
    show (aplL (putB nv (↑a, x)) (rowF (↑a + 1) l)).getD a 0 = x
    rw [apl_other _ _ _ (fun p hp => by have := row_mem l _ p hp; omega)]
    exact put_self nv a x (by omega)
  | x :: l, nv, a, j + 1, hj, hl => by
    simp only [List.length_cons] at hl hj
    have := row_at l (putB nv (↑a, x)) (a + 1) j (by omega) (by rw [put_len]; omega)
    show (aplL (putB nv (↑a, x)) (rowF (↑a + 1) l)).getD (a + (j + 1)) 0 = l.getD j 0
    rw [← this, show a + (j + 1) = a + 1 + j by omega]
    rfl
theorem hed_len (g : Int) (d : List Int) : (hedF g d).length = 7 + d.length := by simp [hedF, beB_len]; omega
theorem wrt_len (b g : Int) (d : List Int) : (wrtF b g d).length = 9 + d.length := by simp [wrtF, row_len, hed_len]; omega
theorem wrt_mem {b g : Int} {d : List Int} {p : Int × Int} (h : p ∈ wrtF b g d) : b ≤ p.1 ∧ p.1 < b + 8 + d.length := by
  simp only [wrtF, List.mem_cons, List.mem_append, List.not_mem_nil, or_false] at h
  rcases h with rfl | h | rfl
  · simp; omega
  · have := row_mem _ _ p h
    rw [hed_len] at this
    omega
  · simp; omega
theorem ext_getD {a b : List Int} (hl : a.length = b.length) (h : ∀ i < a.length, a.getD i 0 = b.getD i 0) : a = b := by
  apply List.ext_getElem hl
  intro i h1 h2
  have := h i h1
  rw [List.getD_eq_getElem?_getD, List.getD_eq_getElem?_getD, List.getElem?_eq_getElem h1, List.getElem?_eq_getElem h2] at this
  exact this
theorem bk_len (nv : List Int) (hl : nv.length = 512) (k : Nat) (hk : k < 2) : (bkF nv k).length = 256 := by
  simp only [bkF, List.length_take, List.length_drop]; omega
theorem bk_at (nv : List Int) (k : Nat) (i : Nat) (hi : i < 256) : (bkF nv k).getD i 0 = nv.getD (256 * k + i) 0 := by
  unfold bkF
  rw [List.getD_eq_getElem?_getD, List.getD_eq_getElem?_getD, List.getElem?_take, if_pos hi, List.getElem?_drop, show (256 * (k : Int)).toNat = 256 * k by omega]
/-- what is written into one bank leaves the other one -/
theorem apl_bank (nv : List Int) (hl : nv.length = 512) (l : List (Int × Int)) (k : Nat) (hk : k < 2) (h : ∀ p ∈ l, ¬ (256 * (k : Int) ≤ p.1 ∧ p.1 < 256 * k + 256)) : bkF (aplL nv l) k = bkF nv k := by
  apply ext_getD
  · rw [bk_len _ (by rw [apl_len]; exact hl) k hk, bk_len _ hl k hk]
  · intro i hi
    rw [bk_len _ (by rw [apl_len]; exact hl) k hk] at hi
    rw [bk_at _ _ _ hi, bk_at _ _ _ hi]
    exact apl_other _ _ _ (fun p hp e => h p hp (by omega))
theorem nr_mark {b : List Int} (h : ¬ b.getD 0 0 = 165) : bkR b = false := by unfold bkR; simp only [decide_eq_false h, Bool.false_and]
/-- a bank whose writing was begun and isn't done isn't right -/
theorem apl_begun (nv : List Int) (hl : nv.length = 512) (k : Nat) (hk : k < 2) (g : Int) (d : List Int) (hd : d.length ≤ 248) (n : Nat) (hn : n < (wrtF (256 * k) g d).length) (h0 : 0 < n) : bkR (bkF (aplL nv ((wrtF (256 * k) g d).take n)) k) = false := by
  apply nr_mark
  rw [bk_at _ _ _ (by omega)]
  rw [wrt_len] at hn
  obtain ⟨m, rfl⟩ : ∃ m, n = m + 1 := ⟨n - 1, by omega⟩
  have e : (wrtF (256 * k) g d).take (m + 1) = ((256 * (k : Int)), 0) :: (rowF (256 * k + 1) (hedF g d)).take m := by
    unfold wrtF
    rw [List.take_succ_cons, List.take_append_of_le_length (by rw [row_len, hed_len]; omega)]
  rw [e, show aplL nv (((256 * (k : Int)), 0) :: (rowF (256 * k + 1) (hedF g d)).take m) = aplL (putB nv ((256 * (k : Int)), 0)) ((rowF (256 * k + 1) (hedF g d)).take m) from rfl]
  rw [apl_other _ _ _ (fun p hp => by have := row_mem _ _ p (List.mem_of_mem_take hp); omega)]
  have := put_self nv (256 * k) 0 (by omega)
  rw [show ((256 * k : Nat) : Int) = 256 * (k : Int) by omega] at this
  rw [Nat.add_zero, this]
  decide
/-- a bank that was written whole -/
theorem apl_done (nv : List Int) (hl : nv.length = 512) (k : Nat) (hk : k < 2) (g : Int) (d : List Int) (hd : d.length ≤ 248) :
    (bkF (aplL nv (wrtF (256 * k) g d)) k).length = 256 ∧ (bkF (aplL nv (wrtF (256 * k) g d)) k).getD 0 0 = 165 ∧ (∀ j < 7 + d.length, (bkF (aplL nv (wrtF (256 * k) g d)) k).getD (1 + j) 0 = (hedF g d).getD j 0) ∧
    ∀ i < 256, 8 + d.length ≤ i → (bkF (aplL nv (wrtF (256 * k) g d)) k).getD i 0 = (bkF nv k).getD i 0 := by
  have e : aplL nv (wrtF (256 * k) g d) = putB (aplL (putB nv ((256 * (k : Int)), 0)) (rowF (256 * k + 1) (hedF g d))) ((256 * (k : Int)), 165) := by
    rw [wrtF, apl_cons, apl_snoc]
  have hr := fun j hj => row_at (hedF g d) (putB nv ((256 * (k : Int)), 0)) (256 * k + 1) j hj (by rw [put_len, hed_len]; omega)
  rw [show ((256 * k + 1 : Nat) : Int) = 256 * (k : Int) + 1 by omega] at hr
  refine ⟨bk_len _ (by rw [apl_len]; exact hl) k hk, ?_, ?_, ?_⟩
  · rw [bk_at _ _ _ (by omega), e]
    have := put_self (aplL (putB nv ((256 * (k : Int)), 0)) (rowF (256 * k + 1) (hedF g d))) (256 * k) 165 (by rw [apl_len, put_len]; omega)
    rw [show ((256 * k : Nat) : Int) = 256 * (k : Int) by omega] at this
    rw [Nat.add_zero, this]
  · intro j hj
    rw [bk_at _ _ _ (by omega), e, put_other _ _ _ (by simp; omega), show 256 * k + (1 + j) = 256 * k + 1 + j by omega]
    exact hr j (by rw [hed_len]; omega)
  · intro i hi h8
    rw [bk_at _ _ _ hi, bk_at _ _ _ hi, e, put_other _ _ _ (by simp; omega), apl_other _ _ _ (fun p hp => by have := row_mem _ _ p hp; rw [hed_len] at this; omega), put_other _ _ _ (by simp; omega)]
theorem getD_app (a b : List Int) (i : Nat) : (a ++ b).getD i 0 = if i < a.length then a.getD i 0 else b.getD (i - a.length) 0 := by
  rw [List.getD_eq_getElem?_getD, List.getElem?_append]
  split
  · rw [← List.getD_eq_getElem?_getD]
  · rw [← List.getD_eq_getElem?_getD]
/-- what a bank tells that holds a header and data -/
theorem bk_told {b : List Int} {g : Int} {d : List Int} (hL : b.length = 256) (hd : d.length ≤ 248) (hj : ∀ j < 7 + d.length, b.getD (1 + j) 0 = (hedF g d).getD j 0) :
    b.getD 1 0 = g ∧ bkN b = d.length ∧ bkD b = d ∧ bkS b = nsF g d := by
  have hs := ns_bd g d
  have hb4 := beB_len 4 (nsF g d)
  have h1 : b.getD 1 0 = g := by have := hj 0 (by omega); simpa [hedF] using this
  have h2 : b.getD 2 0 = 0 := by have := hj 1 (by omega); simpa [hedF] using this
  have h3 : b.getD 3 0 = d.length := by have := hj 2 (by omega); simpa [hedF] using this
  have hN : bkN b = d.length := by unfold bkN; rw [h2, h3]; omega
  refine ⟨h1, hN, ?_, ?_⟩
  · unfold bkD
    rw [hN, Int.toNat_natCast]
    apply ext_getD
    · simp only [List.length_take, List.length_drop]; omega
    · intro i hi
      simp only [List.length_take, List.length_drop] at hi
      have := hj (7 + i) (by omega)
      rw [List.getD_eq_getElem?_getD, List.getElem?_take, if_pos (by omega), List.getElem?_drop, ← List.getD_eq_getElem?_getD, show 8 + i = 1 + (7 + i) by omega, this]
      unfold hedF
      rw [getD_app, if_neg (by simp only [List.length_append, List.length_cons, List.length_nil, hb4]; omega)]
      simp only [List.length_append, List.length_cons, List.length_nil, hb4]
      congr 1; omega
  · have e : (b.drop 4).take 4 = beB 4 (nsF g d) := by
      apply ext_getD
      · simp only [List.length_take, List.length_drop, hb4]; omega
      · intro i hi
        simp only [List.length_take, List.length_drop] at hi
        have := hj (3 + i) (by omega)
        rw [List.getD_eq_getElem?_getD, List.getElem?_take, if_pos (by omega), List.getElem?_drop, ← List.getD_eq_getElem?_getD, show 4 + i = 1 + (3 + i) by omega, this]
        unfold hedF
        rw [List.append_assoc, getD_app, if_neg (by simp), getD_app, if_pos (by simp [hb4]; omega)]
        simp
    unfold bkS
    rw [e, beV_beB]
    omega
theorem bk_right {b : List Int} {g : Int} {d : List Int} (hL : b.length = 256) (h0 : b.getD 0 0 = 165) (hd : d.length ≤ 248) (hj : ∀ j < 7 + d.length, b.getD (1 + j) 0 = (hedF g d).getD j 0) : bkR b = true := by
  obtain ⟨h1, h2, h3, h4⟩ := bk_told hL hd hj
  unfold bkR
  rw [h0, h1, h2, h3, h4]
  simp
  omega

end Go.Proofs.YtaiimfdcbdfbdabDoor
