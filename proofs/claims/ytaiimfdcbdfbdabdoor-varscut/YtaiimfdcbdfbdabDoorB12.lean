/-
  Texts of one proof, laid one behind the other: Ppr Rp1 Rv6 Rv7.
-/
import Derived.Test.YtaiimfdcbdfbdabDoorB11
namespace Go.Proofs.YtaiimfdcbdfbdabDoor
open Go.ChangeShapes Go.WideShapes Go.ChangeAt Go.RowKit
set_option linter.unusedVariables false
set_option linter.unusedSimpArgs false

/-
  Names, unit addresses and the bytes of properties, as plain functions of lists of numbers. No Go text in sight.
-/
theorem L_LB (s : ByteArray) : L s = LB s := rfl
theorem toB_nums (l : List Int) : toB l = strOfNums l := rfl

/-- a byte that a name may have -/
def nmC (c : Int) : Bool := decide (33 ≤ c ∧ c ≤ 126 ∧ ¬ (65 ≤ c ∧ c ≤ 90) ∧ ¬ c = 47 ∧ ¬ c = 92 ∧ ¬ c = 58 ∧ ¬ c = 91 ∧ ¬ c = 93 ∧ ¬ c = 64)
def nmF (l : List Int) : Bool := decide (1 ≤ l.length ∧ l.length ≤ 31) && l.all nmC
theorem nm_mid (l m : List Int) (c : Int) (h : nmC c = false) : nmF (l ++ c :: m) = false := by simp [nmF, h]

/-- pieces between bytes d -/
def spl (d : Int) (cur : List Int) : List Int → List (List Int)
  | [] => [cur]
  | c :: r => if c = d then cur :: spl d [] r else spl d (cur ++ [c]) r
theorem spl_skip (d : Int) (p r : List Int) (h : ∀ x ∈ p, ¬ x = d) : ∀ cur, spl d cur (p ++ r) = spl d (cur ++ p) r := by
  induction p with
  | nil => intro cur; simp
  | cons x p ih =>
    intro cur
    rw [List.cons_append, spl, if_neg (h x (by simp)), ih (fun y hy => h y (by simp [hy]))]
    simp
theorem spl_len (d : Int) : ∀ (l cur : List Int), 1 ≤ (spl d cur l).length
  | [], _ => by simp [spl]
  | c :: r, cur => by
    unfold spl
    split
    · simp
    · exact spl_len d r _

/-- a piece of a unit address: 1 to 8 digits of base 16 -/
def pcOk (p : List Int) : Bool := decide (1 ≤ p.length ∧ p.length ≤ 8) && allD 16 p
/-- what ParseUnit answers -/
def punF (l : List Int) : List Int × Int :=
  if (spl 44 [] l).all pcOk = false then ([], 15) else if 4 < (spl 44 [] l).length then ([], 3) else ((spl 44 [] l).map (num 16), 0)
theorem vl16_bd (c : Int) (h : isD c 16 = true) (h0 : 0 ≤ c) (h1 : c < 256) : 0 ≤ vl c 16 ∧ vl c 16 < 16 := by
  unfold vl
  rw [if_pos h]
  unfold isD at h
  have := dv_bd c h0 h1
  simp at h
  omega
theorem num16_lt (p : List Int) (hb : bytesL p) (hD : allD 16 p = true) : 0 ≤ num 16 p ∧ num 16 p < 16 ^ p.length := by
  suffices h : ∀ q : List Int, bytesL q.reverse → allD 16 q.reverse = true → 0 ≤ num 16 q.reverse ∧ num 16 q.reverse < 16 ^ q.length by
    have := h p.reverse (by simpa using hb) (by simpa using hD)
    simpa using this
  intro q
  induction q with
  | nil => intro _ _; simp [num]
  | cons c q ih =>
    intro hb hD
    rw [List.reverse_cons] at hb hD ⊢
    rw [allD_snoc, Bool.and_eq_true] at hD
    have i := ih (fun x hx => hb x (by simp at hx ⊢; exact Or.inl hx)) hD.1
    have hc := hb c (by simp)
    have hv := vl16_bd c hD.2 hc.1 hc.2
    rw [num_snoc, List.length_cons, Int.pow_succ]
    obtain ⟨k, hk⟩ : ∃ k, (16 : Int) ^ q.length = k := ⟨_, rfl⟩
    rw [hk] at i ⊢
    omega
theorem pc_num (p : List Int) (hb : bytesL p) (h : pcOk p = true) : 0 ≤ num 16 p ∧ num 16 p < 4294967296 := by
  simp [pcOk] at h
  have h1 := num16_lt p hb h.2
  have h2 : (16 : Int) ^ p.length ≤ 16 ^ 8 := by
    have := Nat.pow_le_pow_right (n := 16) (by decide) h.1.2
    have e : ((16 ^ p.length : Nat) : Int) ≤ ((16 ^ 8 : Nat) : Int) := by omega
    simpa using e
  omega
/-- such a piece as layer 2 reads it -/
theorem pc_prs (p : List Int) (hb : bytesL p) (h1 : 1 ≤ p.length) (h8 : p.length ≤ 8) (hm : ¬ p.head? = some 45) : prs p 16 = if pcOk p = true then (num 16 p, 0) else (0, 15) := by
  have hne : ¬ p = [] := by intro h; rw [h] at h1; simp at h1
  unfold prs
  rw [if_neg (by omega), if_neg hm]
  unfold prsT
  rw [if_neg hne]
  cases hD : allD 16 p
  · rw [if_pos rfl, if_neg (by simp [pcOk, hD])]
  · have hok : pcOk p = true := by simp [pcOk, hD]; omega
    have := pc_num p hb hok
    rw [if_neg (by decide), if_neg (by omega), if_pos hok]
    simp
theorem pc_minus (p : List Int) (hm : p.head? = some 45) : pcOk p = false := by
  cases p with
  | nil => simp at hm
  | cons c r =>
    simp at hm
    subst hm
    simp [pcOk, allD, isD, dv]

/-- what ShowUnit answers -/
def shoT : List Int → List Int
  | [] => []
  | x :: r => 44 :: (sh 16 x ++ shoT r)
def shoF (l : List Int) : List Int := (shoT l).drop 1
theorem shoT_snoc (l : List Int) (x : Int) : shoT (l ++ [x]) = shoT l ++ 44 :: sh 16 x := by
  induction l with
  | nil => simp [shoT]
  | cons y l ih => simp [shoT, ih]
theorem shoF_one (x : Int) : shoF [x] = sh 16 x := by simp [shoF, shoT]
theorem shoF_snoc (l : List Int) (x : Int) (h : l ≠ []) : shoF (l ++ [x]) = shoF l ++ (44 :: sh 16 x) := by
  cases l with
  | nil => exact absurd rfl h
  | cons y l => simp [shoF, shoT, shoT_snoc]
def cells (l : List Int) : Prop := ∀ x ∈ l, 0 ≤ x ∧ x < 4294967296
theorem shF_len16 (f : Nat) : ∀ (k : Nat) (n : Int), 0 ≤ n → n < 16 ^ (k + 1) → (shF 16 f n).length ≤ k + 1 := by
  induction f with
  | zero => intro k n _ _; simp [shF]
  | succ f ih =>
    intro k n h0 h1
    unfold shF
    split
    · simp
    · rename_i hn
      cases k with
      | zero => simp at h1; omega
      | succ k =>
        have := ih k (n / 16) (by omega) (by rw [Int.pow_succ] at h1; omega)
        simp
        omega
theorem sh16_len (n : Int) (h0 : 0 ≤ n) (h1 : n < 4294967296) : 1 ≤ (sh 16 n).length ∧ (sh 16 n).length ≤ 8 := by
  have h2 := (sh_all 16 n (by omega) (by omega) h0 h1).2.2.2
  have h3 := shF_len16 32 7 n h0 (by omega)
  unfold sh at *
  refine ⟨?_, h3⟩
  cases h : shF 16 32 n with
  | nil => exact absurd h h2
  | cons x r => simp
theorem sh16_not (n x : Int) (h0 : 0 ≤ n) (h1 : n < 4294967296) (hx : x ∈ sh 16 n) : ¬ x = 44 := by
  have h := (sh_all 16 n (by omega) (by omega) h0 h1).1
  unfold allD at h
  rw [List.all_eq_true] at h
  have := h x hx
  intro e
  subst e
  simp [isD, dv] at this
theorem sh16_bytes (n : Int) (h0 : 0 ≤ n) (h1 : n < 4294967296) : bytesL (sh 16 n) := fun x hx =>
  ⟨((sh_all 16 n (by omega) (by omega) h0 h1).2.2.1 x hx).1, ((sh_all 16 n (by omega) (by omega) h0 h1).2.2.1 x hx).2.1⟩
theorem shoT_bytes : ∀ l : List Int, cells l → bytesL (shoT l)
  | [], _ => fun x hx => by simp [shoT] at hx
  | y :: l, h => by
    intro x hx
    simp only [shoT, List.mem_cons, List.mem_append] at hx
    rcases hx with rfl | hx | hx
    · omega
    · exact sh16_bytes y (h y (by simp)).1 (h y (by simp)).2 x hx
    · exact shoT_bytes l (fun z hz => h z (by simp [hz])) x hx
theorem shoT_len : ∀ l : List Int, cells l → (shoT l).length ≤ 9 * l.length
  | [], _ => by simp [shoT]
  | y :: l, h => by
    have h1 := sh16_len y (h y (by simp)).1 (h y (by simp)).2
    have h2 := shoT_len l (fun z hz => h z (by simp [hz]))
    simp only [shoT, List.length_cons, List.length_append]
    omega
theorem shoF_bytes (l : List Int) (h : cells l) : bytesL (shoF l) := fun x hx => shoT_bytes l h x (List.mem_of_mem_drop hx)
theorem spl_sho : ∀ (l : List Int) (cur : List Int), cells l → spl 44 cur (shoT l) = cur :: l.map (sh 16)
  | [], cur, _ => by simp [shoT, spl]
  | y :: l, cur, h => by
    rw [shoT, spl, if_pos rfl, spl_skip 44 (sh 16 y) (shoT l) (fun x hx => sh16_not y x (h y (by simp)).1 (h y (by simp)).2 hx), List.nil_append, spl_sho l (sh 16 y) (fun z hz => h z (by simp [hz]))]
    rfl
theorem spl_shoF (l : List Int) (h : cells l) (hne : l ≠ []) : spl 44 [] (shoF l) = l.map (sh 16) := by
  cases l with
  | nil => exact absurd rfl hne
  | cons y l =>
    have e : shoF (y :: l) = sh 16 y ++ shoT l := by simp [shoF, shoT]
    rw [e, spl_skip 44 (sh 16 y) (shoT l) (fun x hx => sh16_not y x (h y (by simp)).1 (h y (by simp)).2 hx), List.nil_append, spl_sho l (sh 16 y) (fun z hz => h z (by simp [hz]))]
    rfl
theorem sh16_ok (n : Int) (h0 : 0 ≤ n) (h1 : n < 4294967296) : pcOk (sh 16 n) = true ∧ num 16 (sh 16 n) = n := by
  have h := sh_all 16 n (by omega) (by omega) h0 h1
  have hl := sh16_len n h0 h1
  refine ⟨?_, h.2.1⟩
  simp [pcOk, h.1]
  omega
/-- a unit address shown is parsed as itself -/
theorem pun_back (l : List Int) (h : cells l) : punF (shoF l) = if l = [] then ([], 15) else if 4 < l.length then ([], 3) else (l, 0) := by
  by_cases hne : l = []
  · subst hne
    simp [punF, shoF, shoT, spl, pcOk]
  · rw [if_neg hne]
    unfold punF
    rw [spl_shoF l h hne]
    have hall : (l.map (sh 16)).all pcOk = true := by
      rw [List.all_eq_true]
      intro p hp
      simp only [List.mem_map] at hp
      obtain ⟨n, hn, rfl⟩ := hp
      exact (sh16_ok n (h n hn).1 (h n hn).2).1
    rw [hall, if_neg (by decide), List.length_map]
    split
    · rfl
    · rw [List.map_map]
      have : l.map (num 16 ∘ sh 16) = l := by
        conv => rhs; rw [← List.map_id l]
        apply List.map_congr_left
        intro n hn
        exact (sh16_ok n (h n hn).1 (h n hn).2).2
      rw [this]

/-- what EncodeText and Join answer -/
def enTF (l : List Int) : List Int × Int := if l.all (fun c => decide (¬ c = 0)) = false then ([], 15) else if 256 ≤ l.length then ([], 3) else (l ++ [0], 0)
def joiF (ps : List (List Int)) : List Int × Int := if 256 < ps.flatten.length then ([], 3) else (ps.flatten, 0)
/-- what DecodeInt and DecodeText answer -/
def deIF (l : List Int) : Int × List Int × Int := if l.length < 4 then (0, [], 2) else (beV (l.take 4), l.drop 4, 0)
def deTF (l : List Int) : List Int × List Int × Int :=
  match spl 0 [] l with
  | p :: q :: r => (p, l.drop (p.length + 1), 0)
  | _ => ([], [], 2)
/-- what Ints and Texts answer -/
def intL : List Int → List Int
  | a :: b :: c :: d :: r => beV [a, b, c, d] :: intL r
  | _ => []
def intF (l : List Int) : List Int × Int := if l.length % 4 = 0 then (intL l, 0) else ([], 15)
def texL (cur : List Int) : List Int → Option (List (List Int))
  | [] => if cur = [] then some [] else none
  | c :: r => if c = 0 then (texL [] r).map (cur :: ·) else texL (cur ++ [c]) r
def texsF (l : List Int) : List (List Int) × Int := match texL [] l with
  | some ts => (ts, 0)
  | none => ([], 15)
theorem beV4 (n : Int) (h0 : 0 ≤ n) (h1 : n < 4294967296) : beV (beB 4 n) = n := by
  rw [beV_beB]
  exact Int.emod_eq_of_lt h0 (by omega)
theorem int_back : ∀ l : List Int, cells l → intL (l.map (beB 4)).flatten = l
  | [], _ => rfl
  | n :: l, h => by
    have hn := h n (by simp)
    have i := int_back l (fun x hx => h x (by simp [hx]))
    have e : beB 4 n = [n / 256 / 256 / 256 % 256, n / 256 / 256 % 256, n / 256 % 256, n % 256] := by simp [beB]
    have e2 := beV4 n hn.1 hn.2
    rw [e] at e2
    simp only [List.map_cons, List.flatten_cons]
    rw [e]
    show beV [n / 256 / 256 / 256 % 256, n / 256 / 256 % 256, n / 256 % 256, n % 256] :: intL (l.map (beB 4)).flatten = _
    rw [e2, i]
theorem enc_len : ∀ l : List Int, ((l.map (beB 4)).flatten).length = 4 * l.length
  | [] => rfl
  | n :: l => by
    simp only [List.map_cons, List.flatten_cons, List.length_append, beB_len, List.length_cons, enc_len l]
    omega
theorem intF_back (l : List Int) (h : cells l) : intF (l.map (beB 4)).flatten = (l, 0) := by
  unfold intF
  rw [enc_len, if_pos (by omega), int_back l h]
theorem texL_skip (p r : List Int) (h : ∀ x ∈ p, ¬ x = 0) : ∀ cur, texL cur (p ++ r) = texL (cur ++ p) r := by
  induction p with
  | nil => intro cur; simp
  | cons x p ih =>
    intro cur
    rw [List.cons_append, texL, if_neg (h x (by simp)), ih (fun y hy => h y (by simp [hy]))]
    simp
theorem tex_back : ∀ ts : List (List Int), (∀ t ∈ ts, ∀ x ∈ t, ¬ x = 0) → texL [] (ts.map (· ++ [0])).flatten = some ts
  | [], _ => rfl
  | t :: ts, h => by
    simp only [List.map_cons, List.flatten_cons, List.append_assoc]
    rw [texL_skip t _ (h t (by simp)), List.nil_append]
    show texL t (0 :: (ts.map (· ++ [0])).flatten) = _
    rw [texL, if_pos rfl, tex_back ts (fun u hu => h u (by simp [hu]))]
    rfl
theorem texsF_back (ts : List (List Int)) (h : ∀ t ∈ ts, ∀ x ∈ t, ¬ x = 0) : texsF (ts.map (· ++ [0])).flatten = (ts, 0) := by
  unfold texsF
  rw [tex_back ts h]

/-
  Named, EncodeInt, EncodeText of the document's answer for properties.
-/
theorem run_at {w : World} (s : ByteArray) (k : Nat) (h : k < s.size) (hm : s.size ≤ maxLen) : (Instr.index 9 (.string s) (.int .i64 (k : Int))).run Tryd.prog w = .ok (.int .u8 (s[k].toNat : Int)) w := by
  unfold maxLen at hm
  rw [run_index_string (h := Tryd.underlying9)]
  simp [h]

theorem run_bad (k : Nat) (hk : k < 6) (w : World) : (Instr.index 9 (.string ⟨#[47, 92, 58, 91, 93, 64]⟩) (.int .i64 (k : Int))).run Tryd.prog w = .ok (.int .u8 (([47, 92, 58, 91, 93, 64] : List Int).getD k 0)) w := by
  rw [run_at ⟨#[47, 92, 58, 91, 93, 64]⟩ k (show k < 6 from hk) (by decide)]
  have : k = 0 ∨ k = 1 ∨ k = 2 ∨ k = 3 ∨ k = 4 ∨ k = 5 := by omega
  rcases this with rfl | rfl | rfl | rfl | rfl | rfl <;> rfl

/-- one byte more on a row of bytes of the call's own -/
def Own8 (base : Nat) (w : World) (v : Value) (xs : List Int) : Prop := w.ownsRow base 5 1 v xs.length (xs.map (Value.int .u8))

theorem enc_at (n : Int) (h0 : 0 ≤ n) (k : Nat) (hk : k ≤ 3) : (beB 4 n).take (3 - k + 1) = (beB 4 n).take (3 - k) ++ [n / 2 ^ (8 * k) % 256] := by
  have e : beB 4 n = [n / 256 / 256 / 256 % 256, n / 256 / 256 % 256, n / 256 % 256, n % 256] := by simp [beB]
  rw [e]
  have : k = 0 ∨ k = 1 ∨ k = 2 ∨ k = 3 := by omega
  rcases this with rfl | rfl | rfl | rfl
  all_goals simp
  all_goals omega

set_option maxHeartbeats 1000000 in
set_option maxRecDepth 100000 in
theorem w_rencint (n : Int) (w : World) (h0 : 0 ≤ n) (h1 : n < 4294967296) :
    Calls Tryd.prog 40 #[.int .u32 n] w fun e w' => ∃ v, e = .returned v ∧ Own8 w.heap.size w' v (beB 4 n) ∧ Below w.heap.size w w' := by
  obtain ⟨i0, hi, hz0, hz1, hz2⟩ := info_parts infoU8
  obtain ⟨F, hF⟩ : ∃ F, beB 4 n = F := ⟨_, rfl⟩
  have hFl : F.length = 4 := by rw [← hF]; exact beB_len 4 n
  have hst := enc_at n h0
  rw [hF] at hst ⊢
  have Hst := hid hst
  clear hst hF
  go_enter Tryd.func40, Tryd.ntmps40
  go_wp2_with fail
  go_loopw [3, 4] (fun U I wx => ∃ (k : Nat), (k : Int) ≤ 4 ∧ I = .int .i64 ((k : Int) - 1) ∧ Own8 w.heap.size wx U (F.take (4 - k)) ∧ Below w.heap.size w wx) (fun _ I _ => (intOf I + 1).toNat)
  case atStart => exact ⟨4, by omega, rfl, World.ownsRow_nil _ _ _ _, Below.refl _ _⟩
  case round =>
    obtain ⟨k, hk, rfl, ho, hb⟩ := hrel
    rcases Nat.eq_zero_or_pos k with hk0 | hk0
    · subst hk0
      go_wp2_with fail
      go_ret
      refine ⟨_, rfl, ?_, hb⟩
      rw [show 4 - 0 = 4 from rfl, List.take_of_length_le (by omega)] at ho
      exact ho
    · obtain ⟨j, rfl⟩ : ∃ j, k = j + 1 := ⟨k - 1, by omega⟩
      have hq0 : 0 ≤ n / 2 ^ (8 * j) := Int.ediv_nonneg h0 (Int.le_of_lt (Int.pow_pos (by decide)))
      have hq1 : n / 2 ^ (8 * j) ≤ n := Int.ediv_le_self _ h0
      obtain ⟨q, hq⟩ : ∃ q, n / 2 ^ (8 * j) = q := ⟨_, rfl⟩
      obtain ⟨x, hx⟩ : ∃ x, n / 2 ^ (8 * j) % 256 = x := ⟨_, rfl⟩
      have hx0 : 0 ≤ x ∧ x < 256 := by omega
      obtain ⟨x0, x1⟩ := hx0
      rw [hq] at hq0 hq1
      have hm : q.tmod 256 = x := by rw [Int.tmod_eq_emod_of_nonneg hq0, ← hx, hq]
      have hs2 : Hid (F.take (4 - j) = F.take (4 - (j + 1)) ++ [x]) := by
        show _ = _
        have := Hst.out j (by omega)
        rw [hx, show 3 - j + 1 = 4 - j by omega, show 3 - j = 4 - (j + 1) by omega] at this
        exact this
      have ho3 := World.ownsRow.alloc ho (.cells #[.int .u8 x] 5)
      have hb3 := hb.alloc hb.size (.cells #[.int .u8 x] 5)
      have hll : (F.take (4 - (j + 1))).length ≤ 4 := by rw [List.length_take]; omega
      obtain ⟨ys, hys⟩ : ∃ ys, F.take (4 - (j + 1)) = ys := ⟨_, rfl⟩
      have Hys := hid hys
      rw [hys] at ho3 hll
      clear hys ho hx
      go_wp2_with (at_builtin; refine wpList_append_rd (k := .u8) rfl _ _ 22 rfl w.heap.size 5 i0 1 Tryd.underlying22 hi hz0 hz1 hz2 _ ys rfl ho3 _ [x] rfl (rd_one _ x 5) (by unfold maxLen; simp; omega) (by simp; omega) hb3.size ?_; intro v4 w4 ho4 hg4)
      go_roundw
      case rel =>
        refine ⟨j, by omega, by go_num, ?_, below_grown hb3 hg4 (fun k hk => (ho3.lt k hk).1)⟩
        rw [hs2.out, Hys.out]
        exact ho4
      case measure => simp [intOf]

/-
  bytes, Encode of the document's answer for layer 19.
-/
theorem va_nine : ∀ (l : List Stt) (last : Int), vaG last l = true → last < 9 → (l.length : Int) ≤ 8 - last
  | [], last, _, h => by simp; omega
  | (n, v) :: l, last, h, _ => by
    simp only [vaG, Bool.and_eq_true, decide_eq_true_eq] at h
    have h1 := va_lt n
    have := va_nine l (vaF n) h.2.2.2 h1.1
    simp only [List.length_cons]
    omega
theorem va_blen : ∀ (l : List Stt), (∀ p ∈ l, p.1.size ≤ 12 ∧ p.2.size ≤ 128) → (vaB l).length ≤ 142 * l.length
  | [], _ => by simp [vaB]
  | (n, v) :: l, h => by
    obtain ⟨h1, h2⟩ := h (n, v) (by simp)
    simp only at h1 h2
    have := va_blen l (fun p hp => h p (by simp [hp]))
    rw [show (n, v) :: l = [(n, v)] ++ l from rfl, vaB_app, vaB_one]
    simp only [List.length_append, List.length_cons, List.length_nil, L_len]
    omega
theorem va_bytes (l : List Stt) : bytesL (vaB l) := by
  intro x hx
  unfold vaB at hx
  rw [List.mem_flatMap] at hx
  obtain ⟨p, _, hx⟩ := hx
  rcases List.mem_append.1 hx with hx | hx
  · exact LB_bytes _ x hx
  · rcases List.mem_cons.1 hx with rfl | hx
    · decide
    · rcases List.mem_append.1 hx with hx | hx
      · exact LB_bytes _ x hx
      · rw [List.mem_singleton.1 hx]; decide

set_option maxHeartbeats 2000000 in
set_option maxRecDepth 10000 in
theorem w_rbytes19 (v : Value) (l : List Stt) (w : World) (h : SlR 2 stR w v l) (hr : vaG (-1) l = true) :
    Calls Tryd.prog 38 #[v] w fun e w' => ∃ v', e = .returned v' ∧ Own8 w.heap.size w' v' (vaB l) ∧ Below w.heap.size w w' := by
  have hlen := slr_len h uSt (P := Tryd.prog)
  have h9 := va_nine l (-1) hr (by decide)
  have hsz := va_gs (by decide) hr
  obtain ⟨i0, hi, hz0, hz1, hz2⟩ := info_parts infoU8
  have b61 := fun W : World => box_below W (.cells #[.int .u8 61] 5)
  have b00 := fun W : World => box_below W (.cells #[.int .u8 0] 5)
  have r61 := fun W : World => rd_one (k := .u8) W 61 5
  have r00 := fun W : World => rd_one (k := .u8) W 0 5
  have hB9 : ∀ k, Hid ((vaB (l.take k)).length ≤ 142 * 9) := fun k => by
    show _ ≤ _
    have h1 := va_blen (l.take k) (fun p hp => hsz p (List.mem_of_mem_take hp))
    have h2 := List.length_take_le' k l
    omega
  clear hr
  go_enter Tryd.func38, Tryd.ntmps38
  go_wp2_with fail
  go_loopw [3, 4] (fun O I wx => ∃ k : Nat, k ≤ l.length ∧ I = .int .i64 k ∧ Own8 w.heap.size wx O (vaB (l.take k)) ∧ Below w.heap.size w wx) (fun _ I _ => (l.length - intOf I).toNat)
  case atStart => exact ⟨0, by omega, rfl, World.ownsRow_nil _ _ _ _, Below.refl _ _⟩
  case round =>
    obtain ⟨k, hk, rfl, ho, hg⟩ := hrel
    by_cases hlt : (k : Int) < l.length
    · have hkk : k < l.length := by omega
      obtain ⟨zb, zo, A, V, z1, z2', z3', z4, z5, z6⟩ := st_at h k hkk
      have z2 := below_cell hg z2'
      have z3 := below_cell hg z3'
      have hAV := hsz (A, V) (by rw [← z4]; exact List.getElem_mem hkk)
      have hns : Hid (vaB (l.take (k + 1)) = vaB (l.take k) ++ LB A ++ [61] ++ LB V ++ [0]) := by
        show _ = _
        rw [List.take_succ_eq_append_getElem hkk, z4, vaB_app, vaB_one]
        simp only [List.append_assoc]
        rfl
      have hRl := (hB9 k).out
      obtain ⟨R, hR⟩ : ∃ R, vaB (l.take k) = R := ⟨_, rfl⟩
      rw [hR] at ho hns hRl
      obtain ⟨a1, a2⟩ := hAV
      simp only at a1 a2
      have la : (LB A).length ≤ 12 := by rw [LB_len]; exact a1
      have lv : (LB V).length ≤ 128 := by rw [LB_len]; exact a2
      clear hR z4
      go_wp2_with (first
        | (at_builtin; refine wpList_append_rd (k := .u8) rfl _ _ 22 rfl w.heap.size 5 i0 1 Tryd.underlying22 hi hz0 hz1 hz2 v4 (R ++ LB A ++ [61] ++ LB V) rfl (own_below o4 (b00 w4)) _ [0] rfl (r00 w4) (by unfold maxLen; simp only [List.length_append, List.length_cons, List.length_nil]; omega) (by simp only [List.length_append, List.length_cons, List.length_nil]; omega) (by rw [size_al]; have := h4.size; omega) ?_; intro v5 w5 o5 g5; have h5 := below_grown (below_trans h4 (b00 w4)) g5 (fun k hk => (o4.lt k hk).1))
        | (at_builtin; refine wpList_append_rds rfl _ _ 22 9 rfl w.heap.size 5 i0 Tryd.underlying22 Tryd.underlying9 hi hz0 hz1 hz2 v3 (R ++ LB A ++ [61]) rfl o3 V rfl (by unfold maxLen; simp only [List.length_append, List.length_cons, List.length_nil]; omega) (by simp only [List.length_append, List.length_cons, List.length_nil]; omega) h3.size ?_; intro v4 w4 o4 g4; have h4 := below_grown h3 g4 (fun k hk => (o3.lt k hk).1))
        | (at_builtin; refine wpList_append_rd (k := .u8) rfl _ _ 22 rfl w.heap.size 5 i0 1 Tryd.underlying22 hi hz0 hz1 hz2 v2 (R ++ LB A) rfl (own_below o2 (b61 w2)) _ [61] rfl (r61 w2) (by unfold maxLen; simp only [List.length_append, List.length_cons, List.length_nil]; omega) (by simp only [List.length_append, List.length_cons, List.length_nil]; omega) (by rw [size_al]; have := h2.size; omega) ?_; intro v3 w3 o3 g3; have h3 := below_grown (below_trans h2 (b61 w2)) g3 (fun k hk => (o2.lt k hk).1); have y3 := below_cell h3 z3')
        | (at_builtin; refine wpList_append_rds rfl _ _ 22 9 rfl w.heap.size 5 i0 Tryd.underlying22 Tryd.underlying9 hi hz0 hz1 hz2 _ R rfl ho A rfl (by unfold maxLen; omega) (by omega) hg.size ?_; intro v2 w2 o2 g2; have h2 := below_grown hg g2 (fun k hk => (ho.lt k hk).1)))
      go_roundw
      case rel => exact ⟨k + 1, by omega, by go_num, by rw [hns.out]; exact o5, h5⟩
      case measure => simp [intOf]; omega
    · have hT : l.take k = l := List.take_of_length_le (by omega)
      rw [hT] at ho
      go_wp2_with fail
      go_ret
      exact ⟨_, rfl, ho, hg⟩

/-
  Encode, Same of the document's answer for layer 19.
-/
set_option maxHeartbeats 1000000 in
theorem w_rencode19 (v : Value) (l : List Stt) (w : World) (h : SlR 2 stR w v l) :
    Calls Tryd.prog 22 #[v] w fun e w' => ∃ v', e = .returned (.tuple #[v', .int .i64 (vaEn l).2]) ∧ Own8 w.heap.size w' v' (vaEn l).1 ∧ Below w.heap.size w w' := by
  have cR := w_rright v l w h
  unfold vaEn
  cases hR : vaG (-1) l
  · rw [hR] at cR
    simp only [Bool.false_eq_true, if_false]
    clear hR
    go_enter Tryd.func22, Tryd.ntmps22
    go_wp2_with (go_at_call 37; refine cR.mono ?_; rintro e w1 ⟨rfl, b1⟩)
    go_ret2
    exact ⟨_, rfl, World.ownsRow_nil _ _ _ _, b1⟩
  · rw [hR] at cR
    simp only [if_true]
    have cB := fun w h => w_rbytes19 v l w h hR
    clear hR
    generalize vaB l = B at cB ⊢
    by_cases hL : 248 < B.length
    · rw [if_pos hL]
      go_enter Tryd.func22, Tryd.ntmps22
      go_wp2_with (first
        | (go_at_call 37; refine cR.mono ?_; rintro e w1 ⟨rfl, b1⟩; have h1 := h.below b1 stR_below)
        | (go_at_call 38; refine (cB _ h1).mono ?_; rintro e w2 ⟨v2, rfl, o2, b2⟩; have hl2 := rd_len (Rd_own o2).1 uB (P := Tryd.prog)))
      go_ret2
      exact ⟨_, rfl, World.ownsRow_nil _ _ _ _, below_trans b1 b2⟩
    · rw [if_neg hL]
      go_enter Tryd.func22, Tryd.ntmps22
      go_wp2_with (first
        | (go_at_call 37; refine cR.mono ?_; rintro e w1 ⟨rfl, b1⟩; have h1 := h.below b1 stR_below)
        | (go_at_call 38; refine (cB _ h1).mono ?_; rintro e w2 ⟨v2, rfl, o2, b2⟩; have hl2 := rd_len (Rd_own o2).1 uB (P := Tryd.prog)))
      go_ret2
      refine ⟨_, rfl, ?_, below_trans b1 b2⟩
      obtain ⟨hl, h⟩ := o2
      refine ⟨hl, ?_⟩
      rcases h with h | ⟨b, cap, cur, rfl, hb2, hg, hc, hm, hs, ht⟩
      · exact Or.inl h
      · exact Or.inr ⟨b, cap, cur, rfl, Nat.le_trans b1.size hb2, hg, hc, hm, hs, ht⟩

set_option maxHeartbeats 1000000 in
theorem w_rsame19 (va vb : Value) (xs ys : List Stt) (w : World) (ha : SlR 2 stR w va xs) (hb : SlR 2 stR w vb ys) :
    Calls Tryd.prog 10 #[va, vb] w fun e w' => e = .returned (.bool (decide (xs = ys))) ∧ Below w.heap.size w w' := by
  have hla := slr_len ha uSt (P := Tryd.prog)
  have hlb := slr_len hb uSt (P := Tryd.prog)
  have hma := slr_max ha
  have hmb := slr_max hb
  unfold maxLen at hma hmb
  by_cases hl : xs.length = ys.length
  · have hn : ((xs.length : Int) != (ys.length : Int)) = false := by simp [hl]
    have Hl := hid hl
    clear hl
    go_enter Tryd.func10, Tryd.ntmps10
    go_wp2_with fail
    go_loopw [5] (fun i wx => ∃ k : Nat, (k : Int) ≤ xs.length ∧ i = .int .i64 k ∧ Hid (xs.take k = ys.take k) ∧ Below w.heap.size w wx) (fun i _ => (xs.length - intOf i).toNat)
    case atStart => exact ⟨0, by omega, rfl, hid (by simp), Below.refl _ _⟩
    case round =>
      obtain ⟨j, hj, rfl, ht, hg⟩ := hrel
      by_cases hlt : (j : Int) < xs.length
      · have hka : j < xs.length := by omega
        have hkb : j < ys.length := by have := Hl.out; omega
        obtain ⟨b1, o1, k1, n1, r1, a0, a1, e0, _⟩ := st_at (ha.below hg stR_below) j hka
        obtain ⟨b2, o2, k2, n2, r2, d0, d1, f0, _⟩ := st_at (hb.below hg stR_below) j hkb
        have hne := fun w => st_neq w k1 n1 k2 n2
        have hgd := fun w x y => run_eqGuard_agg (P := Tryd.prog) w .neq 39 x y #[.string k1, .string n1] #[.string k2, .string n2] st_guard
        have hq : (decide (k1 = k2) && decide (n1 = n2)) = decide (xs[j] = ys[j]) := by
          rw [e0, f0, Bool.eq_iff_iff]
          simp
        by_cases hxy : xs[j] = ys[j]
        · have ht2 : Hid (xs.take (j + 1) = ys.take (j + 1)) := by
            show _ = _
            rw [List.take_succ_eq_append_getElem hka, List.take_succ_eq_append_getElem hkb, ht.out, hxy]
          rw [show decide (xs[j] = ys[j]) = true by simp [hxy]] at hq
          simp only [hq, Bool.not_true] at hne
          clear e0 f0 hq hxy
          go_wp2_with fail
          go_quiet (fail)
          go_wp2_with fail
          go_roundw
          case rel => exact ⟨j + 1, by omega, by go_num, ht2, below_drewN hg _⟩
          case measure => simp [intOf]; omega
        · have hf : Hid (decide (xs = ys) = false) := by
            show _ = _
            simp
            intro h
            subst h
            exact hxy rfl
          rw [show decide (xs[j] = ys[j]) = false by simp [hxy]] at hq
          simp only [hq, Bool.not_false] at hne
          clear e0 f0 hq hxy
          go_wp2_with fail
          go_quiet (fail)
          go_wp2_with fail
          go_ret
          exact ⟨ret_b hf.out.symm, below_drewN hg _⟩
      · have hf : Hid (decide (xs = ys) = true) := by
          show _ = _
          have h1 := ht.out
          rw [List.take_of_length_le (by omega), List.take_of_length_le (by have := Hl.out; omega)] at h1
          simpa using h1
        go_wp2_with fail
        go_ret
        exact ⟨ret_b hf.out.symm, hg⟩
  · have hn : ((xs.length : Int) != (ys.length : Int)) = true := by simp; omega
    have hf : decide (xs = ys) = false := by simp; intro h; exact hl (by rw [h])
    rw [hf]
    clear hl hf
    go_enter Tryd.func10, Tryd.ntmps10
    go_wp2_with fail
    go_ret
    exact ⟨rfl, Below.refl _ _⟩

end Go.Proofs.YtaiimfdcbdfbdabDoor
