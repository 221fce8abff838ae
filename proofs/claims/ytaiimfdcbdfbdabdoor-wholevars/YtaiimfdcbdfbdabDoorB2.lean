/-
  Texts of one proof, laid one behind the other: Pv1 Pmm Rmm Rmf.
-/
import Derived.Test.YtaiimfdcbdfbdabDoorB1
import Derived.Test.YtaiimfdcbdfbdabDoorProg
namespace Go.Proofs.YtaiimfdcbdfbdabDoor
open Go.ChangeShapes Go.WideShapes Go.ChangeAt Go.RowKit
set_option linter.unusedVariables false
set_option linter.unusedSimpArgs false

/-
  Configuration variables and settings as plain functions: forms, right lists, set, got, encoded, decoded. No Go text in sight.
-/
abbrev Stt := ByteArray × ByteArray
/-- name, kind, default -/
def vaR : List (ByteArray × Int × ByteArray) := [
  (⟨#[97, 117, 116, 111, 45, 98, 111, 111, 116, 63]⟩, 98, ⟨#[116, 114, 117, 101]⟩),
  (⟨#[98, 111, 111, 116, 45, 100, 101, 118, 105, 99, 101]⟩, 116, ⟨#[100, 105, 115, 107, 32, 110, 101, 116]⟩),
  (⟨#[98, 111, 111, 116, 45, 102, 105, 108, 101]⟩, 116, ⟨#[]⟩),
  (⟨#[98, 111, 111, 116, 45, 108, 105, 109, 105, 116]⟩, 110, ⟨#[53, 48, 48, 48]⟩),
  (⟨#[105, 110, 112, 117, 116, 45, 100, 101, 118, 105, 99, 101]⟩, 116, ⟨#[107, 101, 121, 98, 111, 97, 114, 100]⟩),
  (⟨#[110, 118, 114, 97, 109, 114, 99]⟩, 116, ⟨#[]⟩),
  (⟨#[111, 101, 109, 45, 98, 97, 110, 110, 101, 114]⟩, 116, ⟨#[]⟩),
  (⟨#[115, 99, 114, 101, 101, 110, 45, 116, 117, 114, 110]⟩, 110, ⟨#[48]⟩),
  (⟨#[117, 115, 101, 45, 110, 118, 114, 97, 109, 114, 99, 63]⟩, 98, ⟨#[102, 97, 108, 115, 101]⟩)]
def vaT (k : Nat) : ByteArray × Int × ByteArray := vaR.getD k (⟨#[]⟩, 0, ⟨#[]⟩)
def vaF (nm : ByteArray) : Int := (((List.range 9).find? (fun j => decide ((vaT j).1 = nm))).map Int.ofNat).getD (-1)
def vaTru : ByteArray := ⟨#[116, 114, 117, 101]⟩
def vaFls : ByteArray := ⟨#[102, 97, 108, 115, 101]⟩
def vaO (k : Nat) (v : ByteArray) : Option ByteArray :=
  if (vaT k).2.1 = 98 then (if v = vaTru ∨ v = vaFls then some v else none)
  else if (vaT k).2.1 = 110 then (if (prs (L v) 10).2 = 0 then some (shT (prs (L v) 10).1 10) else none)
  else if (∀ c ∈ L v, 32 ≤ c ∧ c ≤ 126) ∧ v.size ≤ 128 then some v else none
def vaM (nm v : ByteArray) : ByteArray × Int := if vaF nm < 0 then (⟨#[]⟩, 2) else match vaO (vaF nm).toNat v with | some s => (s, 0) | none => (⟨#[]⟩, 27)
def vaD (nm : ByteArray) : ByteArray × Int := if vaF nm < 0 then (⟨#[]⟩, 2) else ((vaT (vaF nm).toNat).2.2, 0)
/-- right settings behind the number last -/
def vaG : Int → List Stt → Bool
  | _, [] => true
  | last, (n, v) :: l => decide (last < vaF n) && (decide (vaO (vaF n).toNat v = some v) && (decide (v ≠ (vaT (vaF n).toNat).2.2) && vaG (vaF n) l))
def vaE : Int → List Stt → Int
  | last, [] => last
  | _, (n, _) :: l => vaE (vaF n) l
def vaV (l : List Stt) (nm : ByteArray) : ByteArray := match l.find? (fun p => decide (p.1 = nm)) with | some p => p.2 | none => (vaD nm).1
def vaGt (l : List Stt) (nm : ByteArray) : ByteArray × Int := if vaG (-1) l then if vaF nm < 0 then (⟨#[]⟩, 2) else (vaV l nm, 0) else (⟨#[]⟩, 1)
/-- of values by number, those that aren't the default -/
def vaP (g : Nat → ByteArray) : Nat → List Stt
  | 0 => []
  | k + 1 => vaP g k ++ (if g k = (vaT k).2.2 then [] else [((vaT k).1, g k)])
def vaU (l : List Stt) (nm s : ByteArray) (k : Nat) : ByteArray := if (vaT k).1 = nm then s else vaV l (vaT k).1
def vaS (l : List Stt) (nm v : ByteArray) : List Stt × Int := if vaG (-1) l then if (vaM nm v).2 = 0 then (vaP (vaU l nm (vaM nm v).1) 9, 0) else ([], (vaM nm v).2) else ([], 1)
def vaB (l : List Stt) : List Int := l.flatMap fun p => L p.1 ++ 61 :: (L p.2 ++ [0])
def vaEn (l : List Stt) : List Int × Int := if vaG (-1) l then if 248 < (vaB l).length then ([], 10) else (vaB l, 0) else ([], 1)
def vaX : List Int → List Int → Option Nat → List Stt → Option (List Stt)
  | [], cur, _, out => if cur = [] then some out else none
  | b :: r, cur, eq, out =>
    if b = 0 then match eq with
      | none => none
      | some e => vaX r [] none (out ++ [(strOfNums (cur.take e), strOfNums (cur.drop (e + 1)))])
    else vaX r (cur ++ [b]) (if b = 61 ∧ eq = none then some cur.length else eq) out
def vaDe (b : List Int) : List Stt × Int := match vaX b [] none [] with | some l => if vaG (-1) l then (l, 0) else ([], 15) | none => ([], 15)

theorem va_dv {c : Int} (h0 : 0 ≤ c) (h1 : c < 256) : 0 ≤ vl c 10 := by
  have := dv_bd c h0 h1
  unfold vl
  split <;> omega
theorem va_num : ∀ (m : List Int) (a : Int), 0 ≤ a → (∀ c ∈ m, 0 ≤ c ∧ c < 256) → 0 ≤ m.foldl (fun a c => a * 10 + vl c 10) a
  | [], a, ha, _ => by simpa using ha
  | c :: m, a, ha, h => by
    have hc := h c (by simp)
    have := va_dv hc.1 hc.2
    exact va_num m _ (show 0 ≤ a * 10 + vl c 10 by omega) (fun x hx => h x (by simp [hx]))
theorem prsT_bd (neg : Bool) (l : List Int) (h : ∀ c ∈ l, 0 ≤ c ∧ c < 256) : 0 ≤ (prsT neg l 10).1 ∧ (prsT neg l 10).1 < 4294967296 := by
  have hn : 0 ≤ num 10 l := va_num l 0 (by decide) h
  unfold prsT
  repeat' split
  all_goals (try simp only)
  all_goals omega
theorem prs_bd (s : ByteArray) : 0 ≤ (prs (L s) 10).1 ∧ (prs (L s) 10).1 < 4294967296 := by
  have hb : ∀ c ∈ L s, 0 ≤ c ∧ c < 256 := LB_bytes s
  unfold prs
  rw [if_neg (by decide)]
  split
  · exact prsT_bd _ _ (fun c hc => hb c (List.mem_of_mem_tail hc))
  · exact prsT_bd _ _ hb
theorem sh_zero {n : Int} (h0 : 0 ≤ n) (h1 : n < 4294967296) : ∀ c ∈ L (shT n 10), ¬ c = 0 := by
  unfold shT
  rw [if_neg (by decide), sh_L 10 n (by decide) (by decide) h0 h1]
  intro c hc hz
  have h := (sh_all 10 n (by decide) (by decide) h0 h1).1
  unfold allD at h
  have := List.all_eq_true.1 h c hc
  rw [hz] at this
  revert this
  decide
theorem va_nm : ∀ k, k < 9 → vaF (vaT k).1 = (k : Int) := by decide +kernel
theorem va_clean : ∀ k, k < 9 → ∀ c ∈ L (vaT k).1, ¬ c = 0 ∧ ¬ c = 61 := by decide +kernel
theorem va_dflt : ∀ k, k < 9 → vaO k (vaT k).2.2 = some (vaT k).2.2 := by decide +kernel
theorem va_size : ∀ k, k < 9 → (vaT k).1.size ≤ 12 ∧ (vaT k).2.2.size ≤ 8 := by decide +kernel
theorem va_found {nm : ByteArray} (h : 0 ≤ vaF nm) : (vaF nm).toNat < 9 ∧ (vaT (vaF nm).toNat).1 = nm := by
  unfold vaF at h ⊢
  cases hf : (List.range 9).find? (fun j => decide ((vaT j).1 = nm)) with
  | none => rw [hf] at h; simp at h
  | some j =>
    have h1 := List.find?_some hf
    have h2 := List.mem_of_find?_eq_some hf
    simp only [decide_eq_true_eq] at h1
    simp only [List.mem_range] at h2
    simp only [Option.map_some, Option.getD_some, Int.ofNat_eq_natCast, Int.toNat_natCast]
    exact ⟨h2, h1⟩
theorem va_lt (nm : ByteArray) : vaF nm < 9 ∧ -1 ≤ vaF nm := by
  unfold vaF
  cases hf : (List.range 9).find? (fun j => decide ((vaT j).1 = nm)) with
  | none => simp
  | some j =>
    have h2 := List.mem_of_find?_eq_some hf
    simp only [List.mem_range] at h2
    simp
    omega
theorem va_hit {nm : ByteArray} {k : Nat} (hk : k < 9) (h : (vaT k).1 = nm) : vaF nm = k := by rw [← h]; exact va_nm k hk
theorem va_miss {nm : ByteArray} (h : ∀ k, k < 9 → ¬ (vaT k).1 = nm) : vaF nm = -1 := by
  have h1 := va_lt nm
  by_cases h0 : 0 ≤ vaF nm
  · obtain ⟨h2, h3⟩ := va_found h0
    exact absurd h3 (h _ h2)
  · omega
/-- forms are their own forms -/
theorem va_form {k : Nat} {v s : ByteArray} (h : vaO k v = some s) : vaO k s = some s := by
  unfold vaO at h
  split at h
  · rename_i hk
    split at h
    · rename_i hv
      injection h with h
      subst h
      unfold vaO
      rw [if_pos hk, if_pos hv]
    · cases h
  · rename_i hk
    split at h
    · rename_i hn
      split at h
      · injection h with h
        subst h
        have hp := prs_bd v
        have hb := shT_back (prs (L v) 10).1 10 hp.1 hp.2 (by decide) (by decide)
        unfold vaO
        rw [if_neg hk, if_pos hn, hb, if_pos rfl]
      · cases h
    · rename_i hn
      split at h
      · rename_i hv
        injection h with h
        subst h
        unfold vaO
        rw [if_neg hk, if_neg hn, if_pos hv]
      · cases h
/-- forms hold no nought -/
theorem va_zero {k : Nat} {v : ByteArray} (h : vaO k v = some v) : ∀ c ∈ L v, ¬ c = 0 := by
  unfold vaO at h
  split at h
  · split at h
    · rename_i hv
      rcases hv with rfl | rfl <;> decide
    · cases h
  · split at h
    · split at h
      · injection h with h
        have hp := prs_bd v
        rw [← h]
        exact sh_zero hp.1 hp.2
      · cases h
    · split at h
      · rename_i hv
        intro c hc
        have := hv.1 c hc
        omega
      · cases h
theorem va_fsize {k : Nat} {v s : ByteArray} (h : vaO k v = some s) : s.size ≤ 128 := by
  unfold vaO at h
  split at h
  · split at h
    · rename_i hv
      injection h with h
      subst h
      rcases hv with rfl | rfl <;> decide
    · cases h
  · split at h
    · split at h
      · injection h with h
        rw [← h]
        have := sh_size (prs (L v) 10).1 10
        omega
      · cases h
    · split at h
      · rename_i hv
        injection h with h
        subst h
        exact hv.2
      · cases h
theorem va_mem : ∀ {l : List Stt} {last : Int}, -1 ≤ last → vaG last l = true → ∀ p ∈ l, 0 ≤ vaF p.1 ∧ vaO (vaF p.1).toNat p.2 = some p.2 ∧ ¬ p.2 = (vaT (vaF p.1).toNat).2.2
  | [], _, _, _, p, hp => by cases hp
  | (n, v) :: l, last, h0, h, p, hp => by
    simp only [vaG, Bool.and_eq_true, decide_eq_true_eq] at h
    obtain ⟨h1, h2, h3, h4⟩ := h
    rcases List.mem_cons.1 hp with rfl | hp
    · exact ⟨by simp only; omega, h2, h3⟩
    · exact va_mem (by omega) h4 p hp
theorem va_snoc : ∀ (l : List Stt) (last : Int) (n v : ByteArray), vaG last l = true → vaE last l < vaF n → vaO (vaF n).toNat v = some v → ¬ v = (vaT (vaF n).toNat).2.2 → vaG last (l ++ [(n, v)]) = true ∧ vaE last (l ++ [(n, v)]) = vaF n
  | [], last, n, v, h, h1, h2, h3 => by
    simp only [vaE] at h1
    simp [vaG, vaE, h1, h2, h3]
  | (m, u) :: l, last, n, v, h, h1, h2, h3 => by
    simp only [vaG, Bool.and_eq_true, decide_eq_true_eq] at h
    obtain ⟨g1, g2, g3, g4⟩ := h
    obtain ⟨e1, e2⟩ := va_snoc l (vaF m) n v g4 h1 h2 h3
    simp only [List.cons_append, vaG, vaE, Bool.and_eq_true, decide_eq_true_eq]
    exact ⟨⟨g1, g2, g3, e1⟩, e2⟩
/-- what is set is right -/
theorem va_pre (g : Nat → ByteArray) (hg : ∀ k, k < 9 → vaO k (g k) = some (g k)) : ∀ k, k ≤ 9 → vaG (-1) (vaP g k) = true ∧ vaE (-1) (vaP g k) < k
  | 0, _ => by simp [vaP, vaG, vaE]
  | k + 1, h => by
    obtain ⟨h1, h2⟩ := va_pre g hg k (by omega)
    simp only [vaP]
    split
    · rw [List.append_nil]
      exact ⟨h1, by omega⟩
    · rename_i hn
      have e := va_nm k (by omega)
      obtain ⟨e1, e2⟩ := va_snoc (vaP g k) (-1) (vaT k).1 (g k) h1 (by rw [e]; omega) (by rw [e]; exact hg k (by omega)) (by rw [e]; exact hn)
      exact ⟨e1, by rw [e2, e]; omega⟩
theorem va_len (g : Nat → ByteArray) : ∀ k, (vaP g k).length ≤ k
  | 0 => by simp [vaP]
  | k + 1 => by
    have := va_len g k
    simp only [vaP, List.length_append]
    split <;> simp <;> omega
theorem va_find (g : Nat → ByteArray) (j : Nat) (hj : j < 9) : ∀ k, k ≤ 9 → (vaP g k).find? (fun p => decide (p.1 = (vaT j).1)) = if j < k ∧ ¬ g j = (vaT j).2.2 then some ((vaT j).1, g j) else none
  | 0, _ => by simp [vaP]
  | k + 1, h => by
    have ih := va_find g j hj k (by omega)
    have hne : ¬ j = k → ¬ (vaT k).1 = (vaT j).1 := fun h1 h2 => h1 (by have := va_nm k (by omega); rw [h2, va_nm j hj] at this; omega)
    simp only [vaP, List.find?_append, ih]
    by_cases e : j = k
    · subst e
      rw [if_neg (by omega)]
      split
      · rename_i h1; rw [if_neg (fun z => z.2 h1)]; rfl
      · rename_i h1; rw [if_pos ⟨by omega, h1⟩]; simp
    · have h2 : (if g k = (vaT k).2.2 then ([] : List Stt) else [((vaT k).1, g k)]).find? (fun p => decide (p.1 = (vaT j).1)) = none := by
        split
        · rfl
        · simp [hne e]
      rw [h2, Option.or_none]
      by_cases c : j < k ∧ ¬ g j = (vaT j).2.2
      · rw [if_pos c, if_pos ⟨by omega, c.2⟩]
      · rw [if_neg c, if_neg (fun z => c ⟨by omega, z.2⟩)]
theorem va_got (g : Nat → ByteArray) (j : Nat) (hj : j < 9) : vaV (vaP g 9) (vaT j).1 = g j := by
  unfold vaV
  rw [va_find g j hj 9 (Nat.le_refl _)]
  by_cases h : g j = (vaT j).2.2
  · rw [if_neg (fun z => z.2 h)]
    simp only
    unfold vaD
    rw [va_nm j hj, if_neg (by omega)]
    simp only [Int.toNat_natCast]
    exact h.symm
  · rw [if_pos ⟨hj, h⟩]
theorem va_val {l : List Stt} (h : vaG (-1) l = true) (j : Nat) (hj : j < 9) : vaO j (vaV l (vaT j).1) = some (vaV l (vaT j).1) := by
  unfold vaV
  cases hf : l.find? (fun p => decide (p.1 = (vaT j).1)) with
  | none =>
    simp only
    unfold vaD
    rw [va_nm j hj, if_neg (by omega)]
    exact va_dflt j hj
  | some p =>
    have h1 := List.find?_some hf
    simp only [decide_eq_true_eq] at h1
    have h2 := va_mem (by decide) h p (List.mem_of_find?_eq_some hf)
    have h3 := h2.2.1
    rw [h1, va_nm j hj, Int.toNat_natCast] at h3
    exact h3
theorem va_ok {nm v : ByteArray} (h : (vaM nm v).2 = 0) : 0 ≤ vaF nm ∧ vaO (vaF nm).toNat v = some (vaM nm v).1 := by
  unfold vaM at h ⊢
  split at h
  · exact absurd h (by decide)
  · rename_i h0
    rw [if_neg h0]
    refine ⟨by omega, ?_⟩
    cases ho : vaO (vaF nm).toNat v with
    | none => rw [ho] at h; exact absurd h (by simp)
    | some s => rfl
/-- values by number behind a setting: each in its form -/
theorem va_set {l : List Stt} {nm v : ByteArray} (h : vaG (-1) l = true) (hm : (vaM nm v).2 = 0) : ∀ k, k < 9 → vaO k (vaU l nm (vaM nm v).1 k) = some (vaU l nm (vaM nm v).1 k) := by
  intro k hk
  obtain ⟨h0, h1⟩ := va_ok hm
  unfold vaU
  split
  · rename_i hn
    rw [va_hit hk hn, Int.toNat_natCast] at h1
    exact va_form h1
  · exact va_val h k hk
theorem va_right {l : List Stt} {nm v : ByteArray} (h : vaG (-1) l = true) (hm : (vaM nm v).2 = 0) : vaG (-1) (vaP (vaU l nm (vaM nm v).1) 9) = true := (va_pre _ (va_set h hm) 9 (Nat.le_refl _)).1

/-! bytes -/
theorem vaB_app (a b : List Stt) : vaB (a ++ b) = vaB a ++ vaB b := by simp [vaB]
theorem vaB_one (n v : ByteArray) : vaB [(n, v)] = L n ++ 61 :: (L v ++ [0]) := by simp [vaB]
theorem va_name : ∀ (a : List Int) (r cur : List Int) (out : List Stt), (∀ c ∈ a, ¬ c = 0 ∧ ¬ c = 61) → vaX (a ++ r) cur none out = vaX r (cur ++ a) none out
  | [], r, cur, out, h => by simp
  | c :: a, r, cur, out, h => by
    have hc := h c (by simp)
    have ih := va_name a r (cur ++ [c]) out (fun x hx => h x (by simp [hx]))
    simp only [List.cons_append, vaX, if_neg hc.1]
    rw [if_neg (fun z => hc.2 z.1), ih]
    simp
theorem va_text (e : Nat) : ∀ (a : List Int) (r cur : List Int) (out : List Stt), (∀ c ∈ a, ¬ c = 0) → vaX (a ++ r) cur (some e) out = vaX r (cur ++ a) (some e) out
  | [], r, cur, out, h => by simp
  | c :: a, r, cur, out, h => by
    have hc := h c (by simp)
    have ih := va_text e a r (cur ++ [c]) out (fun x hx => h x (by simp [hx]))
    simp only [List.cons_append, vaX, if_neg hc]
    rw [if_neg (fun z => by cases z.2), ih]
    simp
theorem va_rec (n v : ByteArray) (r : List Int) (out : List Stt) (hn : ∀ c ∈ L n, ¬ c = 0 ∧ ¬ c = 61) (hv : ∀ c ∈ L v, ¬ c = 0) : vaX ((L n ++ 61 :: (L v ++ [0])) ++ r) [] none out = vaX r [] none (out ++ [(n, v)]) := by
  rw [show (L n ++ 61 :: (L v ++ [0])) ++ r = L n ++ (61 :: (L v ++ (0 :: r))) by simp, va_name _ _ _ _ hn]
  rw [List.nil_append]
  have e1 : ∀ (r cur : List Int) (out : List Stt), vaX (61 :: r) cur none out = vaX r (cur ++ [61]) (some cur.length) out := fun r cur out => by simp [vaX]
  have e2 : ∀ (r cur : List Int) (e : Nat) (out : List Stt), vaX (0 :: r) cur (some e) out = vaX r [] none (out ++ [(strOfNums (cur.take e), strOfNums (cur.drop (e + 1)))]) := fun r cur e out => by simp [vaX]
  have f1 : strOfNums ((L n ++ [61] ++ L v).take (L n).length) = n := by
    rw [List.take_append_of_le_length (by simp), List.take_append_of_le_length (by simp), List.take_length]
    exact nums_LB n
  have f2 : strOfNums ((L n ++ [61] ++ L v).drop ((L n).length + 1)) = v := by
    rw [List.append_assoc, List.drop_append, List.drop_of_length_le (by simp), show (L n).length + 1 - (L n).length = 1 by omega]
    simp only [List.nil_append, List.singleton_append, List.drop_succ_cons, List.drop_zero]
    exact nums_LB v
  rw [e1, va_text _ _ _ _ _ hv, e2, f1, f2]
theorem va_back0 : ∀ (l : List Stt) (out : List Stt), (∀ p ∈ l, (∀ c ∈ L p.1, ¬ c = 0 ∧ ¬ c = 61) ∧ ∀ c ∈ L p.2, ¬ c = 0) → vaX (vaB l) [] none out = some (out ++ l)
  | [], out, h => by simp [vaB, vaX]
  | (n, v) :: l, out, h => by
    have h1 := h (n, v) (by simp)
    rw [show (n, v) :: l = [(n, v)] ++ l from rfl, vaB_app, vaB_one, va_rec n v _ _ h1.1 h1.2, va_back0 l _ (fun p hp => h p (by simp [hp]))]
    simp
/-- what was encoded is decoded the same -/
theorem va_back {l : List Stt} (h : vaG (-1) l = true) : vaDe (vaB l) = (l, 0) := by
  have h1 := va_back0 l [] (fun p hp => by
    obtain ⟨h2, h3, _⟩ := va_mem (by decide) h p hp
    obtain ⟨h4, h5⟩ := va_found h2
    refine ⟨?_, va_zero h3⟩
    have := va_clean _ h4
    rw [h5] at this
    exact this)
  unfold vaDe
  rw [h1, List.nil_append]
  simp only
  rw [if_pos h]
theorem va_again : ∀ (r cur : List Int) (eq : Option Nat) (out l : List Stt), bytesL r → bytesL cur → (∀ e, eq = some e → e < cur.length ∧ cur.getD e 0 = 61) → vaX r cur eq out = some l → vaB l = vaB out ++ cur ++ r
  | [], cur, eq, out, l, hr, hc, he, h => by
    simp only [vaX] at h
    split at h
    · rename_i h1; injection h with h; subst h h1; simp
    · cases h
  | b :: r, cur, eq, out, l, hr, hc, he, h => by
    simp only [vaX] at h
    split at h
    · rename_i hb
      subst hb
      cases eq with
      | none => simp at h
      | some e =>
        obtain ⟨h1, h2⟩ := he e rfl
        simp only at h
        rw [va_again r [] none _ l (fun x hx => hr x (by simp [hx])) (fun x hx => by cases hx) (fun e h => by cases h) h, vaB_app, vaB_one]
        have hd : cur = cur.take e ++ 61 :: cur.drop (e + 1) := by
          have h3 : cur.drop e = 61 :: cur.drop (e + 1) := by
            rw [List.drop_eq_getElem_cons h1]
            rw [List.getD_eq_getElem?_getD, List.getElem?_eq_getElem h1] at h2
            simp only [Option.getD_some] at h2
            rw [h2]
          rw [← h3, List.take_append_drop]
        have e1 : L (strOfNums (cur.take e)) = cur.take e := LB_nums _ (fun x hx => hc x (List.mem_of_mem_take hx))
        have e2 : L (strOfNums (cur.drop (e + 1))) = cur.drop (e + 1) := LB_nums _ (fun x hx => hc x (List.mem_of_mem_drop hx))
        rw [e1, e2]
        conv => rhs; rw [hd]
        simp
    · rename_i hb
      rw [va_again r (cur ++ [b]) _ out l (fun x hx => hr x (by simp [hx])) (fun x hx => by
        rcases List.mem_append.1 hx with hx | hx
        · exact hc x hx
        · rw [List.mem_singleton.1 hx]; exact hr b (by simp)) ?_ h]
      · simp
      · intro e h1
        split at h1
        · rename_i h2
          injection h1 with h1
          subst h1
          exact ⟨by simp, by simp [h2.1]⟩
        · obtain ⟨h3, h4⟩ := he e h1
          refine ⟨by simp; omega, ?_⟩
          rw [List.getD_eq_getElem?_getD, List.getElem?_append_left h3, ← List.getD_eq_getElem?_getD]
          exact h4
/-- what was decoded is encoded the same -/
theorem va_de {b : List Int} (hb : bytesL b) : (vaDe b).2 = 0 → vaG (-1) (vaDe b).1 = true ∧ vaB (vaDe b).1 = b := by
  unfold vaDe
  cases h : vaX b [] none [] with
  | none => intro h1; exact absurd h1 (by decide)
  | some l =>
    simp only
    split
    · rename_i hg
      intro _
      refine ⟨hg, ?_⟩
      have := va_again b [] none [] l hb (fun x hx => by cases hx) (fun e h => by cases h) h
      simpa [vaB] using this
    · intro h1; exact absurd h1 (by decide)
theorem va_den (b : List Int) : ¬ (vaDe b).2 = 0 → (vaDe b).1 = [] := by
  unfold vaDe
  cases h : vaX b [] none [] with
  | none => intro _; rfl
  | some l =>
    simp only
    split
    · intro h1; exact absurd rfl h1
    · intro _; rfl

/-
  A memory of bytes, as plain functions of lists. No Go text in sight.
-/
/-- a stretch lies in a memory of L bytes -/
def inF (L a n : Int) : Bool := decide (a ≤ L ∧ n ≤ L - a)
/-- what is wrong with a number's address and size -/
def wrongF (L a s : Int) : Int := if ¬ (s = 1 ∨ s = 2 ∨ s = 4) then 1 else if ¬ a % s = 0 then 8 else if inF L a s = false then 9 else 0
/-- bytes as a number, the highest first; a number as bytes -/
def beV (l : List Int) : Int := l.foldl (fun v b => v * 256 + b) 0
def beB : Nat → Int → List Int
  | 0, _ => []
  | n + 1, v => beB n (v / 256) ++ [v % 256]
def fetF (m : List Int) (a s : Int) : Int × Int := if wrongF m.length a s = 0 then (beV ((m.drop a.toNat).take s.toNat), 0) else (0, wrongF m.length a s)
def stoF (m : List Int) (a s v : Int) : List Int × Int := if wrongF m.length a s = 0 then (m.take a.toNat ++ beB s.toNat v ++ m.drop (a.toNat + s.toNat), 0) else ([], wrongF m.length a s)
def texF (m : List Int) (a n : Int) : List Int × Int := if inF m.length a n = true then ((m.drop a.toNat).take n.toNat, 0) else ([], 9)
def putF (m : List Int) (a : Int) (s : List Int) : List Int × Int := if inF m.length a s.length = true then (m.take a.toNat ++ s ++ m.drop (a.toNat + s.length), 0) else ([], 9)
def movF (m : List Int) (f t n : Int) : List Int × Int := if inF m.length f n = true ∧ inF m.length t n = true then putF m t ((m.drop f.toNat).take n.toNat) else ([], 9)
def filF (m : List Int) (a n v : Int) : List Int × Int := if inF m.length a n = true then (m.take a.toNat ++ List.replicate n.toNat (v % 256) ++ m.drop (a.toNat + n.toNat), 0) else ([], 9)
def cmpL : List Int → List Int → Int
  | x :: xs, y :: ys => if y < x then 1 else if x < y then 4294967295 else cmpL xs ys
  | _, _ => 0
def cmpF (m : List Int) (a b n : Int) : Int × Int := if inF m.length a n = true ∧ inF m.length b n = true then (cmpL ((m.drop a.toNat).take n.toNat) ((m.drop b.toNat).take n.toNat), 0) else (0, 9)
def allAt (L : Int) : Int := (L + 3) / 4 * 4
def allF (m : List Int) (n : Int) : List Int × Int × Int :=
  if (4096 : Int) < m.length then ([], 0, 10) else if 4096 - allAt m.length < n then ([], 0, 10) else (m ++ List.replicate (allAt m.length + n - m.length).toNat 0, allAt m.length, 0)

theorem wrong_ok {L a s : Int} (h : wrongF L a s = 0) : (s = 1 ∨ s = 2 ∨ s = 4) ∧ a % s = 0 ∧ a ≤ L ∧ s ≤ L - a := by
  unfold wrongF at h
  by_cases h1 : s = 1 ∨ s = 2 ∨ s = 4
  · rw [if_neg (fun h => h h1)] at h
    by_cases h2 : a % s = 0
    · rw [if_neg (fun h => h h2)] at h
      by_cases h3 : inF L a s = false
      · rw [if_pos h3] at h; omega
      · simp [inF] at h3
        exact ⟨h1, h2, h3.1, h3.2⟩
    · rw [if_pos h2] at h; omega
  · rw [if_pos h1] at h; omega
theorem bytes_take {xs : List Int} (h : bytesL xs) (n : Nat) : bytesL (xs.take n) := fun x hx => h x (List.mem_of_mem_take hx)
theorem bytes_drop {xs : List Int} (h : bytesL xs) (n : Nat) : bytesL (xs.drop n) := fun x hx => h x (List.mem_of_mem_drop hx)
theorem bytes_app {xs ys : List Int} (h : bytesL xs) (g : bytesL ys) : bytesL (xs ++ ys) := fun x hx => (List.mem_append.1 hx).elim (h x) (g x)
theorem beB_len : ∀ (n : Nat) (v : Int), (beB n v).length = n
  | 0, _ => rfl
  | n + 1, v => by simp [beB, beB_len n]
theorem beB_bytes : ∀ (n : Nat) (v : Int), bytesL (beB n v)
  | 0, _ => fun x hx => by simp [beB] at hx
  | n + 1, v => by
    intro x hx
    simp only [beB, List.mem_append, List.mem_singleton] at hx
    rcases hx with hx | rfl
    · exact beB_bytes n _ x hx
    · omega
theorem beV_snoc (l : List Int) (b : Int) : beV (l ++ [b]) = beV l * 256 + b := by simp [beV]
/-- there and back -/
theorem beV_beB : ∀ (n : Nat) (v : Int), beV (beB n v) = v % 256 ^ n
  | 0, v => by simp [beB, beV]
  | n + 1, v => by
    rw [beB, beV_snoc, beV_beB n]
    have e : (256 : Int) ^ (n + 1) = 256 * 256 ^ n := by rw [Int.pow_succ, Int.mul_comm]
    rw [e]
    have hk : (0 : Int) < 256 ^ n := Int.pow_pos (by omega)
    obtain ⟨k, hk2⟩ : ∃ k, (256 : Int) ^ n = k := ⟨_, rfl⟩
    rw [hk2] at hk ⊢
    have h1 := Int.emod_add_mul_ediv (v / 256) k
    have h2 := Int.emod_nonneg (v / 256) (show k ≠ 0 by omega)
    have h3 := Int.emod_lt_of_pos (v / 256) hk
    have hv : v = (v / 256 % k * 256 + v % 256) + 256 * k * (v / 256 / k) := by
      rw [Int.mul_assoc]
      omega
    have h4 : 0 ≤ v % 256 ∧ v % 256 < 256 := by omega
    obtain ⟨u, hu⟩ : ∃ u, v / 256 % k = u := ⟨_, rfl⟩
    obtain ⟨t, ht⟩ : ∃ t, v / 256 / k = t := ⟨_, rfl⟩
    obtain ⟨r, hr⟩ : ∃ r, v % 256 = r := ⟨_, rfl⟩
    rw [hu, ht, hr] at hv
    rw [hu] at h2 h3 ⊢
    rw [hr] at h4 ⊢
    rw [hv, Int.add_mul_emod_self_left, Int.emod_eq_of_lt (by omega) (by omega)]
theorem sto_bytes {m : List Int} (h : bytesL m) (a s v : Int) : bytesL (stoF m a s v).1 := by
  unfold stoF
  split
  · exact bytes_app (bytes_app (bytes_take h _) (beB_bytes _ _)) (bytes_drop h _)
  · intro x hx; simp at hx
theorem tex_bytes {m : List Int} (h : bytesL m) (a n : Int) : bytesL (texF m a n).1 := by
  unfold texF
  split
  · exact bytes_take (bytes_drop h _) _
  · intro x hx; simp at hx
theorem put_bytes {m s : List Int} (h : bytesL m) (g : bytesL s) (a : Int) : bytesL (putF m a s).1 := by
  unfold putF
  split
  · exact bytes_app (bytes_app (bytes_take h _) g) (bytes_drop h _)
  · intro x hx; simp at hx
theorem mov_bytes {m : List Int} (h : bytesL m) (f t n : Int) : bytesL (movF m f t n).1 := by
  unfold movF
  split
  · exact put_bytes h (bytes_take (bytes_drop h _) _) _
  · intro x hx; simp at hx
theorem fil_bytes {m : List Int} (h : bytesL m) (a n v : Int) : bytesL (filF m a n v).1 := by
  unfold filF
  split
  · refine bytes_app (bytes_app (bytes_take h _) ?_) (bytes_drop h _)
    intro x hx
    rw [List.mem_replicate] at hx
    omega
  · intro x hx; simp at hx
theorem all_bytes {m : List Int} (h : bytesL m) (n : Int) : bytesL (allF m n).1 := by
  unfold allF
  split
  · intro x hx; simp at hx
  · split
    · intro x hx; simp at hx
    · refine bytes_app h ?_
      intro x hx
      rw [List.mem_replicate] at hx
      omega

/-
  In, Same, Copy, wrong, Fetch, Text of the document's answer for a memory of bytes.
-/
theorem uB : Tryd.prog.underlying 22 = some (.slice (Tryd.prog.elem 22)) := by kernel_rfl
theorem eB : Tryd.prog.elem 22 = 5 := by kernel_rfl
theorem zB (w : World) : (sizeOf (Tryd.prog.elem 22)).run Tryd.prog w = .ok 1 w := by rw [eB]; exact Tryd.sizeOf5 w
theorem infoU8 : (Tryd.prog.info? 5).map (fun i => (i.zero, i.size, i.bytes)) = some (some (.int .u8 0), 1, 1) := by kernel_rfl
theorem rd_strT {w : World} {v : Value} {xs : List Int} (h : Rd .u8 w v xs) : (convert 22 9 v).run Tryd.prog w = .ok (.string (strOfNums xs)) w :=
  rd_str h Tryd.underlying22 Tryd.underlying5 Tryd.underlying9

theorem w_rcopy (v : Value) (xs : List Int) (w : World) (h : Rd .u8 w v xs) (hb : xs.length ≤ 140737488355328) :
    Calls Tryd.prog 47 #[v] w fun e w' => ∃ v', e = .returned v' ∧ w'.ownsRow w.heap.size 5 1 v' xs.length (xs.map (Value.int .u8)) ∧ Below w.heap.size w w' := by
  obtain ⟨i0, hi, hz0, hz1, hz2⟩ := info_parts infoU8
  go_enter Tryd.func47, Tryd.ntmps47
  go_wp2_with (at_builtin; refine wpList_append_rd (k := .u8) rfl _ _ 22 rfl w.heap.size 5 i0 1 Tryd.underlying22 hi hz0 hz1 hz2 (.slice none 0 0) [] rfl (World.ownsRow_nil _ _ _ _) v xs rfl h (by unfold maxLen; simp; omega) (by simpa using hb) (Nat.le_refl _) ?_; intro v' w1 hown hgr)
  go_ret
  exact ⟨v', rfl, by simpa using hown, below_grown (Below.refl _ _) hgr (fun k hk => by cases hk)⟩

/-
  Fetch and Text of the document's answer for a memory of bytes.
-/
/-- a byte of the memory: its address' rule, its cell, its bounds -/
theorem mem_at {w : World} {v : Value} {xs : List Int} (h : Rd .u8 w v xs) (hb : bytesL xs) (i : Int) (h0 : 0 ≤ i) (h1 : i < xs.length) :
    ∃ (ad : Addr) (b : Int), (∀ w', (Instr.indexAt 22 v (.int .i64 i)).run Tryd.prog w' = .ok (.pointer (some ad)) w') ∧ w.cell? ad = some (.int .u8 b) ∧ 0 ≤ b ∧ b < 256 ∧ xs.getD i.toNat 0 = b := by
  obtain ⟨ad, h2, h3⟩ := rd_idx h uB zB i h0 h1
  have hm : xs.getD i.toNat 0 ∈ xs := by
    rw [List.getD_eq_getElem?_getD, List.getElem?_eq_getElem (by omega)]
    simp
  exact ⟨ad, _, h2, h3, (hb _ hm).1, (hb _ hm).2, rfl⟩
theorem take_one (xs : List Int) (p : Nat) (h : p < xs.length) : (xs.drop p).take 1 = [xs.getD p 0] := by
  rw [List.drop_eq_getElem_cons h, List.getD_eq_getElem?_getD, List.getElem?_eq_getElem h]; rfl
theorem take_more (xs : List Int) (p n : Nat) (h : p < xs.length) : (xs.drop p).take (n + 1) = xs.getD p 0 :: (xs.drop (p + 1)).take n := by
  rw [List.drop_eq_getElem_cons h, List.getD_eq_getElem?_getD, List.getElem?_eq_getElem h]; rfl

end Go.Proofs.YtaiimfdcbdfbdabDoor
