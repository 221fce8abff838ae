/-
  Texts of one proof, laid one behind the other: Pgr Plc.
-/
import Derived.Test.YtfljcfpcokimcaaB23
import Derived.Lib.Bytealg
import Derived.Lib.Strings
namespace Go.Proofs.Ytfljcfpcokimcaa
open Go.ChangeShapes Go.WideShapes Go.ChangeAt Go.RowKit
set_option linter.unusedVariables false
set_option linter.unusedSimpArgs false

/-
  Going from parent to parent: as the package goes (as many steps as there are instances), and as the document's answer goes (17 steps). Lists alone.
-/
/-- an instance's parent, by its number -/
def parF9 (l : List Iz) (a : Int) : Int := (l.getD a.toNat (-1, -1, [], [])).2.1
/-- none, or one that isn't free -/
def noaF (l : List Iz) (p : Int) : Bool := decide (-1 ≤ p ∧ p < l.length) && (decide (p = -1) || decide (¬ (l.getD p.toNat (-1, -1, [], [])).1 = -1))
/-- going on for so many steps -/
def grF (l : List Iz) : Nat → Int → Bool
  | 0, a => false
  | f + 1, a => noaF l (parF9 l a) && (decide (parF9 l a = -1) || grF l f (parF9 l a))
/-- free, or an instance of a device whatever it stands on -/
def frI (x : Iz) : Bool := decide (x = (-1, -1, [], []))
def alI (t : List Nd) (x : Iz) : Bool := decide (0 ≤ x.1 ∧ x.1 < t.length) && (decide (x.2.2.2.length = (t.getD x.1.toNat ([], [], 0, [], [])).2.2.2.2.length) && (decide (x.2.2.1.length ≤ 256) && decide (¬ (47 : Int) ∈ x.2.2.1)))
def okZ9 (t : List Nd) (x : Iz) : Bool := frI x || alI t x
def paK (l : List Iz) (p : Int) : Bool := decide (p = -1) || alvF l p

theorem okI_parts (l : List Iz) (t : List Nd) (x : Iz) : okI l t x = (okZ9 t x && paK l x.2.1) := by
  unfold okI okZ9 paK frI alI
  by_cases h : x.1 = -1
  · rw [if_pos h]
    by_cases h2 : x = (-1, -1, [], [])
    · subst h2
      simp
    · have : ¬ (0 ≤ x.1 ∧ x.1 < t.length) := by omega
      simp [h2, this]
  · rw [if_neg h]
    have : ¬ x = (-1, -1, [], []) := fun e => h (by rw [e])
    simp [this, Bool.and_assoc]
theorem okZ9_node {t : List Nd} {x : Iz} (h : okZ9 t x = true) : x.1 = -1 ∧ x.2.1 = -1 ∨ 0 ≤ x.1 := by
  unfold okZ9 frI alI at h
  simp only [Bool.or_eq_true, decide_eq_true_eq, Bool.and_eq_true] at h
  rcases h with h | h
  · left
    rw [h]
    exact ⟨rfl, rfl⟩
  · right
    exact h.1.1
theorem noa_paK {l : List Iz} {t : List Nd} (h : l.all (okZ9 t) = true) (p : Int) : noaF l p = paK l p := by
  unfold noaF paK alvF
  by_cases h1 : p = -1
  · subst h1
    simp
    omega
  · by_cases h2 : 0 ≤ p ∧ p < l.length
    · have hl : p.toNat < l.length := by omega
      have hk := okZ9_node (List.all_eq_true.1 h _ (List.getElem_mem hl))
      rw [List.getD_eq_getElem?_getD, List.getElem?_eq_getElem hl]
      simp only [Option.getD_some]
      have e1 : decide (-1 ≤ p ∧ p < l.length) = true := by simp; omega
      have e2 : decide (0 ≤ p ∧ p < (l.length : Int)) = true := by simp; omega
      rw [e1, e2]
      simp only [Bool.true_and]
      congr 1
      rw [decide_eq_decide]
      omega
    · have e1 : decide (-1 ≤ p ∧ p < l.length) = false := by simp; omega
      have e2 : decide (0 ≤ p ∧ p < (l.length : Int)) = false := by simp; omega
      rw [e1, e2]
      simp [h1]
theorem chn_neg (l : List Iz) (k : Nat) (a : Int) (h : a < 0) : chnF l k a = true := by
  cases k <;> simp [chnF, h]
theorem chn_more (l : List Iz) : ∀ (k : Nat) (a : Int), chnF l k a = true → chnF l (k + 1) a = true
  | 0, a, h => by
    have : a < 0 := by simpa [chnF] using h
    exact chn_neg l 1 a this
  | k + 1, a, h => by
    rw [chnF, Bool.or_eq_true] at h ⊢
    rcases h with h | h
    · exact Or.inl h
    · exact Or.inr (chn_more l k _ h)
theorem chn_le (l : List Iz) (k m : Nat) (a : Int) (hkm : k ≤ m) (h : chnF l k a = true) : chnF l m a = true := by
  obtain ⟨d, rfl⟩ := Nat.exists_eq_add_of_le hkm
  induction d with
  | zero => exact h
  | succ d ih => exact chn_more l (k + d) a (ih (by omega))
theorem gr_chn (l : List Iz) : ∀ (f : Nat) (a : Int), grF l (f + 1) a = true → chnF l f (parF9 l a) = true
  | 0, a, h => by
    simp only [grF, Bool.and_eq_true, Bool.or_eq_true, decide_eq_true_eq] at h
    rcases h.2 with h | h
    · rw [h]
      rfl
    · cases h
  | f + 1, a, h => by
    rw [grF, Bool.and_eq_true, Bool.or_eq_true, decide_eq_true_eq] at h
    rcases h.2 with h | h
    · rw [h]
      exact chn_neg _ _ _ (by omega)
    · rw [chnF, Bool.or_eq_true]
      exact Or.inr (gr_chn l f _ h)
theorem gr_noa {l : List Iz} {f : Nat} {a : Int} (h : grF l (f + 1) a = true) : noaF l (parF9 l a) = true := by
  rw [grF, Bool.and_eq_true] at h
  exact h.1
theorem chn_gr {l : List Iz} (hp : ∀ a : Int, 0 ≤ a → a < l.length → noaF l (parF9 l a) = true) : ∀ (f : Nat) (a : Int), 0 ≤ a → a < l.length → chnF l f (parF9 l a) = true → grF l (f + 1) a = true
  | 0, a, h0, h1, h => by
    have hn := hp a h0 h1
    have hn2 := hn
    simp only [noaF, Bool.and_eq_true, decide_eq_true_eq] at hn2
    have : parF9 l a < 0 := by simpa [chnF] using h
    rw [grF, hn, decide_eq_true (show parF9 l a = -1 by omega)]
    rfl
  | f + 1, a, h0, h1, h => by
    have hn := hp a h0 h1
    have hn2 := hn
    simp only [noaF, Bool.and_eq_true, decide_eq_true_eq] at hn2
    rw [grF, hn, Bool.true_and, Bool.or_eq_true, decide_eq_true_eq]
    rw [chnF, Bool.or_eq_true, decide_eq_true_eq] at h
    by_cases hm : parF9 l a = -1
    · exact Or.inl hm
    · right
      rcases h with h | h
      · omega
      · exact chn_gr hp f _ (by omega) (by omega) h
theorem cnt_lt {α : Type} (p q : α → Bool) : ∀ (l : List α), (∀ x ∈ l, p x = true → q x = true) → (∃ x ∈ l, q x = true ∧ p x = false) → l.countP p < l.countP q
  | [], _, h => by
    obtain ⟨x, hx, _⟩ := h
    cases hx
  | y :: l, hs, h => by
    have hle : l.countP p ≤ l.countP q := List.countP_mono_left (fun x hx hp => hs x (by simp [hx]) hp)
    by_cases hy : q y = true ∧ p y = false
    · rw [List.countP_cons, List.countP_cons, hy.1, hy.2]
      simp
      omega
    · have hy2 := hs y (by simp)
      obtain ⟨x, hx, hx1, hx2⟩ := h
      rcases List.mem_cons.1 hx with rfl | hx
      · exact absurd ⟨hx1, hx2⟩ hy
      · have := cnt_lt p q l (fun x hx hp => hs x (by simp [hx]) hp) ⟨x, hx, hx1, hx2⟩
        rw [List.countP_cons, List.countP_cons]
        have he : p y = q y := by
          cases h1 : p y <;> cases h2 : q y <;> simp_all
        rw [he]
        omega
/-- as many steps as there are instances are enough -/
theorem chn_stable {l : List Iz} (hp : ∀ a : Int, 0 ≤ a → a < l.length → -1 ≤ parF9 l a ∧ parF9 l a < l.length) (k : Nat) (hs : ∀ a : Int, 0 ≤ a → a < l.length → chnF l (k + 1) a = chnF l k a) : ∀ (d : Nat) (a : Int), 0 ≤ a → a < l.length → chnF l (k + d) a = chnF l k a
  | 0, a, h0, h1 => rfl
  | d + 1, a, h0, h1 => by
    rw [← hs a h0 h1, ← Nat.add_assoc]
    rw [chnF, chnF]
    have hq := hp a h0 h1
    congr 1
    show chnF l (k + d) (parF9 l a) = chnF l k (parF9 l a)
    by_cases hn : parF9 l a < 0
    · rw [chn_neg _ _ _ hn, chn_neg _ _ _ hn]
    · exact chn_stable hp k hs d _ (by omega) hq.2
theorem chn_count {l : List Iz} (hp : ∀ a : Int, 0 ≤ a → a < l.length → -1 ≤ parF9 l a ∧ parF9 l a < l.length) : ∀ k : Nat, k ≤ (List.range l.length).countP (fun (j : Nat) => chnF l k (j : Int)) ∨ ∀ a : Int, 0 ≤ a → a < l.length → chnF l (k + 1) a = chnF l k a
  | 0 => Or.inl (Nat.zero_le _)
  | k + 1 => by
    by_cases hs : ∀ a : Int, 0 ≤ a → a < l.length → chnF l (k + 1) a = chnF l k a
    · right
      intro a h0 h1
      have e1 := chn_stable hp k hs 2 a h0 h1
      have e2 := chn_stable hp k hs 1 a h0 h1
      rw [show k + 1 + 1 = k + 2 by omega, e1, e2]
    · rcases chn_count hp k with h | h
      · left
        have hex : ∃ a : Int, (0 ≤ a ∧ a < l.length) ∧ ¬ chnF l (k + 1) a = chnF l k a := by
          apply Classical.byContradiction
          intro hn
          apply hs
          intro a h0 h1
          apply Classical.byContradiction
          intro hne
          exact hn ⟨a, ⟨h0, h1⟩, hne⟩
        obtain ⟨a, ⟨h0, h1⟩, hne⟩ := hex
        have hf : chnF l k a = false := by
          cases hc : chnF l k a
          · rfl
          · rw [hc, chn_more l k a hc] at hne
            exact absurd rfl hne
        have ht : chnF l (k + 1) a = true := by
          rw [hf] at hne
          simpa using hne
        have := cnt_lt (fun (j : Nat) => chnF l k (j : Int)) (fun (j : Nat) => chnF l (k + 1) (j : Int)) (List.range l.length) (fun x _ hx => chn_more l k _ hx) ⟨a.toNat, by simp; omega, by
          have e : ((a.toNat : Nat) : Int) = a := by omega
          simp only [e]
          exact ⟨ht, hf⟩⟩
        omega
      · exact absurd h hs
theorem chn_enough {l : List Iz} (hp : ∀ a : Int, 0 ≤ a → a < l.length → -1 ≤ parF9 l a ∧ parF9 l a < l.length) (K : Nat) (a : Int) (h0 : 0 ≤ a) (h1 : a < l.length) (h : chnF l K a = true) : chnF l l.length a = true := by
  by_cases hK : K ≤ l.length
  · exact chn_le l K l.length a hK h
  · rcases chn_count hp l.length with hc | hs
    · have hle := List.countP_le_length (p := fun (j : Nat) => chnF l l.length (j : Int)) (l := List.range l.length)
      rw [List.length_range] at hle
      have he : (List.range l.length).countP (fun (j : Nat) => chnF l l.length (j : Int)) = (List.range l.length).length := by rw [List.length_range]; omega
      have := List.countP_eq_length.1 he a.toNat (by simp; omega)
      have e : ((a.toNat : Nat) : Int) = a := by omega
      simpa only [e] using this
    · obtain ⟨d, rfl⟩ := Nat.exists_eq_add_of_le (show l.length ≤ K by omega)
      rw [chn_stable hp l.length hs d a h0 h1] at h
      exact h
/-- all instances, as the package asks -/
def inpF (l : List Iz) (t : List Nd) : Bool := decide (l.length ≤ 16) && (l.all (okZ9 t) && (List.range l.length).all (fun (j : Nat) => grF l l.length (j : Int)))
theorem insF_as (l : List Iz) (t : List Nd) : insF l t = inpF l t := by
  unfold insF inpF
  by_cases hl : l.length ≤ 16
  · rw [decide_eq_true hl, Bool.true_and, Bool.true_and]
    cases hA : l.all (okZ9 t)
    · rw [Bool.false_and]
      rw [List.all_eq_false] at hA
      obtain ⟨x, hx, hx2⟩ := hA
      have : l.all (okI l t) = false := by
        rw [List.all_eq_false]
        refine ⟨x, hx, ?_⟩
        rw [okI_parts]
        simp at hx2
        simp [hx2]
      rw [this, Bool.false_and]
    · rw [Bool.true_and, Bool.eq_iff_iff]
      have par_at : ∀ (j : Nat) (hj : j < l.length), parF9 l (j : Int) = l[j].2.1 := by
        intro j hj
        unfold parF9
        rw [Int.toNat_natCast, List.getD_eq_getElem?_getD, List.getElem?_eq_getElem hj]
        rfl
      constructor
      · intro h
        rw [Bool.and_eq_true, List.all_eq_true, List.all_eq_true] at h
        have hpn : ∀ a : Int, 0 ≤ a → a < l.length → noaF l (parF9 l a) = true := by
          intro a h0 h1
          have hj : a.toNat < l.length := by omega
          have e : a = ((a.toNat : Nat) : Int) := by omega
          rw [e, par_at _ hj, noa_paK hA]
          have := h.1 _ (List.getElem_mem hj)
          rw [okI_parts, Bool.and_eq_true] at this
          exact this.2
        have hpr : ∀ a : Int, 0 ≤ a → a < l.length → -1 ≤ parF9 l a ∧ parF9 l a < l.length := by
          intro a h0 h1
          have := hpn a h0 h1
          simp only [noaF, Bool.and_eq_true, decide_eq_true_eq] at this
          exact this.1
        rw [List.all_eq_true]
        intro j hj
        rw [List.mem_range] at hj
        have hc := h.2 _ (List.getElem_mem hj)
        rw [← par_at j hj] at hc
        have hc2 : chnF l 18 (j : Int) = true := by
          rw [chnF, Bool.or_eq_true]
          exact Or.inr hc
        have hc3 := chn_enough hpr 18 (j : Int) (by omega) (by omega) hc2
        obtain ⟨n, hn⟩ : ∃ n, l.length = n + 1 := ⟨l.length - 1, by omega⟩
        have hg := chn_gr hpn n (j : Int) (by omega) (by omega) (by
          rw [hn, chnF, Bool.or_eq_true, decide_eq_true_eq] at hc3
          rcases hc3 with hc3 | hc3
          · omega
          · exact hc3)
        rw [hn]
        exact hg
      · intro h
        rw [List.all_eq_true] at h
        rw [Bool.and_eq_true, List.all_eq_true, List.all_eq_true]
        constructor
        · intro x hx
          obtain ⟨j, hj, rfl⟩ := List.getElem_of_mem hx
          have hg := h j (List.mem_range.2 hj)
          obtain ⟨n, hn⟩ : ∃ n, l.length = n + 1 := ⟨l.length - 1, by omega⟩
          rw [hn] at hg
          have := gr_noa hg
          rw [par_at j hj, noa_paK hA] at this
          rw [okI_parts, this, List.all_eq_true.1 hA _ (List.getElem_mem hj)]
          rfl
        · intro x hx
          obtain ⟨j, hj, rfl⟩ := List.getElem_of_mem hx
          have hg := h j (List.mem_range.2 hj)
          obtain ⟨n, hn⟩ : ∃ n, l.length = n + 1 := ⟨l.length - 1, by omega⟩
          rw [hn] at hg
          have := gr_chn l n _ hg
          rw [par_at j hj] at this
          exact chn_le l n 17 _ (by omega) this
  · rw [decide_eq_false hl, Bool.false_and, Bool.false_and]

/-
  The library's functions of texts that package path leans on, as plain functions of lists of numbers: Index, Contains, Cut, HasPrefix, CutPrefix at one byte, LastIndex and Count of a slash.
-/
/-- what Cut at the byte c answers -/
def CutB (c : Int) (l : List Int) (A B : ByteArray) (f : Bool) : Prop := (f = false ∧ L A = l ∧ L B = [] ∧ ∀ x ∈ l, ¬ x = c) ∨ (f = true ∧ l = L A ++ c :: L B ∧ ∀ x ∈ L A, ¬ x = c)

set_option maxHeartbeats 1000000 in
set_option maxRecDepth 100000 in
theorem w_slix47 (s : ByteArray) (w : World) :
    Calls Try.prog 102 #[.string s, .string ⟨#[47]⟩] w fun e w' => ∃ i, e = .returned (.int .i64 i) ∧ AtB (L s) 47 i ∧ w' = w := by
  go_enter Try.func102, Try.ntmps102
  go_wp2_with (go_at_call 103; refine (w_slib s 47 _ (by decide) (by decide)).mono ?_; rintro e w1 ⟨i, rfl, hi, rfl⟩)
  · have h : ([47] == s.toList) = true := by assumption
    go_ret
    have e : s.data.toList = [47] := by rw [← ByteArray.toList_eq]; exact (beq_iff_eq.1 h).symm
    refine ⟨_, rfl, Or.inr ⟨0, rfl, ?_, ?_, fun x hx => by simp at hx⟩, rfl⟩
    · simp [L, e]
    · simp [L, e]
  · go_ret
    exact ⟨i, rfl, hi, rfl⟩

set_option maxHeartbeats 1000000 in
set_option maxRecDepth 100000 in
theorem w_six47 (s : ByteArray) (w : World) :
    Calls Try.prog 100 #[.string s, .string ⟨#[47]⟩] w fun e w' => ∃ i, e = .returned (.int .i64 i) ∧ AtB (L s) 47 i ∧ w' = w := by
  go_enter Try.func100, Try.ntmps100
  go_wp2_with (go_at_call 102; refine (w_slix47 s _).mono ?_; rintro e w1 ⟨i, rfl, hi, rfl⟩)
  go_ret
  exact ⟨i, rfl, hi, rfl⟩

set_option maxHeartbeats 1000000 in
set_option maxRecDepth 100000 in
theorem w_slix58 (s : ByteArray) (w : World) :
    Calls Try.prog 102 #[.string s, .string ⟨#[58]⟩] w fun e w' => ∃ i, e = .returned (.int .i64 i) ∧ AtB (L s) 58 i ∧ w' = w := by
  go_enter Try.func102, Try.ntmps102
  go_wp2_with (go_at_call 103; refine (w_slib s 58 _ (by decide) (by decide)).mono ?_; rintro e w1 ⟨i, rfl, hi, rfl⟩)
  · have h : ([58] == s.toList) = true := by assumption
    go_ret
    have e : s.data.toList = [58] := by rw [← ByteArray.toList_eq]; exact (beq_iff_eq.1 h).symm
    refine ⟨_, rfl, Or.inr ⟨0, rfl, ?_, ?_, fun x hx => by simp at hx⟩, rfl⟩
    · simp [L, e]
    · simp [L, e]
  · go_ret
    exact ⟨i, rfl, hi, rfl⟩

set_option maxHeartbeats 1000000 in
set_option maxRecDepth 100000 in
theorem w_six58 (s : ByteArray) (w : World) :
    Calls Try.prog 100 #[.string s, .string ⟨#[58]⟩] w fun e w' => ∃ i, e = .returned (.int .i64 i) ∧ AtB (L s) 58 i ∧ w' = w := by
  go_enter Try.func100, Try.ntmps100
  go_wp2_with (go_at_call 102; refine (w_slix58 s _).mono ?_; rintro e w1 ⟨i, rfl, hi, rfl⟩)
  go_ret
  exact ⟨i, rfl, hi, rfl⟩

set_option maxHeartbeats 1000000 in
set_option maxRecDepth 100000 in
theorem w_slix64 (s : ByteArray) (w : World) :
    Calls Try.prog 102 #[.string s, .string ⟨#[64]⟩] w fun e w' => ∃ i, e = .returned (.int .i64 i) ∧ AtB (L s) 64 i ∧ w' = w := by
  go_enter Try.func102, Try.ntmps102
  go_wp2_with (go_at_call 103; refine (w_slib s 64 _ (by decide) (by decide)).mono ?_; rintro e w1 ⟨i, rfl, hi, rfl⟩)
  · have h : ([64] == s.toList) = true := by assumption
    go_ret
    have e : s.data.toList = [64] := by rw [← ByteArray.toList_eq]; exact (beq_iff_eq.1 h).symm
    refine ⟨_, rfl, Or.inr ⟨0, rfl, ?_, ?_, fun x hx => by simp at hx⟩, rfl⟩
    · simp [L, e]
    · simp [L, e]
  · go_ret
    exact ⟨i, rfl, hi, rfl⟩

set_option maxHeartbeats 1000000 in
set_option maxRecDepth 100000 in
theorem w_six64 (s : ByteArray) (w : World) :
    Calls Try.prog 100 #[.string s, .string ⟨#[64]⟩] w fun e w' => ∃ i, e = .returned (.int .i64 i) ∧ AtB (L s) 64 i ∧ w' = w := by
  go_enter Try.func100, Try.ntmps100
  go_wp2_with (go_at_call 102; refine (w_slix64 s _).mono ?_; rintro e w1 ⟨i, rfl, hi, rfl⟩)
  go_ret
  exact ⟨i, rfl, hi, rfl⟩

theorem first_is47 (s : ByteArray) (h : 1 ≤ s.size) : ((s.extract 0 1).toList == [47]) = decide ((L s).head? = some 47) := by
  rw [Bool.eq_iff_iff, beq_iff_eq, decide_eq_true_iff]
  rw [ByteArray.toList_eq, ByteArray.data_extract, Array.toList_extract]
  unfold L
  cases hd : s.data.toList with
  | nil => have := Lib.size_eq s; rw [hd, List.length_nil] at this; omega
  | cons a t =>
    simp only [List.extract_eq_take_drop, List.drop_zero, List.map_cons, List.head?_cons, Option.some.injEq]
    simp only [List.take_succ_cons, List.take_zero, List.cons.injEq, and_true]
    constructor
    · rintro rfl; rfl
    · intro h
      exact UInt8.toNat_inj.1 (by
        have : ((47 : UInt8).toNat : Int) = 47 := by decide
        omega)

theorem first_is58 (s : ByteArray) (h : 1 ≤ s.size) : ((s.extract 0 1).toList == [58]) = decide ((L s).head? = some 58) := by
  rw [Bool.eq_iff_iff, beq_iff_eq, decide_eq_true_iff]
  rw [ByteArray.toList_eq, ByteArray.data_extract, Array.toList_extract]
  unfold L
  cases hd : s.data.toList with
  | nil => have := Lib.size_eq s; rw [hd, List.length_nil] at this; omega
  | cons a t =>
    simp only [List.extract_eq_take_drop, List.drop_zero, List.map_cons, List.head?_cons, Option.some.injEq]
    simp only [List.take_succ_cons, List.take_zero, List.cons.injEq, and_true]
    constructor
    · rintro rfl; rfl
    · intro h
      exact UInt8.toNat_inj.1 (by
        have : ((58 : UInt8).toNat : Int) = 58 := by decide
        omega)

set_option maxHeartbeats 1000000 in
set_option maxRecDepth 100000 in
theorem w_cont47 (s : ByteArray) (w : World) :
    Calls Try.prog 92 #[.string s, .string ⟨#[47]⟩] w fun e w' => e = .returned (.bool (!((L s).all (fun c => decide (¬ c = 47))))) ∧ w' = w := by
  go_enter Try.func92, Try.ntmps92
  go_wp2_with (go_at_call 100; refine (w_six47 s _).mono ?_; rintro e w1 ⟨i, rfl, hi, rfl⟩)
  go_ret
  refine ⟨?_, rfl⟩
  rcases hi with ⟨rfl, h2⟩ | ⟨k, rfl, h2, h3, h4⟩
  · have : (L s).all (fun c => decide (¬ c = 47)) = true := List.all_eq_true.2 fun x hx => decide_eq_true (h2 x hx)
    rw [this]; rfl
  · have : (L s).all (fun c => decide (¬ c = 47)) = false := by
      rw [h3]; simp
    rw [this]
    have : decide ((k : Int) ≥ 0) = true := decide_eq_true (by omega)
    first | rw [this]; rfl | simp

/-- where c stands last: -1, or the place -/
def LastB (l : List Int) (c i : Int) : Prop := (i = -1 ∧ ∀ x ∈ l, ¬ x = c) ∨ ∃ k : Nat, i = k ∧ k < l.length ∧ l = l.take k ++ c :: l.drop (k + 1) ∧ ∀ x ∈ l.drop (k + 1), ¬ x = c

end Go.Proofs.Ytfljcfpcokimcaa
