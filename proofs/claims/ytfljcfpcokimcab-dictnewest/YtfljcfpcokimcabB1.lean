/-
  Texts of one proof, laid one behind the other: Ppa Pt1 Sg St Sd.
-/
import Derived.Test.YtfljcfpcokimcabB0
import Derived.ChangeArms
import Derived.Deep.RegionLaw
namespace Go.Proofs.Ytfljcfpcokimcab
open Go.ChangeShapes Go.WideShapes Go.ChangeAt Go.RowKit
set_option linter.unusedVariables false
set_option linter.unusedSimpArgs false

/-
  Paths of devices, as plain functions of lists of bytes: parsed, shown, and that each undoes the other. No Go text in sight.
-/
/-- a step: its name, its unit address, its arguments -/
abbrev Sp := List Int × List Int × List Int
/-- what stands ahead of the first c -/
def upTo (c : Int) : List Int → List Int
  | [] => []
  | x :: l => if x = c then [] else x :: upTo c l
theorem upTo_len (c : Int) (l : List Int) : (upTo c l).length ≤ l.length := by
  induction l with
  | nil => simp [upTo]
  | cons x l ih => simp only [upTo]; split <;> simp; omega
theorem upTo_take (c : Int) (l : List Int) : l.take (upTo c l).length = upTo c l := by
  induction l with
  | nil => simp [upTo]
  | cons x l ih => simp only [upTo]; split <;> simp [ih]
theorem upTo_free (c : Int) (l : List Int) : ∀ x ∈ upTo c l, ¬ x = c := by
  induction l with
  | nil => simp [upTo]
  | cons x l ih =>
    simp only [upTo]
    split
    · simp
    · rename_i h
      intro y hy
      simp at hy
      rcases hy with rfl | hy
      · exact h
      · exact ih y hy
theorem upTo_mem (c : Int) (l : List Int) : ∀ x ∈ upTo c l, x ∈ l := by
  intro x hx
  rw [← upTo_take c l] at hx
  exact List.mem_of_mem_take hx
theorem upTo_all (c : Int) (l : List Int) (h : ∀ x ∈ l, ¬ x = c) : upTo c l = l := by
  induction l with
  | nil => rfl
  | cons x l ih => rw [upTo, if_neg (h x (by simp)), ih (fun y hy => h y (by simp [hy]))]
theorem upTo_app (c : Int) (a b : List Int) (h : ∀ x ∈ a, ¬ x = c) : upTo c (a ++ c :: b) = a := by
  induction a with
  | nil => simp [upTo]
  | cons x a ih => rw [List.cons_append, upTo, if_neg (h x (by simp)), ih (fun y hy => h y (by simp [hy]))]
theorem upTo_split (c : Int) (l : List Int) (h : (upTo c l).length < l.length) : l = upTo c l ++ c :: l.drop ((upTo c l).length + 1) := by
  induction l with
  | nil => simp [upTo] at h
  | cons x l ih =>
    by_cases hx : x = c
    · subst hx; simp [upTo]
    · simp only [upTo, if_neg hx, List.length_cons] at h ⊢
      have := ih (by omega)
      simp only [List.cons_append, List.drop_succ_cons]
      rw [← this]

/-- a step's text parsed -/
def stepF (l : List Int) : Option Sp :=
  if (upTo 64 (upTo 58 l)).length < (upTo 58 l).length ∧ ¬ (punF ((upTo 58 l).drop ((upTo 64 (upTo 58 l)).length + 1))).2 = 0 then none
  else if nmF (upTo 64 (upTo 58 l)) = true then
    some (upTo 64 (upTo 58 l), if (upTo 64 (upTo 58 l)).length < (upTo 58 l).length then (punF ((upTo 58 l).drop ((upTo 64 (upTo 58 l)).length + 1))).1 else [], l.drop ((upTo 58 l).length + 1))
  else none
/-- all of them -/
def stepL : List (List Int) → Option (List Sp)
  | [] => some []
  | p :: r => match stepF p, stepL r with
    | some x, some l => some (x :: l)
    | _, _ => none
/-- what Parse answers -/
def parF (l : List Int) : List Sp × Int :=
  if 256 < l.length then ([], 3) else if l = [47] then ([], 0) else
  match l with
  | 47 :: r => (match stepL (spl 47 [] r) with
    | some x => (x, 0)
    | none => ([], 15))
  | _ => ([], 15)
/-- a step that can be shown, and its text -/
def okS (x : Sp) : Bool := nmF x.1 && (decide (x.2.1.length ≤ 4) && x.2.2.all (fun c => decide (¬ c = 47)))
def bodT (x : Sp) : List Int := x.1 ++ ((if x.2.1 = [] then [] else 64 :: shoF x.2.1) ++ (if x.2.2 = [] then [] else 58 :: x.2.2))
def shpT : List Sp → List Int
  | [] => []
  | x :: l => 47 :: (bodT x ++ shpT l)
/-- what Show answers -/
def shpF (l : List Sp) : List Int × Int := if l.all okS = false then ([], 1) else if l = [] then ([47], 0) else if 256 < (shpT l).length then ([], 3) else (shpT l, 0)

theorem nm_byte {l : List Int} (h : nmF l = true) : (∀ x ∈ l, ¬ x = 47 ∧ ¬ x = 58 ∧ ¬ x = 64) ∧ 1 ≤ l.length := by
  unfold nmF at h
  rw [Bool.and_eq_true, List.all_eq_true] at h
  refine ⟨fun x hx => ?_, ?_⟩
  · have := h.2 x hx
    unfold nmC at this
    simp at this
    omega
  · have := h.1
    simp at this
    omega
theorem sho_byte (l : List Int) (h : cells l) : ∀ x ∈ shoF l, ¬ x = 47 ∧ ¬ x = 58 ∧ ¬ x = 64 := by
  have key : ∀ l : List Int, cells l → ∀ x ∈ shoT l, ¬ x = 47 ∧ ¬ x = 58 ∧ ¬ x = 64 := by
    intro l
    induction l with
    | nil => intro _ x hx; simp [shoT] at hx
    | cons y l ih =>
      intro h x hx
      simp only [shoT, List.mem_cons, List.mem_append] at hx
      rcases hx with rfl | hx | hx
      · omega
      · have h2 := (sh_all 16 y (by omega) (by omega) (h y (by simp)).1 (h y (by simp)).2).1
        unfold allD at h2
        rw [List.all_eq_true] at h2
        have := h2 x hx
        unfold isD dv at this
        simp at this
        refine ⟨?_, ?_, ?_⟩ <;> (intro e; subst e; simp at this)
      · exact ih (fun z hz => h z (by simp [hz])) x hx
  exact fun x hx => key l h x (List.mem_of_mem_drop hx)
theorem ok_parts {x : Sp} (h : okS x = true) : nmF x.1 = true ∧ x.2.1.length ≤ 4 ∧ ∀ c ∈ x.2.2, ¬ c = 47 := by
  unfold okS at h
  rw [Bool.and_eq_true, Bool.and_eq_true, List.all_eq_true] at h
  refine ⟨h.1, by simpa using h.2.1, fun c hc => by simpa using h.2.2 c hc⟩
/-- a step that is shown is parsed as itself -/
theorem step_back (x : Sp) (h : okS x = true) (hc : cells x.2.1) : stepF (bodT x) = some x := by
  obtain ⟨hn, hu, ha⟩ := ok_parts h
  obtain ⟨nm, u, ar⟩ := x
  simp only at hn hu ha hc
  obtain ⟨hb, hl⟩ := nm_byte hn
  have hpre : upTo 58 (bodT (nm, u, ar)) = nm ++ (if u = [] then [] else 64 :: shoF u) ∧ (bodT (nm, u, ar)).drop ((nm ++ (if u = [] then [] else 64 :: shoF u)).length + 1) = ar := by
    have hfree : ∀ x ∈ nm ++ (if u = [] then [] else 64 :: shoF u), ¬ x = 58 := by
      intro x hx
      rcases List.mem_append.1 hx with hx | hx
      · exact (hb x hx).2.1
      · split at hx
        · simp at hx
        · simp only [List.mem_cons] at hx
          rcases hx with rfl | hx
          · omega
          · exact (sho_byte u hc x hx).2.1
    unfold bodT
    simp only
    by_cases har : ar = []
    · subst har
      simp only [if_true, List.append_nil]
      refine ⟨upTo_all 58 _ hfree, ?_⟩
      rw [List.drop_of_length_le (by omega)]
    · rw [if_neg har, ← List.append_assoc]
      refine ⟨upTo_app 58 _ ar hfree, ?_⟩
      rw [show (nm ++ if u = [] then [] else 64 :: shoF u) ++ 58 :: ar = ((nm ++ if u = [] then [] else 64 :: shoF u) ++ [58]) ++ ar by simp]
      rw [List.drop_left' (by simp; omega)]
  obtain ⟨hp1, hp2⟩ := hpre
  unfold stepF
  rw [hp1, hp2]
  by_cases hu0 : u = []
  · subst hu0
    simp only [if_true, List.append_nil]
    rw [upTo_all 64 nm (fun x hx => (hb x hx).2.2)]
    simp [hn]
  · simp only [if_neg hu0]
    rw [upTo_app 64 nm (shoF u) (fun x hx => (hb x hx).2.2)]
    have hd : (nm ++ 64 :: shoF u).drop (nm.length + 1) = shoF u := by
      rw [show nm ++ 64 :: shoF u = (nm ++ [64]) ++ shoF u by simp, List.drop_left' (by simp)]
    have hpb : punF (shoF u) = (u, 0) := by rw [pun_back u hc, if_neg hu0, if_neg (by omega)]
    rw [hd, hpb]
    simp [hn]
theorem bod_byte (x : Sp) (h : okS x = true) (hc : cells x.2.1) : ∀ c ∈ bodT x, ¬ c = 47 := by
  obtain ⟨hn, hu, ha⟩ := ok_parts h
  intro c hx
  unfold bodT at hx
  simp only [List.mem_append] at hx
  rcases hx with hx | hx | hx
  · exact ((nm_byte hn).1 c hx).1
  · split at hx
    · simp at hx
    · simp only [List.mem_cons] at hx
      rcases hx with rfl | hx
      · omega
      · exact (sho_byte _ hc c hx).1
  · split at hx
    · simp at hx
    · simp only [List.mem_cons] at hx
      rcases hx with rfl | hx
      · omega
      · exact ha c hx
theorem spl_shp (x : Sp) (l : List Sp) (h : ∀ y ∈ x :: l, okS y = true ∧ cells y.2.1) : spl 47 [] (bodT x ++ shpT l) = (x :: l).map bodT := by
  induction l generalizing x with
  | nil =>
    have h1 := h x (by simp)
    have := spl_skip 47 (bodT x) [] (bod_byte x h1.1 h1.2) []
    rw [List.nil_append] at this
    rw [shpT, this]
    rfl
  | cons y l ih =>
    have h1 := h x (by simp)
    rw [shpT, spl_skip 47 (bodT x) _ (bod_byte x h1.1 h1.2) [], List.nil_append, spl, if_pos rfl, ih y (fun z hz => h z (by simp at hz ⊢; exact Or.inr hz))]
    rfl
theorem stepL_back (l : List Sp) (h : ∀ y ∈ l, okS y = true ∧ cells y.2.1) : stepL (l.map bodT) = some l := by
  induction l with
  | nil => rfl
  | cons x l ih =>
    have h1 := h x (by simp)
    rw [List.map_cons, stepL, step_back x h1.1 h1.2, ih (fun z hz => h z (by simp [hz]))]
/-- a path that is shown is parsed as its steps -/
theorem par_back (l : List Sp) (h : l.all okS = true) (hc : ∀ x ∈ l, cells x.2.1) (hl : (shpT l).length ≤ 256) (hne : l ≠ []) : parF (shpT l) = (l, 0) := by
  cases l with
  | nil => exact absurd rfl hne
  | cons x l =>
    rw [List.all_eq_true] at h
    have hh : ∀ y ∈ x :: l, okS y = true ∧ cells y.2.1 := fun y hy => ⟨h y hy, hc y hy⟩
    have hn := (nm_byte (ok_parts (h x (by simp))).1).2
    unfold parF
    rw [if_neg (by omega), if_neg]
    · rw [shpT]
      simp only
      rw [spl_shp x l hh, stepL_back _ hh]
    · intro e
      have := congrArg List.length e
      simp only [shpT, bodT, List.length_cons, List.length_append, List.length_nil] at this
      omega
/-! what is parsed can be shown -/
theorem num_short (p : List Int) (hb : bytesL p) (h : pcOk p = true) : (sh 16 (num 16 p)).length ≤ p.length := by
  have hn := pc_num p hb h
  simp [pcOk] at h
  have h1 := num16_lt p hb h.2
  obtain ⟨k, hk⟩ : ∃ k, p.length = k + 1 := ⟨p.length - 1, by omega⟩
  rw [hk] at h1 ⊢
  exact shF_len16 32 k _ h1.1 h1.2
theorem pun_parts (l : List Int) (hb : bytesL l) (h : (punF l).2 = 0) : (spl 44 [] l).all pcOk = true ∧ (spl 44 [] l).length ≤ 4 ∧ (punF l).1 = (spl 44 [] l).map (num 16) := by
  unfold punF at h ⊢
  split at h
  · simp at h
  · rename_i h1
    split at h
    · simp at h
    · rename_i h2
      rw [if_neg h1, if_neg h2]
      exact ⟨by simpa using h1, by omega, rfl⟩
theorem spl_bytes (d : Int) : ∀ (l cur : List Int), bytesL l → bytesL cur → ∀ p ∈ spl d cur l, bytesL p
  | [], cur, _, h2, p, hp => by simp [spl] at hp; subst hp; exact h2
  | c :: r, cur, h1, h2, p, hp => by
    have hr : bytesL r := fun x hx => h1 x (by simp [hx])
    simp only [spl] at hp
    split at hp
    · simp only [List.mem_cons] at hp
      rcases hp with rfl | hp
      · exact h2
      · exact spl_bytes d r [] hr (fun x hx => by simp at hx) p hp
    · exact spl_bytes d r (cur ++ [c]) hr (fun x hx => by
        rcases List.mem_append.1 hx with hx | hx
        · exact h2 x hx
        · simp at hx; subst hx; exact h1 x (by simp)) p hp
theorem spl_free (d : Int) : ∀ (l cur : List Int), (∀ x ∈ cur, ¬ x = d) → ∀ p ∈ spl d cur l, ∀ x ∈ p, ¬ x = d
  | [], cur, h, p, hp => by simp [spl] at hp; subst hp; exact h
  | c :: r, cur, h, p, hp => by
    simp only [spl] at hp
    split at hp
    · simp only [List.mem_cons] at hp
      rcases hp with rfl | hp
      · exact h
      · exact spl_free d r [] (fun x hx => by simp at hx) p hp
    · rename_i hc
      exact spl_free d r (cur ++ [c]) (fun x hx => by
        rcases List.mem_append.1 hx with hx | hx
        · exact h x hx
        · simp at hx; subst hx; exact hc) p hp
/-- the letters of the pieces -/
def sumL : List (List Int) → Nat
  | [] => 0
  | p :: r => p.length + 1 + sumL r
theorem spl_sum (d : Int) : ∀ (l cur : List Int), sumL (spl d cur l) = cur.length + l.length + 1
  | [], cur => by simp [spl, sumL]
  | c :: r, cur => by
    simp only [spl]
    split
    · simp only [sumL, spl_sum d r [], List.length_nil, List.length_cons]; omega
    · rw [spl_sum d r (cur ++ [c])]; simp; omega
theorem sho_short : ∀ (ps : List (List Int)), (∀ p ∈ ps, bytesL p) → ps.all pcOk = true → (shoT (ps.map (num 16))).length ≤ sumL ps
  | [], _, _ => by simp [shoT, sumL]
  | p :: r, hb, h => by
    rw [List.all_cons, Bool.and_eq_true] at h
    have h1 := num_short p (hb p (by simp)) h.1
    have h2 := sho_short r (fun q hq => hb q (by simp [hq])) h.2
    simp only [List.map_cons, shoT, sumL, List.length_cons, List.length_append]
    omega
theorem pun_short (l : List Int) (hb : bytesL l) (h : (punF l).2 = 0) : cells (punF l).1 ∧ (punF l).1.length ≤ 4 ∧ (shoF (punF l).1).length ≤ l.length ∧ (punF l).1 ≠ [] := by
  obtain ⟨h1, h2, h3⟩ := pun_parts l hb h
  have hpb := spl_bytes 44 l [] hb (fun x hx => by simp at hx)
  have hs := spl_sum 44 l []
  have hsl := spl_len 44 l []
  rw [h3]
  refine ⟨?_, by simpa using h2, ?_, ?_⟩
  · intro x hx
    rw [List.mem_map] at hx
    obtain ⟨p, hp, rfl⟩ := hx
    rw [List.all_eq_true] at h1
    exact pc_num p (hpb p hp) (h1 p hp)
  · have := sho_short _ hpb h1
    unfold shoF
    rw [List.length_drop]
    simp at hs
    omega
  · intro e
    have := congrArg List.length e
    simp at this
    rw [this] at hsl
    simp at hsl
theorem step_ok7 (p : List Int) (x : Sp) (hb : bytesL p) (hf : ∀ c ∈ p, ¬ c = 47) (h : stepF p = some x) : okS x = true ∧ cells x.2.1 ∧ (bodT x).length ≤ p.length ∧ bytesL x.1 ∧ bytesL x.2.2 := by
  have hl1 := upTo_len 58 p
  have hl2 := upTo_len 64 (upTo 58 p)
  have hb1 : bytesL (upTo 58 p) := fun c hc => hb c (upTo_mem 58 p c hc)
  have hb2 : bytesL (upTo 64 (upTo 58 p)) := fun c hc => hb1 c (upTo_mem 64 _ c hc)
  have hb3 : bytesL (p.drop ((upTo 58 p).length + 1)) := fun c hc => hb c (List.mem_of_mem_drop hc)
  have hf3 : ∀ c ∈ p.drop ((upTo 58 p).length + 1), ¬ c = 47 := fun c hc => hf c (List.mem_of_mem_drop hc)
  have hl3 : (p.drop ((upTo 58 p).length + 1)).length = p.length - ((upTo 58 p).length + 1) := by simp
  unfold stepF at h
  split at h
  · cases h
  · rename_i h1
    split at h
    · rename_i h2
      have h := Option.some.inj h
      subst h
      by_cases hat : (upTo 64 (upTo 58 p)).length < (upTo 58 p).length
      · have hE : (punF ((upTo 58 p).drop ((upTo 64 (upTo 58 p)).length + 1))).2 = 0 := by
          by_cases e : (punF ((upTo 58 p).drop ((upTo 64 (upTo 58 p)).length + 1))).2 = 0
          · exact e
          · exact absurd ⟨hat, e⟩ h1
        obtain ⟨u1, u2, u3, u4⟩ := pun_short _ (fun c hc => hb1 c (List.mem_of_mem_drop hc)) hE
        have hl4 : ((upTo 58 p).drop ((upTo 64 (upTo 58 p)).length + 1)).length = (upTo 58 p).length - ((upTo 64 (upTo 58 p)).length + 1) := by simp
        refine ⟨?_, ?_, ?_, hb2, hb3⟩
        · unfold okS
          rw [Bool.and_eq_true, Bool.and_eq_true, List.all_eq_true]
          refine ⟨h2, ?_, fun c hc => by simpa using hf3 c hc⟩
          simp only [if_pos hat]
          simpa using u2
        · simp only [if_pos hat]; exact u1
        · unfold bodT
          simp only [if_pos hat, if_neg u4, List.length_append, List.length_cons]
          split
          · simp only [List.length_nil]; omega
          · rename_i hne
            have : 0 < (p.drop ((upTo 58 p).length + 1)).length := List.length_pos_iff.2 hne
            simp only [List.length_cons]
            omega
      · refine ⟨?_, ?_, ?_, hb2, hb3⟩
        · unfold okS
          rw [Bool.and_eq_true, Bool.and_eq_true, List.all_eq_true]
          refine ⟨h2, ?_, fun c hc => by simpa using hf3 c hc⟩
          simp only [if_neg hat]
          decide
        · simp only [if_neg hat]; intro c hc; simp at hc
        · unfold bodT
          simp only [if_neg hat, if_true, List.length_append, List.length_nil]
          split
          · simp only [List.length_nil]; omega
          · rename_i hne
            have : 0 < (p.drop ((upTo 58 p).length + 1)).length := List.length_pos_iff.2 hne
            simp only [List.length_cons]
            omega
    · cases h
theorem stepL_ok : ∀ (ps : List (List Int)) (l : List Sp), (∀ p ∈ ps, bytesL p ∧ ∀ c ∈ p, ¬ c = 47) → stepL ps = some l → (∀ x ∈ l, okS x = true ∧ cells x.2.1 ∧ bytesL x.1 ∧ bytesL x.2.2) ∧ (shpT l).length ≤ sumL ps ∧ l.length = ps.length
  | [], l, _, h => by simp [stepL] at h; subst h; simp [shpT, sumL]
  | p :: r, l, hp, h => by
    rw [stepL] at h
    split at h
    · rename_i x l' h1 h2
      have h := Option.some.inj h
      subst h
      have hx := step_ok7 p x (hp p (by simp)).1 (hp p (by simp)).2 h1
      obtain ⟨i1, i2, i3⟩ := stepL_ok r l' (fun q hq => hp q (by simp [hq])) h2
      refine ⟨fun y hy => ?_, ?_, by simp [i3]⟩
      · simp only [List.mem_cons] at hy
        rcases hy with rfl | hy
        · exact ⟨hx.1, hx.2.1, hx.2.2.2⟩
        · exact i1 y hy
      · have := hx.2.2.1
        simp only [shpT, sumL, List.length_cons, List.length_append]
        omega
    · cases h
/-- what is parsed is fit to be shown, and is no longer then -/
theorem par_ok (s : List Int) (hb : bytesL s) (h : (parF s).2 = 0) : (∀ x ∈ (parF s).1, okS x = true ∧ cells x.2.1 ∧ bytesL x.1 ∧ bytesL x.2.2) ∧ (shpT (parF s).1).length ≤ s.length ∧ s.length ≤ 256 ∧ ((parF s).1 = [] → s = [47]) := by
  unfold parF at h ⊢
  split at h
  · simp at h
  · rename_i h1
    rw [if_neg h1]
    split at h
    · rename_i h2
      rw [if_pos h2]
      exact ⟨fun x hx => by simp at hx, by simp [shpT], by omega, fun _ => h2⟩
    · rename_i h2
      rw [if_neg h2]
      split at h
      · rename_i r
        cases hs : stepL (spl 47 [] r) with
        | none => rw [hs] at h; simp at h
        | some l =>
          have hrb : bytesL r := fun x hx => hb x (by simp [hx])
          obtain ⟨i1, i2, i3⟩ := stepL_ok _ l (fun p hp => ⟨spl_bytes 47 r [] hrb (fun x hx => by simp at hx) p hp, spl_free 47 r [] (fun x hx => by simp at hx) p hp⟩) hs
          have hsm := spl_sum 47 r []
          have hsl := spl_len 47 r []
          simp only [hs]
          refine ⟨i1, ?_, by omega, fun e => ?_⟩
          · simp at hsm
            simp only [List.length_cons]
            omega
          · rw [e] at i3
            simp at i3
            omega
      · simp at h
theorem par_err (s : List Int) (h : (parF s).2 ≠ 0) : (parF s).1 = [] := by
  unfold parF at h ⊢
  split
  · rfl
  · rename_i h1
    rw [if_neg h1] at h
    split
    · rfl
    · rename_i h2
      rw [if_neg h2] at h
      split
      · rename_i r
        split
        · rename_i x hx
          simp [hx] at h
        · rfl
      · rfl
theorem par_long (s : List Int) : ((parF s).2 = 3) ↔ 256 < s.length := by
  unfold parF
  split
  · rename_i h; simp [h]
  · rename_i h
    constructor
    · intro e
      split at e
      · simp at e
      · split at e
        · split at e <;> simp at e
        · simp at e
    · intro e; exact absurd e h

/-
  The device tree as plain lists: when it is formed, and that adding a device, setting and dropping a property leave it formed. No Go text in sight.
-/
/-- a property: its name, its bytes -/
abbrev Pp := List Int × List Int
/-- a device: its name, its unit address, its parent, its properties, its cells -/
abbrev Nd := List Int × List Int × Int × List Pp × List Int
/-- the number of a property -/
def pfF (l : List Pp) (nm : List Int) : Option Nat := l.findIdx? (fun x => decide (x.1 = nm))
/-- such a child among these devices -/
def twF (t : List Nd) (p : Int) (nm un : List Int) : Bool := t.any (fun x => decide (x.2.2.1 = p) && (decide (x.1 = nm) && decide (x.2.1 = un)))
def okP (l : List Pp) (k : Nat) (x : Pp) : Bool := nmF x.1 && (decide (x.2.length ≤ 256) && (pfF (l.take k) x.1).isNone)
def okA (t : List Nd) (i : Nat) (x : Nd) : Bool := nmF x.1 && (decide (x.2.1.length ≤ 4) && (decide (0 ≤ x.2.2.1) && (decide (x.2.2.1 < i) && !twF (t.take i) x.2.2.1 x.1 x.2.1)))
/-- the properties are right -/
def okR (l : List Pp) : Bool := decide (∀ k (h : k < l.length), okP l k l[k] = true)
/-- the device x at place i is right -/
def okN (t : List Nd) (i : Nat) (x : Nd) : Bool := (decide (i = 0) || okA t i x) && (decide (x.2.2.2.1.length ≤ 16) && (decide (x.2.2.2.2.length ≤ 16) && okR x.2.2.2.1))
def rootF (x : Nd) : Bool := decide (x.1 = []) && (decide (x.2.1 = []) && decide (x.2.2.1 = -1))
/-- a formed tree -/
def frmT (t : List Nd) : Bool := decide (∃ h : 1 ≤ t.length, t.length ≤ 32 ∧ rootF t[0] = true ∧ ∀ i (h : i < t.length), okN t i t[i] = true)
theorem frm_iff (t : List Nd) : frmT t = true ↔ ∃ h : 1 ≤ t.length, t.length ≤ 32 ∧ rootF t[0] = true ∧ ∀ i (h : i < t.length), okN t i t[i] = true := by
  unfold frmT
  rw [decide_eq_true_eq]

/-! properties -/
theorem pf_some {l : List Pp} {nm : List Int} {k : Nat} (h : pfF l nm = some k) : ∃ g : k < l.length, l[k].1 = nm ∧ ∀ j (hj : j < k), ¬ (l[j]'(by omega)).1 = nm := by
  unfold pfF at h
  rw [List.findIdx?_eq_some_iff_getElem] at h
  obtain ⟨g, h1, h2⟩ := h
  exact ⟨g, by simpa using h1, fun j hj => by simpa using h2 j hj⟩
theorem pf_none {l : List Pp} {nm : List Int} : pfF l nm = none ↔ ∀ x ∈ l, ¬ x.1 = nm := by
  unfold pfF
  rw [List.findIdx?_eq_none_iff]
  simp
theorem pf_hit {l : List Pp} {nm : List Int} {k : Nat} (g : k < l.length) (h1 : l[k].1 = nm) (h2 : ∀ j (hj : j < k), ¬ (l[j]'(by omega)).1 = nm) : pfF l nm = some k := by
  unfold pfF
  rw [List.findIdx?_eq_some_iff_getElem]
  exact ⟨g, by simpa using h1, fun j hj => by simpa using h2 j hj⟩
/-- names are told apart -/
def apartN (l : List Pp) : Prop := ∀ i j (hi : i < l.length) (hj : j < l.length), i < j → ¬ l[i].1 = l[j].1
theorem okR_iff (l : List Pp) : okR l = true ↔ (∀ x ∈ l, nmF x.1 = true ∧ x.2.length ≤ 256) ∧ apartN l := by
  unfold okR
  rw [decide_eq_true_eq]
  constructor
  · intro h
    refine ⟨fun x hx => ?_, fun i j hi hj hij => ?_⟩
    · obtain ⟨k, hk, rfl⟩ := List.getElem_of_mem hx
      have := h k hk
      unfold okP at this
      simp only [Bool.and_eq_true, decide_eq_true_eq] at this
      exact ⟨this.1, this.2.1⟩
    · have := h j hj
      unfold okP at this
      simp only [Bool.and_eq_true, Option.isNone_iff_eq_none] at this
      have h3 := pf_none.1 this.2.2 l[i] (by rw [List.mem_take_iff_getElem]; exact ⟨i, by omega, rfl⟩)
      exact h3
  · rintro ⟨h1, h2⟩ k hk
    unfold okP
    have := h1 l[k] (List.getElem_mem hk)
    simp only [Bool.and_eq_true, Option.isNone_iff_eq_none, decide_eq_true_eq]
    refine ⟨this.1, this.2, pf_none.2 fun x hx => ?_⟩
    rw [List.mem_take_iff_getElem] at hx
    obtain ⟨i, hi, rfl⟩ := hx
    exact h2 i k (by omega) hk (by omega)
/-- a property set -/
def setP (l : List Pp) (nm d : List Int) : List Pp := match pfF l nm with
  | some k => l.set k (nm, d)
  | none => l ++ [(nm, d)]
/-- a property dropped -/
def drpP (l : List Pp) (k : Nat) : List Pp := l.take k ++ l.drop (k + 1)
theorem set_names (l : List Pp) (nm d : List Int) (k : Nat) (h : pfF l nm = some k) (i : Nat) (hi : i < (l.set k (nm, d)).length) : (l.set k (nm, d))[i].1 = (l[i]'(by simpa using hi)).1 := by
  obtain ⟨g, h1, _⟩ := pf_some h
  rw [List.getElem_set]
  split
  · rename_i e
    subst e
    exact h1.symm
  · rfl
theorem setP_ok (l : List Pp) (nm d : List Int) (h : okR l = true) (hn : nmF nm = true) (hd : d.length ≤ 256) : okR (setP l nm d) = true := by
  rw [okR_iff] at h ⊢
  obtain ⟨h1, h2⟩ := h
  unfold setP
  cases hp : pfF l nm with
  | some k =>
    refine ⟨fun x hx => ?_, fun i j hi hj hij => ?_⟩
    · rcases List.mem_or_eq_of_mem_set hx with hx | rfl
      · exact h1 x hx
      · exact ⟨hn, hd⟩
    · rw [set_names l nm d k hp i hi, set_names l nm d k hp j hj]
      exact h2 i j _ _ hij
  | none =>
    refine ⟨fun x hx => ?_, fun i j hi hj hij => ?_⟩
    · rcases List.mem_append.1 hx with hx | hx
      · exact h1 x hx
      · simp at hx; subst hx; exact ⟨hn, hd⟩
    · have hi2 : i < l.length := by simp at hj; omega
      rw [List.getElem_append_left hi2]
      by_cases hj2 : j < l.length
      · rw [List.getElem_append_left hj2]
        exact h2 i j hi2 hj2 hij
      · rw [List.getElem_append_right (by omega)]
        simp
        exact pf_none.1 hp _ (List.getElem_mem hi2)
theorem drp_get (l : List Pp) (k i : Nat) (hk : k < l.length) (hi : i < (drpP l k).length) : (drpP l k)[i] = l[if i < k then i else i + 1]'(by unfold drpP at hi; simp at hi; split <;> omega) := by
  unfold drpP at hi ⊢
  by_cases h : i < k
  · rw [List.getElem_append_left (by simp; omega)]
    simp [h]
  · rw [List.getElem_append_right (by simp; omega)]
    simp only [List.getElem_drop, List.length_take, if_neg h]
    congr 1
    omega
theorem drp_len (l : List Pp) (k : Nat) (hk : k < l.length) : (drpP l k).length = l.length - 1 := by unfold drpP; simp; omega
theorem drpP_ok (l : List Pp) (k : Nat) (h : okR l = true) (hk : k < l.length) : okR (drpP l k) = true := by
  rw [okR_iff] at h ⊢
  obtain ⟨h1, h2⟩ := h
  refine ⟨fun x hx => ?_, fun i j hi hj hij => ?_⟩
  · unfold drpP at hx
    rcases List.mem_append.1 hx with hx | hx
    · exact h1 x (List.mem_of_mem_take hx)
    · exact h1 x (List.mem_of_mem_drop hx)
  · rw [drp_get l k i hk hi, drp_get l k j hk hj]
    refine h2 _ _ _ _ ?_
    split <;> split <;> omega
theorem setP_len (l : List Pp) (nm d : List Int) (h : ¬ (pfF l nm = none ∧ 16 ≤ l.length)) (hl : l.length ≤ 16) : (setP l nm d).length ≤ 16 := by
  unfold setP
  cases hp : pfF l nm with
  | some k => simpa using hl
  | none =>
    have : ¬ 16 ≤ l.length := fun g => h ⟨hp, g⟩
    simp
    omega

/-! devices -/
/-- all but properties and cells -/
def keyN (x : Nd) : List Int × List Int × Int := (x.1, x.2.1, x.2.2.1)
theorem tw_key (t t' : List Nd) (h : t.map keyN = t'.map keyN) (p : Int) (nm un : List Int) : twF t p nm un = twF t' p nm un := by
  have e : ∀ t : List Nd, twF t p nm un = (t.map keyN).any (fun x => decide (x.2.2 = p) && (decide (x.1 = nm) && decide (x.2.1 = un))) := by
    intro t
    unfold twF
    rw [List.any_map]
    rfl
  rw [e, e, h]
theorem map_set_key (t : List Nd) (n : Nat) (x : Nd) (hn : n < t.length) (hk : keyN x = keyN t[n]) : (t.set n x).map keyN = t.map keyN := by
  rw [List.map_set, hk]
  apply List.ext_getElem
  · simp
  · intro i h1 h2
    rw [List.getElem_set]
    split
    · rename_i e
      subst e
      simp
    · rfl
theorem okA_key (t t' : List Nd) (h : t.map keyN = t'.map keyN) (i : Nat) (x x' : Nd) (hx : keyN x = keyN x') : okA t i x = okA t' i x' := by
  unfold keyN at hx
  obtain ⟨e1, e2, e3⟩ : x.1 = x'.1 ∧ x.2.1 = x'.2.1 ∧ x.2.2.1 = x'.2.2.1 := ⟨(Prod.mk.inj hx).1, (Prod.mk.inj (Prod.mk.inj hx).2).1, (Prod.mk.inj (Prod.mk.inj hx).2).2⟩
  unfold okA
  rw [e1, e2, e3, tw_key (t.take i) (t'.take i) (by rw [List.map_take, List.map_take, h])]
/-- a device's properties changed: formed as before -/
theorem frm_set (t : List Nd) (n : Nat) (l : List Pp) (hf : frmT t = true) (hn : n < t.length) (h1 : l.length ≤ 16) (h2 : okR l = true) : frmT (t.set n (t[n].1, t[n].2.1, t[n].2.2.1, l, t[n].2.2.2.2)) = true := by
  rw [frm_iff] at hf ⊢
  obtain ⟨g0, g1, g2, g3⟩ := hf
  have hk : (t.set n (t[n].1, t[n].2.1, t[n].2.2.1, l, t[n].2.2.2.2)).map keyN = t.map keyN := map_set_key t n _ hn rfl
  refine ⟨by simpa using g0, by simpa using g1, ?_, fun i hi => ?_⟩
  · rw [List.getElem_set]
    split
    · rename_i e
      subst e
      unfold rootF at g2 ⊢
      exact g2
    · exact g2
  · have hi2 : i < t.length := by simpa using hi
    have h3 := g3 i hi2
    rw [List.getElem_set]
    split
    · rename_i e
      subst e
      unfold okN at h3 ⊢
      simp only [Bool.and_eq_true, decide_eq_true_eq] at h3 ⊢
      rw [okA_key _ t hk n (t[n].1, t[n].2.1, t[n].2.2.1, l, t[n].2.2.2.2) t[n] rfl]
      exact ⟨h3.1, h1, h3.2.2.1, h2⟩
    · unfold okN at h3 ⊢
      rw [okA_key _ t hk i t[i] t[i] rfl]
      exact h3
/-- what Add answers -/
def addF (t : List Nd) (p : Int) (nm un : List Int) : List Nd × Int × Int :=
  if frmT t = false then ([], 0, 1) else if p < 0 ∨ (t.length : Int) ≤ p then ([], 0, 19) else if nmF nm = false ∨ 4 < un.length then ([], 0, 1)
  else if twF t p nm un = true then ([], 0, 20) else if 32 ≤ t.length then ([], 0, 22) else (t ++ [(nm, un, p, [], [])], t.length, 0)
theorem add_formed (t : List Nd) (p : Int) (nm un : List Int) (h : (addF t p nm un).2.2 = 0) : frmT (addF t p nm un).1 = true := by
  unfold addF at h ⊢
  split at h
  · simp at h
  · rename_i c1
    split at h
    · simp at h
    · rename_i c2
      split at h
      · simp at h
      · rename_i c3
        split at h
        · simp at h
        · rename_i c4
          split at h
          · simp at h
          · rename_i c5
            rw [if_neg c1, if_neg c2, if_neg c3, if_neg c4, if_neg c5]
            have hf : frmT t = true := by simpa using c1
            rw [frm_iff] at hf ⊢
            obtain ⟨g0, g1, g2, g3⟩ := hf
            refine ⟨by simp, by simp; omega, ?_, fun i hi => ?_⟩
            · rw [List.getElem_append_left g0]
              exact g2
            · by_cases hi2 : i < t.length
              · rw [List.getElem_append_left hi2]
                have h3 := g3 i hi2
                unfold okN okA at h3 ⊢
                rw [List.take_append_of_le_length (by omega)]
                exact h3
              · have e : i = t.length := by simp at hi; omega
                subst e
                rw [List.getElem_append_right (Nat.le_refl _)]
                simp only [Nat.sub_self, List.getElem_cons_zero]
                unfold okN okA
                rw [List.take_left']
                · have c3' : nmF nm = true ∧ un.length ≤ 4 := by
                    constructor
                    · cases hq : nmF nm
                      · exact absurd (Or.inl hq) c3
                      · rfl
                    · by_cases g : 4 < un.length
                      · exact absurd (Or.inr g) c3
                      · omega
                  have c4' : twF t p nm un = false := by simpa using c4
                  simp only [c3'.1, c4', Bool.and_eq_true, Bool.or_eq_true, decide_eq_true_eq]
                  refine ⟨Or.inr ⟨trivial, c3'.2, by omega, by omega, by simp⟩, by simp, by simp, by decide⟩
                · rfl

/-
  Slices of anything that is read: the rows of cells that a slice value has in a world, and what they read as. No Go text in sight.
-/
/-- the slice value v has these rows, of sz cells each -/
def SlC (sz : Nat) (w : World) (v : Value) (rows : List (List Value)) : Prop :=
  (∃ ao cap, v = .slice ao 0 cap ∧ (ao = none → cap = 0) ∧ rows = []) ∨
  ∃ b off cap, v = .slice (some ⟨b, off, none⟩) rows.length cap ∧ 0 < rows.length ∧ rows.length ≤ cap ∧ cap ≤ maxLen ∧
    ∀ i, i < rows.length → (rows.getD i []).length = sz ∧ ∀ j, j < sz → w.cell? ⟨b, off + i * sz + j, none⟩ = (rows.getD i [])[j]?
theorem SlC.below {sz : Nat} {w w' : World} {v : Value} {rows : List (List Value)} (h : SlC sz w v rows) (g : Below w.heap.size w w') : SlC sz w' v rows := by
  rcases h with h | ⟨b, off, cap, rfl, h0, h1, h2, hc⟩
  · exact Or.inl h
  · refine Or.inr ⟨b, off, cap, rfl, h0, h1, h2, fun i hi => ⟨(hc i hi).1, fun j hj => ?_⟩⟩
    have hl := (hc i hi).1
    have e := (hc i hi).2 j hj
    rw [List.getElem?_eq_getElem (by omega)] at e ⊢
    exact below_cell g e
theorem SlC.form {sz : Nat} {w : World} {v : Value} {rows : List (List Value)} (h : SlC sz w v rows) : ∃ ao cap, v = .slice ao rows.length cap ∧ rows.length ≤ cap ∧ (ao = none → cap = 0) ∧
    (0 < rows.length → cap ≤ maxLen ∧ ∃ b off, ao = some ⟨b, off, none⟩ ∧ ∀ i, i < rows.length → (rows.getD i []).length = sz ∧ ∀ j, j < sz → w.cell? ⟨b, off + i * sz + j, none⟩ = (rows.getD i [])[j]?) := by
  rcases h with ⟨ao, cap, rfl, h1, rfl⟩ | ⟨b, off, cap, rfl, h0, h1, h2, hc⟩
  · exact ⟨ao, cap, rfl, Nat.zero_le _, h1, fun h => by simp at h⟩
  · exact ⟨_, cap, rfl, h1, (fun h => by cases h), fun _ => ⟨h2, b, off, rfl, hc⟩⟩
/-- the slice value v reads as the list xs, each of its rows as R says -/
def SlR {α : Type} (sz : Nat) (R : World → List Value → α → Prop) (w : World) (v : Value) (xs : List α) : Prop :=
  ∃ rows, SlC sz w v rows ∧ rows.length = xs.length ∧ ∀ i (h : i < xs.length), R w (rows.getD i []) xs[i]
theorem SlR.below {α : Type} {sz : Nat} {R : World → List Value → α → Prop} {w w' : World} {v : Value} {xs : List α} (h : SlR sz R w v xs) (g : Below w.heap.size w w') (hR : ∀ cs x, R w cs x → R w' cs x) : SlR sz R w' v xs := by
  obtain ⟨rows, h1, h2, h3⟩ := h
  exact ⟨rows, h1.below g, h2, fun i hi => hR _ _ (h3 i hi)⟩
theorem SlR.nil {α : Type} {sz : Nat} {R : World → List Value → α → Prop} {w : World} : SlR sz R w (.slice none 0 0) ([] : List α) :=
  ⟨[], Or.inl ⟨none, 0, rfl, fun _ => rfl, rfl⟩, rfl, fun i h => by simp at h⟩
theorem slr_len {α : Type} {P : Program} {sz : Nat} {R : World → List Value → α → Prop} {w : World} {v : Value} {xs : List α} (h : SlR sz R w v xs) {t e : TypeId} (ht : P.underlying t = some (.slice e)) (ty : TypeId) (w' : World) :
    (Builtin.len_ #[t] ty #[v]).run P w' = .ok (.int .i64 xs.length) w' := by
  obtain ⟨rows, h1, h2, h3⟩ := h
  obtain ⟨ao, cap, rfl, _⟩ := h1.form
  simp [Builtin.len_, run_underlying ht, goInt, h2]
theorem slr_max {α : Type} {sz : Nat} {R : World → List Value → α → Prop} {w : World} {v : Value} {xs : List α} (h : SlR sz R w v xs) : xs.length ≤ maxLen := by
  obtain ⟨rows, h1, h2, h3⟩ := h
  rcases h1 with ⟨ao, cap, rfl, _, rfl⟩ | ⟨b, off, cap, rfl, h0, h1, h2', hc⟩
  · simp at h2; omega
  · omega
/-- an element of one cell: its address' rule, its cell, what it reads as -/
theorem slr_idx {α : Type} {P : Program} {R : World → List Value → α → Prop} {w : World} {v : Value} {xs : List α} (h : SlR 1 R w v xs) {t : TypeId} (ht : P.underlying t = some (.slice (P.elem t))) (hs : ∀ w, (sizeOf (P.elem t)).run P w = .ok 1 w) (i : Int) (h0 : 0 ≤ i) (h1 : i < xs.length) :
    ∃ (a : Addr) (c : Value), (∀ w', (Instr.indexAt t v (.int .i64 i)).run P w' = .ok (.pointer (some a)) w') ∧ w.cell? a = some c ∧ R w [c] (xs[i.toNat]'(by omega)) := by
  obtain ⟨rows, g1, g2, g3⟩ := h
  obtain ⟨ao, cap, rfl, hc, hn, hx⟩ := g1.form
  obtain ⟨hm, b, off, rfl, hcell⟩ := hx (by omega)
  have hi : i.toNat < rows.length := by omega
  obtain ⟨l1, l2⟩ := hcell i.toNat hi
  have e := l2 0 (by omega)
  have hr := g3 i.toNat (by omega)
  match hrow : rows.getD i.toNat [], l1 with
  | [c], _ =>
    rw [hrow] at e hr
    refine ⟨⟨b, off + i.toNat, none⟩, c, fun w' => ?_, by simpa using e, hr⟩
    rw [run_indexAt_slice (h := ht), if_pos ⟨h0, by omega⟩, hs]
    simp only [Result.andThen, Nat.mul_one]
    congr 3
    unfold Addr.add
    split
    · rename_i hz; rw [hz]; rfl
    · rfl
/-- what the call has built, one cell an element -/
theorem slr_own {α : Type} {R : World → List Value → α → Prop} {w : World} {base : Nat} {e : TypeId} {v : Value} {n : Nat} {cs : List Value} {xs : List α} (h : w.ownsRow base e 1 v n cs) (hl : cs.length = xs.length) (hR : ∀ i (h : i < xs.length), R w [cs[i]'(by omega)] xs[i]) : SlR 1 R w v xs := by
  obtain ⟨hl2, h⟩ := h
  have hn : n = cs.length := by omega
  refine ⟨cs.map (fun c => [c]), ?_, by simp [hl], fun i hi => by simpa [List.getD_eq_getElem?_getD, List.getElem?_eq_getElem (show i < cs.length by omega)] using hR i hi⟩
  rcases h with ⟨rfl, h0⟩ | ⟨g, cap, cur, rfl, hb, hg, hc, hm, hs, ht⟩
  · have : cs = [] := List.eq_nil_of_length_eq_zero (by omega)
    subst this
    exact Or.inl ⟨none, 0, rfl, fun _ => rfl, rfl⟩
  · rcases Nat.eq_zero_or_pos cs.length with h0 | h0
    · have : cs = [] := List.eq_nil_of_length_eq_zero h0
      subst this
      exact Or.inl ⟨_, _, by rw [hn]; rfl, (fun h => by cases h), rfl⟩
    · refine Or.inr ⟨g, 0, cap, by simp [hn], by simpa using h0, by simp; omega, hm, fun i hi => ?_⟩
      have hi2 : i < cs.length := by simpa using hi
      have e1 : (cs.map (fun c => [c])).getD i [] = [cs[i]] := by simp [List.getD_eq_getElem?_getD, List.getElem?_eq_getElem hi2]
      rw [e1]
      refine ⟨rfl, fun j hj => ?_⟩
      obtain rfl : j = 0 := by omega
      have e2 : (cur.toList.take (n * 1))[i]? = some cs[i] := by rw [ht, List.getElem?_eq_getElem hi2]
      rw [List.getElem?_take] at e2
      split at e2
      · simp [World.cell?, hg]
        simpa using e2
      · cases e2

/-- a slice value's length, for measures -/
def lenOf : Value → Nat | .slice _ n _ => n | _ => 0
theorem rd_lenOf {k : IntKind} {w : World} {v : Value} {xs : List Int} (h : Rd k w v xs) : lenOf v = xs.length := by
  obtain ⟨ao, cap, rfl, _⟩ := rd_form h
  rfl

/-- a slice that came in: its rows, each of which reads as something of the element's type -/
theorem slc_open {H : Type} {enc : TypeId × Value → H} {P : Program} {W : World} {t e : TypeId} {a : Option Addr} {len cap : Nat} {d : DataW H} {ps : List MemPlace} {sz fuel : Nat}
    (ht : P.underlying t = some (.slice e)) (hc : P.cellsOf e = sz) (hsz : 0 < sz) (h : DataW.trod enc P W 0 (fun _ => true) true fuel t [.slice a len cap] = some (d, ps)) :
    ∃ rows : List (List Value), SlC sz W (.slice a len cap) rows ∧ rows.length = len ∧ (d = .nil ∧ rows = [] ∨ ∃ ds zs, d = .slice ds zs ∧ ds.length = rows.length ∧
      ∀ i, i < rows.length → ∃ n y, DataW.trod enc P W 0 (fun _ => true) true n e (rows.getD i []) = some y ∧ ds[i]? = some y.1) := by
  rcases DataW.trod_slice ht h with ⟨h0, hx⟩ | ⟨x, l, c, elems, rest, n, _, hcs, hx, hb, hl, hm, hlen, hel, hsp, hns⟩
  · simp at h0 hx
    obtain ⟨rfl, rfl, rfl⟩ := h0
    exact ⟨[], Or.inl ⟨none, 0, rfl, fun _ => rfl, rfl⟩, rfl, Or.inl ⟨hx.1, rfl⟩⟩
  · simp at hcs
    obtain ⟨rfl, rfl, rfl⟩ := hcs
    rw [hc] at hel
    have each : ∀ i, i < len → ∃ cs y, W.cells? 0 (x.add (i * sz)) sz = some cs ∧ DataW.trod enc P W 0 (fun _ => true) true n e cs = some y ∧ elems[i]? = some y := by
      intro i hi
      have e1 := hel i hi
      rw [List.getElem?_eq_getElem (by omega)] at e1
      obtain ⟨cs, h1, h2⟩ := Option.bind_eq_some_iff.1 e1
      exact ⟨cs, _, h1, h2, List.getElem?_eq_getElem (by omega)⟩
    refine ⟨(List.range len).map (fun i => ((W.cells? 0 (x.add (i * sz)) sz).getD [])), ?_, by simp, Or.inr ⟨_, _, (Prod.mk.inj hx).1, by simp [hlen], fun i hi => ?_⟩⟩
    · rcases Nat.eq_zero_or_pos len with h0 | h0
      · subst h0
        exact Or.inl ⟨some x, cap, rfl, (fun h => by cases h), rfl⟩
      · obtain ⟨b, off, spot⟩ := x
        have hspot : spot = none := by
          obtain ⟨cs, y, h1, _, _⟩ := each 0 h0
          obtain ⟨_, g1, g2⟩ := World.cells?_some h1
          have g3 := g2 0 hsz
          rw [List.getElem?_eq_getElem (by omega)] at g3
          simpa [Addr.add] using World.cell?_spot g3
        subst hspot
        refine Or.inr ⟨b, off, cap, by simp, by simpa using h0, by simpa using hl, hm, fun i hi => ?_⟩
        have hi2 : i < len := by simpa using hi
        obtain ⟨cs, y, h1, _, _⟩ := each i hi2
        have e1 : ((List.range len).map (fun i => ((W.cells? 0 ((⟨b, off, none⟩ : Addr).add (i * sz)) sz).getD []))).getD i [] = cs := by
          simp [List.getD_eq_getElem?_getD, List.getElem?_range, hi2, h1]
        rw [e1]
        obtain ⟨_, g1, g2⟩ := World.cells?_some h1
        refine ⟨g1, fun j hj => ?_⟩
        rw [← g2 j hj]
        congr 1
        unfold Addr.add
        split
        · rename_i hz
          split
          · rename_i hz2; simp [hz, hz2]
          · simp [hz]
        · split
          · rename_i hz2; simp [hz2]
          · simp
    · have hi2 : i < len := by simpa using hi
      obtain ⟨cs, y, h1, h2, h3⟩ := each i hi2
      refine ⟨n, y, ?_, by rw [List.getElem?_map, h3]; rfl⟩
      have e1 : ((List.range len).map (fun i => ((W.cells? 0 (x.add (i * sz)) sz).getD []))).getD i [] = cs := by
        simp [List.getD_eq_getElem?_getD, List.getElem?_range, hi2, h1]
      rw [e1]
      exact h2

/-- texts -/
def strR (_ : World) (cs : List Value) (s : ByteArray) : Prop := cs = [.string s] ∧ s.size ≤ maxLen
/-- slices of bytes -/
def bytR (w : World) (cs : List Value) (xs : List Int) : Prop := ∃ v, cs = [v] ∧ Rd .u8 w v xs ∧ bytesL xs
theorem bytR_below {w w' : World} (g : Below w.heap.size w w') (cs : List Value) (xs : List Int) (h : bytR w cs xs) : bytR w' cs xs := by
  obtain ⟨v, h1, h2, h3⟩ := h
  exact ⟨v, h1, h2.below g, h3⟩
theorem wf_bytes {xs : List Int} (h : ∀ n ∈ xs, (Lit.int .u8 n).wf = true) : bytesL xs := by
  intro x hx
  have := h x hx
  simp [Lit.wf, IntKind.min, IntKind.max, IntKind.bits, IntKind.signed] at this
  omega
/-- from rows that each read as something to the list of what they read as -/
theorem choose_list {α β : Type} (rows : List β) (p : β → α → Prop) (h : ∀ r ∈ rows, ∃ x, p r x) : ∃ xs : List α, xs.length = rows.length ∧ ∀ i (h : i < rows.length) (g : i < xs.length), p rows[i] xs[i] := by
  induction rows with
  | nil => exact ⟨[], rfl, fun i h => by simp at h⟩
  | cons r rs ih =>
    obtain ⟨x, hx⟩ := h r (by simp)
    obtain ⟨xs, h1, h2⟩ := ih (fun r' hr => h r' (by simp [hr]))
    refine ⟨x :: xs, by simp [h1], fun i hi hg => ?_⟩
    cases i with
    | zero => exact hx
    | succ i => exact h2 i (by simpa using hi) (by simpa using hg)
theorem str_open {H : Type} {enc : TypeId × Value → H} {P : Program} {W : World} {t e : TypeId} {a : Option Addr} {len cap : Nat} {d : DataW H} {ps : List MemPlace}
    (ht : P.underlying t = some (.slice e)) (he : P.underlying e = some .string) (hc : P.cellsOf e = 1) (h : DataW.Trod enc P W 0 (fun _ => true) true t (.slice a len cap) d ps) :
    ∃ xs : List ByteArray, SlR 1 strR W (.slice a len cap) xs := by
  obtain ⟨fuel, hf⟩ := h
  obtain ⟨rows, h1, h2, h3⟩ := slc_open ht hc (by omega) (show DataW.trod enc P W 0 (fun _ => true) true fuel t [.slice a len cap] = some (d, ps) from hf)
  obtain ⟨xs, hx1, hx2⟩ := choose_list rows (fun r (s : ByteArray) => strR W r s) (fun r hr => by
    obtain ⟨i, hi, rfl⟩ := List.getElem_of_mem hr
    rcases h3 with ⟨_, rfl⟩ | ⟨ds, zs, _, _, h3⟩
    · simp at hi
    · obtain ⟨n, y, g, _⟩ := h3 i hi
      rw [List.getD_eq_getElem?_getD, List.getElem?_eq_getElem hi] at g
      obtain ⟨s, g1, _, g3⟩ := DataW.trod_string he g
      exact ⟨s, g1, g3⟩)
  refine ⟨xs, rows, h1, hx1.symm, fun i hi => ?_⟩
  rw [List.getD_eq_getElem?_getD, List.getElem?_eq_getElem (by omega)]
  exact hx2 i (by omega) hi
theorem byt_open {H : Type} {enc : TypeId × Value → H} {P : Program} {W : World} {t e b : TypeId} {a : Option Addr} {len cap : Nat} {d : DataW H} {ps : List MemPlace}
    (ht : P.underlying t = some (.slice e)) (he : P.underlying e = some (.slice b)) (hb : P.underlying b = some (.int .u8)) (hc : P.cellsOf e = 1) (hcb : P.cellsOf b = 1) (h : DataW.Trod enc P W 0 (fun _ => true) true t (.slice a len cap) d ps) :
    ∃ xs : List (List Int), SlR 1 bytR W (.slice a len cap) xs := by
  obtain ⟨fuel, hf⟩ := h
  obtain ⟨rows, h1, h2, h3⟩ := slc_open ht hc (by omega) (show DataW.trod enc P W 0 (fun _ => true) true fuel t [.slice a len cap] = some (d, ps) from hf)
  obtain ⟨xs, hx1, hx2⟩ := choose_list rows (fun r (s : List Int) => bytR W r s) (fun r hr => by
    obtain ⟨i, hi, rfl⟩ := List.getElem_of_mem hr
    rcases h3 with ⟨_, rfl⟩ | ⟨ds, zs, _, _, h3⟩
    · simp at hi
    · obtain ⟨n, y, g, _⟩ := h3 i hi
      rw [List.getD_eq_getElem?_getD, List.getElem?_eq_getElem hi] at g
      have g' : ∃ x l c, rows[i] = [.slice x l c] := by
        rcases DataW.trod_slice he g with ⟨h0, _⟩ | ⟨x, l, c, _, _, _, _, h0, _⟩
        · exact ⟨none, 0, 0, h0⟩
        · exact ⟨some x, l, c, h0⟩
      obtain ⟨x, l, c, g'⟩ := g'
      simp only [Option.getD_some] at g
      rw [g'] at g ⊢
      obtain ⟨zs, k1, k2, _⟩ := rd_open (k := .u8) (W := W) (a := x) (len := l) (cap := c) he hb hcb ⟨n, g⟩
      exact ⟨zs, _, rfl, k1, wf_bytes k2⟩)
  refine ⟨xs, rows, h1, hx1.symm, fun i hi => ?_⟩
  rw [List.getD_eq_getElem?_getD, List.getElem?_eq_getElem (by omega)]
  exact hx2 i (by omega) hi

/-
  Rows of structs: appended to a row of the call's own, and read from it. No Go text in sight.
-/
/-- append of one row of cells onto a row of the call's own -/
theorem wpList_append_row {P : Program} {w : World} {ops : Array Oper} {rest : List Oper} {o : Oper} {a : Act} {Q : Exit → Act → World → Prop} (hgd : o.guard = none) (s x : Operand) (t : TypeId)
    (ho : o.op = .call { callee := .builtin .append, args := #[s, x], argTypes := #[t, t] })
    (base : Nat) (e : TypeId) (i : TypeInfo) (z : Value) (sz bytes : Nat) (ht : P.underlying t = some (.slice e)) (hi : P.info? e = some i) (hz : i.zero = some z) (hsize : i.size = sz) (hby : i.bytes = bytes) (hzs : z.cells.size = sz) (hsz : 0 < sz)
    (v : Value) (n : Nat) (cs : List Value) (hs : a.eval s = v) (hown : w.ownsRow base e sz v n cs)
    (b : Nat) (row : List Value) (hx : a.eval x = .slice (some ⟨b, 0, none⟩) 1 1) (hl : row.length = sz) (hc : ∀ j u, row[j]? = some u → w.cell? ⟨b, j, none⟩ = some u) (h1 : ∀ u ∈ row, u.oneCell' = true)
    (h63 : n + 1 ≤ maxLen) (hbytes : (n + 1) * bytes ≤ 140737488355328) (hbase : base ≤ w.heap.size)
    (h : ∀ v' w', w'.ownsRow base e sz v' (n + 1) (cs ++ row) → w.grownBy w' v.ownBlock → wpList P ops Q rest (a.put o.dst v') w') : wpList P ops Q (o :: rest) a w := by
  refine wpList_plain hgd fun _ hK => ?_
  refine wp_append_own w s x t ho base e i z sz bytes ht hi hz hsize hby hzs hsz v n cs hs hown ⟨b, 0, none⟩ 1 1 row hx (by omega) ?_ h1 h63 hbytes hbase ?_
  · intro j u hj
    have := hc j u hj
    by_cases hz : j = 0
    · subst hz; simpa [Addr.add] using this
    · simpa [Addr.add, hz] using this
  · intro v' w' h2 h3 _
    exact hK _ _ (h v' w' h2 h3)
/-- append of a slice that is read, as one step of a region that draws its order -/
theorem step_append_rd {P : Program} {ops : Array Oper} {w : World} {k : IntKind} {o : Oper} {a : Act} {K : Act → World → Prop} {Q : Exit → Act → World → Prop} {E : Prop} (hgd : o.guard = none) (s x : Operand) (t : TypeId)
    (ho : o.op = .call { callee := .builtin .append, args := #[s, x], argTypes := #[t, t] })
    (base : Nat) (e : TypeId) (i : TypeInfo) (bytes : Nat) (ht : P.underlying t = some (.slice e)) (hi : P.info? e = some i) (hz : i.zero = some (.int k 0)) (hsize : i.size = 1) (hby : i.bytes = bytes)
    (v : Value) (ys : List Int) (hs : a.eval s = v) (hown : w.ownsRow base e 1 v ys.length (ys.map (Value.int k)))
    (vx : Value) (xs : List Int) (hx : a.eval x = vx) (hr : Rd k w vx xs)
    (h63 : ys.length + xs.length ≤ maxLen) (hbytes : (ys.length + xs.length) * bytes ≤ 140737488355328) (hbase : base ≤ w.heap.size)
    (h : ∀ v' w', w'.ownsRow base e 1 v' (ys ++ xs).length ((ys ++ xs).map (Value.int k)) → w.grownBy w' v.ownBlock → K (a.put o.dst v') w') :
    if Region.wanted o (yielded ops a.tmps) = true then Oper.wp P o a w K Q else E := by
  rw [if_pos (by simp [Region.wanted, hgd])]
  exact wp_append_rd s x t ho base e i bytes ht hi hz hsize hby v ys hs hown vx xs hx hr h63 hbytes hbase h
/-- a block that was laid of a row -/
theorem alloc_row (w : World) (row : List Value) (T : TypeId) : ∀ j u, row[j]? = some u → (w.alloc (.cells row.toArray T)).cell? ⟨w.heap.size, j, none⟩ = some u := by
  intro j u h
  rw [World.cell?_alloc_new]
  simpa using h
theorem alloc_rowS (w : World) (a : Addr) (v : Value) (row : List Value) (T : TypeId) : ∀ j u, row[j]? = some u → ((w.setCell a v).alloc (.cells row.toArray T)).cell? ⟨w.heap.size, j, none⟩ = some u := by
  intro j u h
  have := alloc_row (w.setCell a v) row T j u h
  rwa [show (w.setCell a v).heap.size = w.heap.size by simp [World.setCell]] at this
theorem alloc_rowSS (w : World) (a b : Addr) (v u' : Value) (row : List Value) (T : TypeId) : ∀ j u, row[j]? = some u → (((w.setCell a v).setCell b u').alloc (.cells row.toArray T)).cell? ⟨w.heap.size, j, none⟩ = some u := by
  intro j u h
  have := alloc_row ((w.setCell a v).setCell b u') row T j u h
  rwa [show ((w.setCell a v).setCell b u').heap.size = w.heap.size by simp [World.setCell]] at this
/-- a variable that is boxed: what is there behind calls that leave all that is old -/
theorem box_at {w w' : World} {cs : Array Value} {T : TypeId} (h : Below (w.alloc (.cells cs T)).heap.size (w.alloc (.cells cs T)) w') :
    (∀ j u, cs[j]? = some u → w'.cell? ⟨w.heap.size, j, none⟩ = some u) ∧ (∀ j, w'.frozen? ⟨w.heap.size, j, none⟩ = false) ∧ Below w.heap.size w w' := by
  have hb : w'.heap[w.heap.size]? = some (.cells cs T (0, 0)) := by
    rw [h.block w.heap.size (by rw [size_al]; omega)]
    exact heap_alloc_new w _
  refine ⟨fun j u hj => ?_, fun j => ?_, ?_⟩
  · simp [World.cell?, hb, hj]
  · simp [World.frozen?, hb]
  · exact below_trans (box_below w _) h
/-- what the call has built of rows reads as the list that they were built of -/
theorem slr_rows {α : Type} {R : World → List Value → α → Prop} {w : World} {base : Nat} {e : TypeId} {v : Value} {n sz : Nat} {xs : List α} (f : α → List Value) (hf : ∀ x ∈ xs, (f x).length = sz) (hsz : 0 < sz) (h : w.ownsRow base e sz v n (xs.flatMap f)) (hR : ∀ x ∈ xs, R w (f x) x) : SlR sz R w v xs := by
  obtain ⟨hl, h⟩ := h
  have hlen : ∀ ys : List α, (∀ x ∈ ys, (f x).length = sz) → (ys.flatMap f).length = ys.length * sz := by
    intro ys
    induction ys with
    | nil => intro _; simp
    | cons y ys ih =>
      intro hy
      rw [List.flatMap_cons, List.length_append, ih (fun x hx => hy x (by simp [hx])), hy y (by simp), List.length_cons, Nat.add_mul, Nat.one_mul]
      omega
  have hn : n = xs.length := by
    rw [hlen xs hf] at hl
    exact (Nat.eq_of_mul_eq_mul_right hsz hl).symm
  have hat : ∀ (ys : List α) (i : Nat) (hi : i < ys.length), (∀ x ∈ ys, (f x).length = sz) → ∀ j, j < sz → (ys.flatMap f)[i * sz + j]? = (f ys[i])[j]? := by
    intro ys
    induction ys with
    | nil => intro i hi; simp at hi
    | cons y ys ih =>
      intro i hi hy j hj
      have hy0 := hy y (by simp)
      rw [List.flatMap_cons]
      cases i with
      | zero =>
        rw [List.getElem?_append_left (by omega)]
        simp
      | succ i =>
        rw [Nat.add_mul, Nat.one_mul, List.getElem?_append_right (by omega), show i * sz + sz + j - (f y).length = i * sz + j by omega]
        exact ih i (by simpa using hi) (fun x hx => hy x (by simp [hx])) j hj
  refine ⟨xs.map f, ?_, by simp, fun i hi => ?_⟩
  · rcases h with ⟨rfl, h0⟩ | ⟨g, cap, cur, rfl, hb, hg, hc, hm, hs, ht⟩
    · have : xs = [] := List.eq_nil_of_length_eq_zero (by omega)
      subst this
      exact Or.inl ⟨none, 0, rfl, fun _ => rfl, rfl⟩
    · rcases Nat.eq_zero_or_pos xs.length with h0 | h0
      · have : xs = [] := List.eq_nil_of_length_eq_zero h0
        subst this
        exact Or.inl ⟨_, _, by rw [hn]; rfl, (fun h => by cases h), rfl⟩
      · refine Or.inr ⟨g, 0, cap, by rw [hn, List.length_map], by rw [List.length_map]; exact h0, by rw [List.length_map]; omega, hm, fun i hi => ?_⟩
        have hi2 : i < xs.length := by simpa using hi
        have e1 : (xs.map f).getD i [] = f xs[i] := by simp [List.getD_eq_getElem?_getD, List.getElem?_eq_getElem hi2]
        rw [e1]
        refine ⟨hf _ (List.getElem_mem hi2), fun j hj => ?_⟩
        have e2 := hat xs i hi2 hf j hj
        have hlt : i * sz + j < n * sz := by
          have : (i + 1) * sz ≤ n * sz := Nat.mul_le_mul_right _ (by omega)
          rw [Nat.add_mul, Nat.one_mul] at this
          omega
        rw [← ht, List.getElem?_take, if_pos hlt] at e2
        rw [← e2]
        simp [World.cell?, hg]
  · have e1 : (xs.map f).getD i [] = f xs[i] := by simp [List.getD_eq_getElem?_getD, List.getElem?_eq_getElem hi]
    rw [e1]
    exact hR _ (List.getElem_mem hi)

/-- an element of three cells: its address' rule, its cells, what it reads as -/
theorem slr_idx3 {α : Type} {P : Program} {R : World → List Value → α → Prop} {w : World} {v : Value} {xs : List α} (h : SlR 3 R w v xs) {t : TypeId} (ht : P.underlying t = some (.slice (P.elem t))) (hs : ∀ w, (sizeOf (P.elem t)).run P w = .ok 3 w) (i : Nat) (h1 : i < xs.length) :
    ∃ (b o : Nat) (c0 c1 c2 : Value), (∀ w', (Instr.indexAt t v (.int .i64 (i : Int))).run P w' = .ok (.pointer (some ⟨b, o, none⟩)) w') ∧ w.cell? ⟨b, o, none⟩ = some c0 ∧ w.cell? ⟨b, o + 1, none⟩ = some c1 ∧ w.cell? ⟨b, o + 2, none⟩ = some c2 ∧ R w [c0, c1, c2] xs[i] := by
  obtain ⟨rows, g1, g2, g3⟩ := h
  obtain ⟨ao, cap, rfl, hc, hn, hx⟩ := g1.form
  obtain ⟨hm, b, off, rfl, hcell⟩ := hx (by omega)
  obtain ⟨l1, l2⟩ := hcell i (by omega)
  have e0 := l2 0 (by omega)
  have e1 := l2 1 (by omega)
  have e2 := l2 2 (by omega)
  have hr := g3 i h1
  match hrow : rows.getD i [], l1 with
  | [c0, c1, c2], _ =>
    rw [hrow] at e0 e1 e2 hr
    refine ⟨b, off + i * 3, c0, c1, c2, fun w' => ?_, by simpa using e0, by simpa using e1, by simpa using e2, hr⟩
    rw [run_indexAt_slice (h := ht), if_pos ⟨by omega, by omega⟩, hs]
    simp only [Result.andThen, Int.toNat_natCast]
    congr 3
    unfold Addr.add
    split
    · rename_i hz; rw [hz]; rfl
    · rfl

/-
  Blocks that stand in a world: variables that are boxed, results kept in memory. No Go text in sight.
-/
theorem own_le {w : World} {b b' : Nat} {e : TypeId} {sz : Nat} {v : Value} {n : Nat} {cs : List Value} (h : b ≤ b') (o : w.ownsRow b' e sz v n cs) : w.ownsRow b e sz v n cs := by
  obtain ⟨hl, o⟩ := o
  refine ⟨hl, ?_⟩
  rcases o with o | ⟨g, cap, cur, rfl, hb, o⟩
  · exact Or.inl o
  · exact Or.inr ⟨g, cap, cur, rfl, by omega, o⟩
theorem own_form {w : World} {b : Nat} {e : TypeId} {sz : Nat} {v : Value} {n : Nat} {cs : List Value} (o : w.ownsRow b e sz v n cs) : ∃ ao cap, v = .slice ao n cap := by
  obtain ⟨hl, o⟩ := o
  rcases o with ⟨rfl, h0⟩ | ⟨g, cap, cur, rfl, o⟩
  · exact ⟨none, 0, by rw [h0]⟩
  · exact ⟨_, _, rfl⟩
theorem alloc_row2 (w : World) (A : Obj) (row : List Value) (T : TypeId) : ∀ j u, row[j]? = some u → ((w.alloc A).alloc (.cells row.toArray T)).cell? ⟨w.heap.size + 1, j, none⟩ = some u := by
  intro j u h
  have := alloc_row (w.alloc A) row T j u h
  rwa [size_al] at this
/-- a block that stands in a world: its cells, and that they may be written -/
def Stands (w : World) (b : Nat) (cs : Array Value) (T : TypeId) : Prop := w.heap[b]? = some (.cells cs T (0, 0))
theorem stands_new (w : World) (cs : Array Value) (T : TypeId) : Stands (w.alloc (.cells cs T)) w.heap.size cs T := heap_alloc_new w _
theorem Stands.below {w w' : World} {b : Nat} {cs : Array Value} {T : TypeId} (h : Stands w b cs T) (g : Below w.heap.size w w') : Stands w' b cs T := by
  unfold Stands at h ⊢
  rw [g.block b (Array.getElem?_eq_some_iff.1 h).1]
  exact h
theorem Stands.cell {w : World} {b : Nat} {cs : Array Value} {T : TypeId} (h : Stands w b cs T) (j : Nat) (u : Value) (hj : cs[j]? = some u) : w.cell? ⟨b, j, none⟩ = some u := by
  unfold Stands at h
  simp [World.cell?, h, hj]
theorem Stands.free {w : World} {b : Nat} {cs : Array Value} {T : TypeId} (h : Stands w b cs T) (j : Nat) : w.frozen? ⟨b, j, none⟩ = false := by
  unfold Stands at h
  simp [World.frozen?, h]
theorem Stands.set {w : World} {b : Nat} {cs : Array Value} {T : TypeId} (h : Stands w b cs T) (j : Nat) (u : Value) : Stands (w.setCell ⟨b, j, none⟩ u) b (cs.setIfInBounds j u) T := by
  unfold Stands at h ⊢
  have hb := (Array.getElem?_eq_some_iff.1 h).1
  have e : w.heap[b] = .cells cs T (0, 0) := (Array.getElem?_eq_some_iff.1 h).2
  simp only [World.setCell]
  rw [Array.getElem?_modify, if_pos rfl, Array.getElem?_eq_getElem hb, e]
  rfl
theorem Stands.other {w : World} {b b' : Nat} {cs : Array Value} {T : TypeId} (h : Stands w b cs T) (j : Nat) (u : Value) (hb : b ≠ b') : Stands (w.setCell ⟨b', j, none⟩ u) b cs T := by
  unfold Stands at h ⊢
  simp only [World.setCell]
  rw [Array.getElem?_modify, if_neg (by omega)]
  exact h
theorem own_other {w : World} {b : Nat} {e : TypeId} {v : Value} {n : Nat} {cs : List Value} (o : w.ownsRow b e 1 v n cs) (g : Nat) (j : Nat) (u : Value) (hg : g < b) : (w.setCell ⟨g, j, none⟩ u).ownsRow b e 1 v n cs := by
  obtain ⟨hl, o⟩ := o
  refine ⟨hl, ?_⟩
  rcases o with o | ⟨g', cap, cur, rfl, hb, h1, o⟩
  · exact Or.inl o
  · refine Or.inr ⟨g', cap, cur, rfl, hb, ?_, o⟩
    simp only [World.setCell]
    rw [Array.getElem?_modify, if_neg (by omega)]
    exact h1
theorem below_set {w w' : World} (h : Below w.heap.size w w') (g j : Nat) (u : Value) (hg : w.heap.size ≤ g) : Below w.heap.size w (w'.setCell ⟨g, j, none⟩ u) := by
  refine ⟨h.os, h.tape, h.output, by simpa [World.setCell] using h.size, fun k hk => ?_⟩
  rw [← h.block k hk]
  simp only [World.setCell]
  rw [Array.getElem?_modify, if_neg (by omega)]
/-- a block of another kind lies apart from a row of the call's own -/
theorem stands_apart {w : World} {b : Nat} {cs : Array Value} {T : TypeId} {base : Nat} {e : TypeId} {v : Value} {n sz : Nat} {xs : List Value} (h : Stands w b cs T) (o : w.ownsRow base e sz v n xs) (ht : ¬ e = T) : some b ≠ v.ownBlock := by
  obtain ⟨hl, o⟩ := o
  rcases o with ⟨rfl, h0⟩ | ⟨g, cap, cur, rfl, hb, hg, o⟩
  · simp [Value.ownBlock]
  · intro hh
    simp [Value.ownBlock] at hh
    subst hh
    unfold Stands at h
    rw [h] at hg
    simp at hg
    exact ht hg.2.symm
theorem Stands.grown {w w' : World} {b : Nat} {cs : Array Value} {T : TypeId} {row : Option Nat} (h : Stands w b cs T) (g : w.grownBy w' row) (hr : some b ≠ row) : Stands w' b cs T := by
  unfold Stands at h ⊢
  rw [g.block b (Array.getElem?_eq_some_iff.1 h).1 hr]
  exact h

end Go.Proofs.Ytfljcfpcokimcab
