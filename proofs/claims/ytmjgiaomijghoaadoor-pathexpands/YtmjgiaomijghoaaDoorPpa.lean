/-
  Paths of devices, as plain functions of lists of bytes: parsed, shown, and that each undoes the other. No Go text in sight.
-/
import Derived.Test.YtmjgiaomijghoaaDoorPpr
namespace Go.Proofs.YtmjgiaomijghoaaDoor
set_option linter.unusedVariables false
set_option linter.unusedSimpArgs false

/-- a step: its name, its unit address, its arguments -/
abbrev Sp := List Int × List Int × List Int
/-- what stands ahead of the first c -/
def upTo (c : Int) : List Int → List Int
  | [] => []
  | x :: l => if x = c then [] else x :: upTo c l
theorem upTo_len (c : Int) (l : List Int) : (upTo c l).length ≤ l.length := by
  induction l with
  | nil => simp [upTo]
  | cons x l ih => simp only [upTo]; split <;> simp; omega
theorem upTo_take (c : Int) (l : List Int) : l.take (upTo c l).length = upTo c l := by
  induction l with
  | nil => simp [upTo]
  | cons x l ih => simp only [upTo]; split <;> simp [ih]
theorem upTo_free (c : Int) (l : List Int) : ∀ x ∈ upTo c l, ¬ x = c := by
  induction l with
  | nil => simp [upTo]
  | cons x l ih =>
    simp only [upTo]
    split
    · simp
    · rename_i h
      intro y hy
      simp at hy
      rcases hy with rfl | hy
      · exact h
      · exact ih y hy
theorem upTo_mem (c : Int) (l : List Int) : ∀ x ∈ upTo c l, x ∈ l := by
  intro x hx
  rw [← upTo_take c l] at hx
  exact List.mem_of_mem_take hx
theorem upTo_all (c : Int) (l : List Int) (h : ∀ x ∈ l, ¬ x = c) : upTo c l = l := by
  induction l with
  | nil => rfl
  | cons x l ih => rw [upTo, if_neg (h x (by simp)), ih (fun y hy => h y (by simp [hy]))]
theorem upTo_app (c : Int) (a b : List Int) (h : ∀ x ∈ a, ¬ x = c) : upTo c (a ++ c :: b) = a := by
  induction a with
  | nil => simp [upTo]
  | cons x a ih => rw [List.cons_append, upTo, if_neg (h x (by simp)), ih (fun y hy => h y (by simp [hy]))]
theorem upTo_split (c : Int) (l : List Int) (h : (upTo c l).length < l.length) : l = upTo c l ++ c :: l.drop ((upTo c l).length + 1) := by
  induction l with
  | nil => simp [upTo] at h
  | cons x l ih =>
    by_cases hx : x = c
    · subst hx; simp [upTo]
    · simp only [upTo, if_neg hx, List.length_cons] at h ⊢
      have := ih (by omega)
      simp only [List.cons_append, List.drop_succ_cons]
      rw [← this]

/-- a step's text parsed -/
def stepF (l : List Int) : Option Sp :=
  if (upTo 64 (upTo 58 l)).length < (upTo 58 l).length ∧ ¬ (punF ((upTo 58 l).drop ((upTo 64 (upTo 58 l)).length + 1))).2 = 0 then none
  else if nmF (upTo 64 (upTo 58 l)) = true then
    some (upTo 64 (upTo 58 l), if (upTo 64 (upTo 58 l)).length < (upTo 58 l).length then (punF ((upTo 58 l).drop ((upTo 64 (upTo 58 l)).length + 1))).1 else [], l.drop ((upTo 58 l).length + 1))
  else none
/-- all of them -/
def stepL : List (List Int) → Option (List Sp)
  | [] => some []
  | p :: r => match stepF p, stepL r with
    | some x, some l => some (x :: l)
    | _, _ => none
/-- what Parse answers -/
def parF (l : List Int) : List Sp × Int :=
  if 256 < l.length then ([], 3) else if l = [47] then ([], 0) else
  match l with
  | 47 :: r => (match stepL (spl 47 [] r) with
    | some x => (x, 0)
    | none => ([], 15))
  | _ => ([], 15)
/-- a step that can be shown, and its text -/
def okS (x : Sp) : Bool := nmF x.1 && (decide (x.2.1.length ≤ 4) && x.2.2.all (fun c => decide (¬ c = 47)))
def bodT (x : Sp) : List Int := x.1 ++ ((if x.2.1 = [] then [] else 64 :: shoF x.2.1) ++ (if x.2.2 = [] then [] else 58 :: x.2.2))
def shpT : List Sp → List Int
  | [] => []
  | x :: l => 47 :: (bodT x ++ shpT l)
/-- what Show answers -/
def shpF (l : List Sp) : List Int × Int := if l.all okS = false then ([], 1) else if l = [] then ([47], 0) else if 256 < (shpT l).length then ([], 3) else (shpT l, 0)

theorem nm_byte {l : List Int} (h : nmF l = true) : (∀ x ∈ l, ¬ x = 47 ∧ ¬ x = 58 ∧ ¬ x = 64) ∧ 1 ≤ l.length := by
  unfold nmF at h
  rw [Bool.and_eq_true, List.all_eq_true] at h
  refine ⟨fun x hx => ?_, ?_⟩
  · have := h.2 x hx
    unfold nmC at this
    simp at this
    omega
  · have := h.1
    simp at this
    omega
theorem sho_byte (l : List Int) (h : cells l) : ∀ x ∈ shoF l, ¬ x = 47 ∧ ¬ x = 58 ∧ ¬ x = 64 := by
  have key : ∀ l : List Int, cells l → ∀ x ∈ shoT l, ¬ x = 47 ∧ ¬ x = 58 ∧ ¬ x = 64 := by
    intro l
    induction l with
    | nil => intro _ x hx; simp [shoT] at hx
    | cons y l ih =>
      intro h x hx
      simp only [shoT, List.mem_cons, List.mem_append] at hx
      rcases hx with rfl | hx | hx
      · omega
      · have h2 := (sh_all 16 y (by omega) (by omega) (h y (by simp)).1 (h y (by simp)).2).1
        unfold allD at h2
        rw [List.all_eq_true] at h2
        have := h2 x hx
        unfold isD dv at this
        simp at this
        refine ⟨?_, ?_, ?_⟩ <;> (intro e; subst e; simp at this)
      · exact ih (fun z hz => h z (by simp [hz])) x hx
  exact fun x hx => key l h x (List.mem_of_mem_drop hx)
theorem ok_parts {x : Sp} (h : okS x = true) : nmF x.1 = true ∧ x.2.1.length ≤ 4 ∧ ∀ c ∈ x.2.2, ¬ c = 47 := by
  unfold okS at h
  rw [Bool.and_eq_true, Bool.and_eq_true, List.all_eq_true] at h
  refine ⟨h.1, by simpa using h.2.1, fun c hc => by simpa using h.2.2 c hc⟩
/-- a step that is shown is parsed as itself -/
theorem step_back (x : Sp) (h : okS x = true) (hc : cells x.2.1) : stepF (bodT x) = some x := by
  obtain ⟨hn, hu, ha⟩ := ok_parts h
  obtain ⟨nm, u, ar⟩ := x
  simp only at hn hu ha hc
  obtain ⟨hb, hl⟩ := nm_byte hn
  have hpre : upTo 58 (bodT (nm, u, ar)) = nm ++ (if u = [] then [] else 64 :: shoF u) ∧ (bodT (nm, u, ar)).drop ((nm ++ (if u = [] then [] else 64 :: shoF u)).length + 1) = ar := by
    have hfree : ∀ x ∈ nm ++ (if u = [] then [] else 64 :: shoF u), ¬ x = 58 := by
      intro x hx
      rcases List.mem_append.1 hx with hx | hx
      · exact (hb x hx).2.1
      · split at hx
        · simp at hx
        · simp only [List.mem_cons] at hx
          rcases hx with rfl | hx
          · omega
          · exact (sho_byte u hc x hx).2.1
    unfold bodT
    simp only
    by_cases har : ar = []
    · subst har
      simp only [if_true, List.append_nil]
      refine ⟨upTo_all 58 _ hfree, ?_⟩
      rw [List.drop_of_length_le (by omega)]
    · rw [if_neg har, ← List.append_assoc]
      refine ⟨upTo_app 58 _ ar hfree, ?_⟩
      rw [show (nm ++ if u = [] then [] else 64 :: shoF u) ++ 58 :: ar = ((nm ++ if u = [] then [] else 64 :: shoF u) ++ [58]) ++ ar by simp]
      rw [List.drop_left' (by simp; omega)]
  obtain ⟨hp1, hp2⟩ := hpre
  unfold stepF
  rw [hp1, hp2]
  by_cases hu0 : u = []
  · subst hu0
    simp only [if_true, List.append_nil]
    rw [upTo_all 64 nm (fun x hx => (hb x hx).2.2)]
    simp [hn]
  · simp only [if_neg hu0]
    rw [upTo_app 64 nm (shoF u) (fun x hx => (hb x hx).2.2)]
    have hd : (nm ++ 64 :: shoF u).drop (nm.length + 1) = shoF u := by
      rw [show nm ++ 64 :: shoF u = (nm ++ [64]) ++ shoF u by simp, List.drop_left' (by simp)]
    have hpb : punF (shoF u) = (u, 0) := by rw [pun_back u hc, if_neg hu0, if_neg (by omega)]
    rw [hd, hpb]
    simp [hn]
theorem bod_byte (x : Sp) (h : okS x = true) (hc : cells x.2.1) : ∀ c ∈ bodT x, ¬ c = 47 := by
  obtain ⟨hn, hu, ha⟩ := ok_parts h
  intro c hx
  unfold bodT at hx
  simp only [List.mem_append] at hx
  rcases hx with hx | hx | hx
  · exact ((nm_byte hn).1 c hx).1
  · split at hx
    · simp at hx
    · simp only [List.mem_cons] at hx
      rcases hx with rfl | hx
      · omega
      · exact (sho_byte _ hc c hx).1
  · split at hx
    · simp at hx
    · simp only [List.mem_cons] at hx
      rcases hx with rfl | hx
      · omega
      · exact ha c hx
theorem spl_shp (x : Sp) (l : List Sp) (h : ∀ y ∈ x :: l, okS y = true ∧ cells y.2.1) : spl 47 [] (bodT x ++ shpT l) = (x :: l).map bodT := by
  induction l generalizing x with
  | nil =>
    have h1 := h x (by simp)
    have := spl_skip 47 (bodT x) [] (bod_byte x h1.1 h1.2) []
    rw [List.nil_append] at this
    rw [shpT, this]
    rfl
  | cons y l ih =>
    have h1 := h x (by simp)
    rw [shpT, spl_skip 47 (bodT x) _ (bod_byte x h1.1 h1.2) [], List.nil_append, spl, if_pos rfl, ih y (fun z hz => h z (by simp at hz ⊢; exact Or.inr hz))]
    rfl
theorem stepL_back (l : List Sp) (h : ∀ y ∈ l, okS y = true ∧ cells y.2.1) : stepL (l.map bodT) = some l := by
  induction l with
  | nil => rfl
  | cons x l ih =>
    have h1 := h x (by simp)
    rw [List.map_cons, stepL, step_back x h1.1 h1.2, ih (fun z hz => h z (by simp [hz]))]
/-- a path that is shown is parsed as its steps -/
theorem par_back (l : List Sp) (h : l.all okS = true) (hc : ∀ x ∈ l, cells x.2.1) (hl : (shpT l).length ≤ 256) (hne : l ≠ []) : parF (shpT l) = (l, 0) := by
  cases l with
  | nil => exact absurd rfl hne
  | cons x l =>
    rw [List.all_eq_true] at h
    have hh : ∀ y ∈ x :: l, okS y = true ∧ cells y.2.1 := fun y hy => ⟨h y hy, hc y hy⟩
    have hn := (nm_byte (ok_parts (h x (by simp))).1).2
    unfold parF
    rw [if_neg (by omega), if_neg]
    · rw [shpT]
      simp only
      rw [spl_shp x l hh, stepL_back _ hh]
    · intro e
      have := congrArg List.length e
      simp only [shpT, bodT, List.length_cons, List.length_append, List.length_nil] at this
      omega
/-! what is parsed can be shown -/
theorem num_short (p : List Int) (hb : bytesL p) (h : pcOk p = true) : (sh 16 (num 16 p)).length ≤ p.length := by
  have hn := pc_num p hb h
  simp [pcOk] at h
  have h1 := num16_lt p hb h.2
  obtain ⟨k, hk⟩ : ∃ k, p.length = k + 1 := ⟨p.length - 1, by omega⟩
  rw [hk] at h1 ⊢
  exact shF_len16 32 k _ h1.1 h1.2
theorem pun_parts (l : List Int) (hb : bytesL l) (h : (punF l).2 = 0) : (spl 44 [] l).all pcOk = true ∧ (spl 44 [] l).length ≤ 4 ∧ (punF l).1 = (spl 44 [] l).map (num 16) := by
  unfold punF at h ⊢
  split at h
  · simp at h
  · rename_i h1
    split at h
    · simp at h
    · rename_i h2
      rw [if_neg h1, if_neg h2]
      exact ⟨by simpa using h1, by omega, rfl⟩
theorem spl_bytes (d : Int) : ∀ (l cur : List Int), bytesL l → bytesL cur → ∀ p ∈ spl d cur l, bytesL p
  | [], cur, _, h2, p, hp => by simp [spl] at hp; subst hp; exact h2
  | c :: r, cur, h1, h2, p, hp => by
    have hr : bytesL r := fun x hx => h1 x (by simp [hx])
    simp only [spl] at hp
    split at hp
    · simp only [List.mem_cons] at hp
      rcases hp with rfl | hp
      · exact h2
      · exact spl_bytes d r [] hr (fun x hx => by simp at hx) p hp
    · exact spl_bytes d r (cur ++ [c]) hr (fun x hx => by
        rcases List.mem_append.1 hx with hx | hx
        · exact h2 x hx
        · simp at hx; subst hx; exact h1 x (by simp)) p hp
theorem spl_free (d : Int) : ∀ (l cur : List Int), (∀ x ∈ cur, ¬ x = d) → ∀ p ∈ spl d cur l, ∀ x ∈ p, ¬ x = d
  | [], cur, h, p, hp => by simp [spl] at hp; subst hp; exact h
  | c :: r, cur, h, p, hp => by
    simp only [spl] at hp
    split at hp
    · simp only [List.mem_cons] at hp
      rcases hp with rfl | hp
      · exact h
      · exact spl_free d r [] (fun x hx => by simp at hx) p hp
    · rename_i hc
      exact spl_free d r (cur ++ [c]) (fun x hx => by
        rcases List.mem_append.1 hx with hx | hx
        · exact h x hx
        · simp at hx; subst hx; exact hc) p hp
/-- the letters of the pieces -/
def sumL : List (List Int) → Nat
  | [] => 0
  | p :: r => p.length + 1 + sumL r
theorem spl_sum (d : Int) : ∀ (l cur : List Int), sumL (spl d cur l) = cur.length + l.length + 1
  | [], cur => by simp [spl, sumL]
  | c :: r, cur => by
    simp only [spl]
    split
    · simp only [sumL, spl_sum d r [], List.length_nil, List.length_cons]; omega
    · rw [spl_sum d r (cur ++ [c])]; simp; omega
theorem sho_short : ∀ (ps : List (List Int)), (∀ p ∈ ps, bytesL p) → ps.all pcOk = true → (shoT (ps.map (num 16))).length ≤ sumL ps
  | [], _, _ => by simp [shoT, sumL]
  | p :: r, hb, h => by
    rw [List.all_cons, Bool.and_eq_true] at h
    have h1 := num_short p (hb p (by simp)) h.1
    have h2 := sho_short r (fun q hq => hb q (by simp [hq])) h.2
    simp only [List.map_cons, shoT, sumL, List.length_cons, List.length_append]
    omega
theorem pun_short (l : List Int) (hb : bytesL l) (h : (punF l).2 = 0) : cells (punF l).1 ∧ (punF l).1.length ≤ 4 ∧ (shoF (punF l).1).length ≤ l.length ∧ (punF l).1 ≠ [] := by
  obtain ⟨h1, h2, h3⟩ := pun_parts l hb h
  have hpb := spl_bytes 44 l [] hb (fun x hx => by simp at hx)
  have hs := spl_sum 44 l []
  have hsl := spl_len 44 l []
  rw [h3]
  refine ⟨?_, by simpa using h2, ?_, ?_⟩
  · intro x hx
    rw [List.mem_map] at hx
    obtain ⟨p, hp, rfl⟩ := hx
    rw [List.all_eq_true] at h1
    exact pc_num p (hpb p hp) (h1 p hp)
  · have := sho_short _ hpb h1
    unfold shoF
    rw [List.length_drop]
    simp at hs
    omega
  · intro e
    have := congrArg List.length e
    simp at this
    rw [this] at hsl
    simp at hsl
theorem step_ok7 (p : List Int) (x : Sp) (hb : bytesL p) (hf : ∀ c ∈ p, ¬ c = 47) (h : stepF p = some x) : okS x = true ∧ cells x.2.1 ∧ (bodT x).length ≤ p.length ∧ bytesL x.1 ∧ bytesL x.2.2 := by
  have hl1 := upTo_len 58 p
  have hl2 := upTo_len 64 (upTo 58 p)
  have hb1 : bytesL (upTo 58 p) := fun c hc => hb c (upTo_mem 58 p c hc)
  have hb2 : bytesL (upTo 64 (upTo 58 p)) := fun c hc => hb1 c (upTo_mem 64 _ c hc)
  have hb3 : bytesL (p.drop ((upTo 58 p).length + 1)) := fun c hc => hb c (List.mem_of_mem_drop hc)
  have hf3 : ∀ c ∈ p.drop ((upTo 58 p).length + 1), ¬ c = 47 := fun c hc => hf c (List.mem_of_mem_drop hc)
  have hl3 : (p.drop ((upTo 58 p).length + 1)).length = p.length - ((upTo 58 p).length + 1) := by simp
  unfold stepF at h
  split at h
  · cases h
  · rename_i h1
    split at h
    · rename_i h2
      have h := Option.some.inj h
      subst h
      by_cases hat : (upTo 64 (upTo 58 p)).length < (upTo 58 p).length
      · have hE : (punF ((upTo 58 p).drop ((upTo 64 (upTo 58 p)).length + 1))).2 = 0 := by
          by_cases e : (punF ((upTo 58 p).drop ((upTo 64 (upTo 58 p)).length + 1))).2 = 0
          · exact e
          · exact absurd ⟨hat, e⟩ h1
        obtain ⟨u1, u2, u3, u4⟩ := pun_short _ (fun c hc => hb1 c (List.mem_of_mem_drop hc)) hE
        have hl4 : ((upTo 58 p).drop ((upTo 64 (upTo 58 p)).length + 1)).length = (upTo 58 p).length - ((upTo 64 (upTo 58 p)).length + 1) := by simp
        refine ⟨?_, ?_, ?_, hb2, hb3⟩
        · unfold okS
          rw [Bool.and_eq_true, Bool.and_eq_true, List.all_eq_true]
          refine ⟨h2, ?_, fun c hc => by simpa using hf3 c hc⟩
          simp only [if_pos hat]
          simpa using u2
        · simp only [if_pos hat]; exact u1
        · unfold bodT
          simp only [if_pos hat, if_neg u4, List.length_append, List.length_cons]
          split
          · simp only [List.length_nil]; omega
          · rename_i hne
            have : 0 < (p.drop ((upTo 58 p).length + 1)).length := List.length_pos_iff.2 hne
            simp only [List.length_cons]
            omega
      · refine ⟨?_, ?_, ?_, hb2, hb3⟩
        · unfold okS
          rw [Bool.and_eq_true, Bool.and_eq_true, List.all_eq_true]
          refine ⟨h2, ?_, fun c hc => by simpa using hf3 c hc⟩
          simp only [if_neg hat]
          decide
        · simp only [if_neg hat]; intro c hc; simp at hc
        · unfold bodT
          simp only [if_neg hat, if_true, List.length_append, List.length_nil]
          split
          · simp only [List.length_nil]; omega
          · rename_i hne
            have : 0 < (p.drop ((upTo 58 p).length + 1)).length := List.length_pos_iff.2 hne
            simp only [List.length_cons]
            omega
    · cases h
theorem stepL_ok : ∀ (ps : List (List Int)) (l : List Sp), (∀ p ∈ ps, bytesL p ∧ ∀ c ∈ p, ¬ c = 47) → stepL ps = some l → (∀ x ∈ l, okS x = true ∧ cells x.2.1 ∧ bytesL x.1 ∧ bytesL x.2.2) ∧ (shpT l).length ≤ sumL ps ∧ l.length = ps.length
  | [], l, _, h => by simp [stepL] at h; subst h; simp [shpT, sumL]
  | p :: r, l, hp, h => by
    rw [stepL] at h
    split at h
    · rename_i x l' h1 h2
      have h := Option.some.inj h
      subst h
      have hx := step_ok7 p x (hp p (by simp)).1 (hp p (by simp)).2 h1
      obtain ⟨i1, i2, i3⟩ := stepL_ok r l' (fun q hq => hp q (by simp [hq])) h2
      refine ⟨fun y hy => ?_, ?_, by simp [i3]⟩
      · simp only [List.mem_cons] at hy
        rcases hy with rfl | hy
        · exact ⟨hx.1, hx.2.1, hx.2.2.2⟩
        · exact i1 y hy
      · have := hx.2.2.1
        simp only [shpT, sumL, List.length_cons, List.length_append]
        omega
    · cases h
/-- what is parsed is fit to be shown, and is no longer then -/
theorem par_ok (s : List Int) (hb : bytesL s) (h : (parF s).2 = 0) : (∀ x ∈ (parF s).1, okS x = true ∧ cells x.2.1 ∧ bytesL x.1 ∧ bytesL x.2.2) ∧ (shpT (parF s).1).length ≤ s.length ∧ s.length ≤ 256 ∧ ((parF s).1 = [] → s = [47]) := by
  unfold parF at h ⊢
  split at h
  · simp at h
  · rename_i h1
    rw [if_neg h1]
    split at h
    · rename_i h2
      rw [if_pos h2]
      exact ⟨fun x hx => by simp at hx, by simp [shpT], by omega, fun _ => h2⟩
    · rename_i h2
      rw [if_neg h2]
      split at h
      · rename_i r
        cases hs : stepL (spl 47 [] r) with
        | none => rw [hs] at h; simp at h
        | some l =>
          have hrb : bytesL r := fun x hx => hb x (by simp [hx])
          obtain ⟨i1, i2, i3⟩ := stepL_ok _ l (fun p hp => ⟨spl_bytes 47 r [] hrb (fun x hx => by simp at hx) p hp, spl_free 47 r [] (fun x hx => by simp at hx) p hp⟩) hs
          have hsm := spl_sum 47 r []
          have hsl := spl_len 47 r []
          simp only [hs]
          refine ⟨i1, ?_, by omega, fun e => ?_⟩
          · simp at hsm
            simp only [List.length_cons]
            omega
          · rw [e] at i3
            simp at i3
            omega
      · simp at h
theorem par_err (s : List Int) (h : (parF s).2 ≠ 0) : (parF s).1 = [] := by
  unfold parF at h ⊢
  split
  · rfl
  · rename_i h1
    rw [if_neg h1] at h
    split
    · rfl
    · rename_i h2
      rw [if_neg h2] at h
      split
      · rename_i r
        split
        · rename_i x hx
          simp [hx] at h
        · rfl
      · rfl
theorem par_long (s : List Int) : ((parF s).2 = 3) ↔ 256 < s.length := by
  unfold parF
  split
  · rename_i h; simp [h]
  · rename_i h
    constructor
    · intro e
      split at e
      · simp at e
      · split at e
        · split at e <;> simp at e
        · simp at e
    · intro e; exact absurd e h
end Go.Proofs.YtmjgiaomijghoaaDoor
