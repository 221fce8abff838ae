/-
  The reader of the landed package token: code, text, offset; what it reads, as a function.
-/
import Derived.Test.YtbllblikigogoaaTk6
namespace Go.Proofs.Ytbllblikigogoaa
open Go.ChangeShapes Go.WideShapes Go.ChangeAt Go.RowKit
set_option linter.unusedVariables false
set_option linter.unusedSimpArgs false

def coP (s : Rs) : Int × Rs := if cdd (nuP 1 s).1 then nuP 1 s else ((nuP 1 s).1 * 256 + (nuP 1 (nuP 1 s).2).1, (nuP 1 (nuP 1 s).2).2)
def txQ (s : Rs) : List Int × Rs := tkP (nuP 1 s).1.toNat (nuP 1 s).2
def oqP (wide : Bool) (s : Rs) : Int × Rs := if wide then (sgF 32768 (nuP 2 s).1, (nuP 2 s).2) else (sgF 128 (nuP 1 s).1, (nuP 1 s).2)
def tbP (k : Nat) (c : Int) (wide : Bool) (s : Rs) : Tq × Rs :=
  match k with
  | 1 => (⟨c, (nuP 4 s).1, [], 0⟩, (nuP 4 s).2)
  | 2 => (⟨c, (coP s).1, [], 0⟩, (coP s).2)
  | 3 => (⟨c, 0, (txQ s).1, 0⟩, (txQ s).2)
  | 4 => (⟨c, 0, [], (oqP wide s).1⟩, (oqP wide s).2)
  | 5 => (⟨c, (nuP 2 s).1, [], 0⟩, (nuP 2 s).2)
  | 6 => (⟨c, (nuP 2 (txQ s).2).1, (txQ s).1, 0⟩, (nuP 2 (txQ s).2).2)
  | _ => (⟨c, 0, [], 0⟩, s)
def tokP (wide : Bool) (s : Rs) : Tq × Rs := tbP (bhF (coP s).1) (coP s).1 wide (coP s).2

/-! the same as what is read of the list alone -/
theorem nm1 (a : Int) : nmF [a] = a := by simp [nmF]
theorem nu1 (s : Rs) : (∀ a r, s.1 = a :: r → nuP 1 s = (a, r, s.2)) ∧ (s.1 = [] → nuP 1 s = (0, [], true)) := by
  refine ⟨fun a r h => ?_, fun h => ?_⟩
  · simp [nuP, tkP, h, nmF]
  · simp [nuP, tkP, h, nmF]
theorem nu2 (a b : Int) (r : List Int) (f : Bool) : nuP 2 (a :: b :: r, f) = (a * 256 + b, r, f) := by simp [nuP, tkP, nmF]
theorem nu2n (l : List Int) (f : Bool) (h : l.length < 2) : nuP 2 (l, f) = (0, [], true) := by
  simp only [nuP, tkP]
  rw [if_neg (by omega)]
  rfl
theorem nu4 (a b c d : Int) (r : List Int) (f : Bool) : nuP 4 (a :: b :: c :: d :: r, f) = (a * 16777216 + b * 65536 + c * 256 + d, r, f) := by simp [nuP, tkP, nmF]; omega
theorem nu4n (l : List Int) (f : Bool) (h : l.length < 4) : nuP 4 (l, f) = (0, [], true) := by
  simp only [nuP, tkP]
  rw [if_neg (by omega)]
  rfl
theorem tk_short (n : Nat) (l : List Int) : (tkP n (l, true)).2.2 = true := by unfold tkP; split <;> rfl
theorem nu_short (n : Nat) (l : List Int) : (nuP n (l, true)).2.2 = true := tk_short n l
theorem short_of (s : Rs) (h : s.2 = true) : s = (s.1, true) := by rw [← h]
theorem nu_sh (n : Nat) (s : Rs) (h : s.2 = true) : (nuP n s).2.2 = true := by rw [short_of s h]; exact nu_short n _
theorem tk_sh (n : Nat) (s : Rs) (h : s.2 = true) : (tkP n s).2.2 = true := by rw [short_of s h]; exact tk_short n _
theorem co_sh (s : Rs) (h : s.2 = true) : (coP s).2.2 = true := by
  unfold coP
  split
  · exact nu_sh 1 s h
  · exact nu_sh 1 _ (nu_sh 1 s h)
theorem tx_sh (s : Rs) (h : s.2 = true) : (txQ s).2.2 = true := tk_sh _ _ (nu_sh 1 s h)
theorem oq_sh (wide : Bool) (s : Rs) (h : s.2 = true) : (oqP wide s).2.2 = true := by
  cases wide
  · exact nu_sh 1 s h
  · exact nu_sh 2 s h
theorem tb_sh (k : Nat) (hk : k ≤ 6) (c : Int) (wide : Bool) (s : Rs) (h : s.2 = true) : (tbP k c wide s).2.2 = true := by
  match k, hk with
  | 0, _ => exact h
  | 1, _ => exact nu_sh 4 s h
  | 2, _ => exact co_sh s h
  | 3, _ => exact tx_sh s h
  | 4, _ => exact oq_sh wide s h
  | 5, _ => exact nu_sh 2 s h
  | 6, _ => exact nu_sh 2 _ (tx_sh s h)
/-- what a reader reads, where it isn't short -/
def Rsd {α : Type} (x : Option (α × List Int)) (y : α × Rs) : Prop := (∃ a r, x = some (a, r) ∧ y = (a, r, false)) ∨ (x = none ∧ y.2.2 = true)
theorem co_rsd (l : List Int) (hb : bytesL l) : Rsd (cdP l) (coP (l, false)) := by
  match l with
  | [] =>
    refine Or.inr ⟨rfl, ?_⟩
    simp [coP, (nu1 ([], false)).2 rfl, cdd]
  | a :: r =>
    have ha := hb a (by simp)
    have h1 := (nu1 (a :: r, false)).1 a r rfl
    unfold coP
    rw [h1]
    simp only [cdP]
    by_cases hc : a = 0 ∨ 16 ≤ a
    · have : cdd a = true := by simp [cdd]; omega
      rw [if_pos hc]
      simp only [this, if_true]
      exact Or.inl ⟨a, r, rfl, rfl⟩
    · have : cdd a = false := by simp [cdd]; omega
      rw [if_neg hc]
      simp only [this, Bool.false_eq_true, if_false]
      match r with
      | [] =>
        refine Or.inr ⟨rfl, ?_⟩
        simp [(nu1 ([], false)).2 rfl]
      | b :: r => exact Or.inl ⟨a * 256 + b, r, rfl, by rw [(nu1 (b :: r, false)).1 b r rfl]⟩
theorem tw_rsd (l : List Int) : Rsd (twP l) (nuP 2 (l, false)) := by
  match l with
  | [] => exact Or.inr ⟨rfl, by rw [nu2n _ _ (by simp)]⟩
  | [a] => exact Or.inr ⟨rfl, by rw [nu2n _ _ (by simp)]⟩
  | a :: b :: r => exact Or.inl ⟨_, r, rfl, nu2 a b r false⟩
theorem fu_rsd (l : List Int) : Rsd (fuP l) (nuP 4 (l, false)) := by
  match l with
  | [] => exact Or.inr ⟨rfl, by rw [nu4n _ _ (by simp)]⟩
  | [a] => exact Or.inr ⟨rfl, by rw [nu4n _ _ (by simp)]⟩
  | [a, b] => exact Or.inr ⟨rfl, by rw [nu4n _ _ (by simp)]⟩
  | [a, b, c] => exact Or.inr ⟨rfl, by rw [nu4n _ _ (by simp)]⟩
  | a :: b :: c :: d :: r => exact Or.inl ⟨_, r, rfl, nu4 a b c d r false⟩
theorem tx_rsd (l : List Int) (hb : bytesL l) : Rsd (txP l) (txQ (l, false)) := by
  match l with
  | [] =>
    refine Or.inr ⟨rfl, ?_⟩
    simp [txQ, (nu1 ([], false)).2 rfl, tk_short]
  | k :: r =>
    have ha := hb k (by simp)
    unfold txQ
    rw [(nu1 (k :: r, false)).1 k r rfl]
    simp only [txP, tkP]
    by_cases h : k ≤ r.length
    · rw [if_pos h, if_pos (by omega)]
      exact Or.inl ⟨_, _, rfl, rfl⟩
    · rw [if_neg h, if_neg (by omega)]
      exact Or.inr ⟨rfl, rfl⟩
theorem of_rsd (wide : Bool) (l : List Int) : Rsd (ofP wide l) (oqP wide (l, false)) := by
  cases wide with
  | true =>
    have := tw_rsd l
    simp only [ofP, oqP, if_true]
    rcases this with ⟨a, r, h1, h2⟩ | ⟨h1, h2⟩
    · rw [h1, h2]
      exact Or.inl ⟨_, _, rfl, rfl⟩
    · rw [h1]
      exact Or.inr ⟨rfl, h2⟩
  | false =>
    simp only [ofP, oqP, Bool.false_eq_true, if_false]
    match l with
    | [] =>
      refine Or.inr ⟨rfl, ?_⟩
      rw [(nu1 ([], false)).2 rfl]
    | a :: r =>
      rw [(nu1 (a :: r, false)).1 a r rfl]
      exact Or.inl ⟨_, _, rfl, rfl⟩
theorem Rsd.map {α β : Type} {x : Option (α × List Int)} {y : α × Rs} (h : Rsd x y) (f : α → β) : Rsd (x.map fun z => (f z.1, z.2)) (f y.1, y.2) := by
  rcases h with ⟨a, r, rfl, rfl⟩ | ⟨rfl, h⟩
  · exact Or.inl ⟨_, _, rfl, rfl⟩
  · exact Or.inr ⟨rfl, h⟩
theorem tb_rsd (k : Nat) (hk : k ≤ 6) (c : Int) (wide : Bool) (l : List Int) (hb : bytesL l) : Rsd (bePn k c wide l) (tbP k c wide (l, false)) := by
  match k, hk with
  | 0, _ => exact Or.inl ⟨_, l, rfl, rfl⟩
  | 1, _ => exact (fu_rsd l).map (fun n => Tq.mk c n [] 0)
  | 2, _ => exact (co_rsd l hb).map (fun n => Tq.mk c n [] 0)
  | 3, _ => exact (tx_rsd l hb).map (fun t => Tq.mk c 0 t 0)
  | 4, _ => exact (of_rsd wide l).map (fun o => Tq.mk c 0 [] o)
  | 5, _ => exact (tw_rsd l).map (fun n => Tq.mk c n [] 0)
  | 6, _ =>
    simp only [bePn, tbP]
    rcases tx_rsd l hb with ⟨t, r, h1, h2⟩ | ⟨h1, h2⟩
    · rw [h1, h2]
      exact (tw_rsd r).map (fun n => Tq.mk c n t 0)
    · rw [h1]
      exact Or.inr ⟨rfl, nu_sh 2 _ h2⟩
theorem cd_bytes (l : List Int) (hb : bytesL l) (c : Int) (r : List Int) (h : cdP l = some (c, r)) : bytesL r := by
  have := (by_cd l hb c r h).2
  exact fun x hx => hb x (by rw [this]; simp [hx])
theorem tok_rsd (wide : Bool) (l : List Int) (hb : bytesL l) : Rsd (oneP l wide) (tokP wide (l, false)) := by
  unfold oneP tokP
  rcases co_rsd l hb with ⟨c, r, h1, h2⟩ | ⟨h1, h2⟩
  · rw [h1, h2]
    exact tb_rsd _ (bh_le c) c wide r (cd_bytes l hb c r h1)
  · rw [h1]
    exact Or.inr ⟨rfl, tb_sh _ (bh_le _) _ wide _ h2⟩

theorem wr16 (n : Int) (h0 : 0 ≤ n) (h1 : n < 65536) : IntKind.i16.wrap n = sgF 32768 n := by rw [wrp16]; unfold sgF; split <;> split <;> omega
theorem wr8 (n : Int) (h0 : 0 ≤ n) (h1 : n < 256) : IntKind.i8.wrap n = sgF 128 n := by rw [wrp8]; unfold sgF; split <;> split <;> omega
theorem nu_bd1 (s : Rs) (hb : bytesL s.1) : 0 ≤ (nuP 1 s).1 ∧ (nuP 1 s).1 < 256 := by
  obtain ⟨l, f⟩ := s
  match l with
  | [] => rw [(nu1 ([], f)).2 rfl]; simp
  | a :: r => rw [(nu1 (a :: r, f)).1 a r rfl]; exact hb a (by simp)
theorem nu_bd2 (s : Rs) (hb : bytesL s.1) : 0 ≤ (nuP 2 s).1 ∧ (nuP 2 s).1 < 65536 := by
  obtain ⟨l, f⟩ := s
  match l with
  | [] => rw [nu2n _ _ (by simp)]; simp
  | [a] => rw [nu2n _ _ (by simp)]; simp
  | a :: b :: r =>
    rw [nu2]
    have := hb a (by simp)
    have := hb b (by simp)
    simp only
    omega
theorem nu_bd4 (s : Rs) (hb : bytesL s.1) : 0 ≤ (nuP 4 s).1 ∧ (nuP 4 s).1 < 4294967296 := by
  have h := nm_bd _ (tkP 4 s).1 (tk_bytes 4 s hb).1 rfl
  have hl := (tk_len 4 s).1
  refine ⟨h.1, ?_⟩
  have : (256 : Int) ^ (tkP 4 s).1.length ≤ 4294967296 := by
    match hl' : (tkP 4 s).1.length, hl with
    | 0, _ => decide
    | 1, _ => decide
    | 2, _ => decide
    | 3, _ => decide
    | 4, _ => decide
  have h2 := h.2
  show nmF (tkP 4 s).1 < 4294967296
  omega

set_option maxHeartbeats 1000000 in
theorem w_code (w0 : World) (R : Nat) (s : Rs) (w : World) (h : RdS w0 R w s) :
    Calls Try.prog 33 #[.pointer (some ⟨R, 0, none⟩)] w fun e w' => e = .returned (.int .i64 (coP s).1) ∧ RdS w0 R w' (coP s).2 ∧ w.grownBy w' (some R) := by
  have c1 := w_number w0 R s 1 w h (by omega)
  have b1 := nu_bd1 s h.bytes
  have c2 := fun w h => w_number w0 R (nuP 1 s).2 1 w h (by omega)
  unfold coP
  obtain ⟨a, ha⟩ : ∃ a, (nuP 1 s).1 = a := ⟨_, rfl⟩
  obtain ⟨σ, hσ⟩ : ∃ σ, (nuP 1 s).2 = σ := ⟨_, rfl⟩
  have e0 : nuP 1 s = (a, σ) := by rw [← ha, ← hσ]
  simp only [e0] at c1 c2 b1 ⊢
  obtain ⟨b10, b11⟩ := b1
  clear e0 ha hσ
  have cI := fun w => w_isCode a w
  cases hc : cdd a with
  | true =>
    simp only [if_true]
    rw [hc] at cI
    clear hc
    go_enter Try.func33, Try.ntmps33
    go_wp2_with (first
      | (go_at_call 24; refine (cI _).mono ?_; rintro e q ⟨rfl, hw⟩; obtain rfl := hw.symm)
      | (go_at_call 34; refine c1.mono ?_; rintro e w1 ⟨rfl, s1, g1⟩))
    go_ret
    exact ⟨rfl, s1, g1⟩
  | false =>
    simp only [Bool.false_eq_true, if_false]
    rw [hc] at cI
    have ha2 : 1 ≤ a ∧ a < 16 := by simp [cdd] at hc; omega
    obtain ⟨a0, a1⟩ := ha2
    clear hc
    have hb : bytesL σ.1 → 0 ≤ (nuP 1 σ).1 ∧ (nuP 1 σ).1 < 256 := nu_bd1 σ
    obtain ⟨b, hbb⟩ : ∃ b, (nuP 1 σ).1 = b := ⟨_, rfl⟩
    obtain ⟨τ, hτ⟩ : ∃ τ, (nuP 1 σ).2 = τ := ⟨_, rfl⟩
    simp only [hbb, hτ] at c2 hb ⊢
    clear hbb hτ
    go_enter Try.func33, Try.ntmps33
    go_wp2_with (first
      | (go_at_call 24; refine (cI _).mono ?_; rintro e q ⟨rfl, hw⟩; obtain rfl := hw.symm)
      | (go_at_call 34; refine (c2 _ s1).mono ?_; rintro e w2 ⟨rfl, s2, g2⟩; have hor := or64Q a b (by omega) b20 b21 (by omega))
      | (go_at_call 34; refine c1.mono ?_; rintro e w1 ⟨rfl, s1, g1⟩; obtain ⟨b20, b21⟩ := hb s1.bytes))
    go_ret
    exact ⟨rfl, s2, g_trans g1 g2⟩

set_option maxHeartbeats 1000000 in
theorem w_text (w0 : World) (R : Nat) (s : Rs) (w : World) (h : RdS w0 R w s) :
    Calls Try.prog 35 #[.pointer (some ⟨R, 0, none⟩)] w fun e w' => e = .returned (.string (strOfNums (txQ s).1)) ∧ RdS w0 R w' (txQ s).2 ∧ w.grownBy w' (some R) := by
  have c1 := w_number w0 R s 1 w h (by omega)
  have b1 := nu_bd1 s h.bytes
  have c2 := fun w h hn => w_take w0 R (nuP 1 s).2 (nuP 1 s).1.toNat w h hn
  unfold txQ
  obtain ⟨a, ha⟩ : ∃ a, (nuP 1 s).1 = a := ⟨_, rfl⟩
  obtain ⟨σ, hσ⟩ : ∃ σ, (nuP 1 s).2 = σ := ⟨_, rfl⟩
  simp only [ha, hσ] at c1 c2 b1 ⊢
  obtain ⟨b10, b11⟩ := b1
  obtain ⟨n, rfl⟩ := Int.eq_ofNat_of_zero_le b10
  rw [Int.toNat_natCast] at c2 ⊢
  obtain ⟨X, hX⟩ : ∃ X, (tkP n σ).1 = X := ⟨_, rfl⟩
  obtain ⟨τ, hτ⟩ : ∃ τ, (tkP n σ).2 = τ := ⟨_, rfl⟩
  simp only [hX, hτ] at c2 ⊢
  have hn : n ≤ 255 := by omega
  clear ha hσ hX hτ
  go_enter Try.func35, Try.ntmps35
  go_wp2_with (first
    | (go_at_call 37; refine (c2 _ s1 hn).mono ?_; rintro e w2 ⟨v2, rfl, r2, s2, g2⟩; have hcv := rd_strT (r2.below s2.below))
    | (go_at_call 34; refine c1.mono ?_; rintro e w1 ⟨rfl, s1, g1⟩))
  go_ret
  exact ⟨rfl, s2, g_trans g1 g2⟩

set_option maxHeartbeats 1000000 in
theorem w_offset (w0 : World) (R : Nat) (s : Rs) (wide : Bool) (w : World) (h : RdS w0 R w s) :
    Calls Try.prog 36 #[.pointer (some ⟨R, 0, none⟩), .bool wide] w fun e w' => e = .returned (.int .i64 (oqP wide s).1) ∧ RdS w0 R w' (oqP wide s).2 ∧ w.grownBy w' (some R) := by
  cases wide with
  | true =>
    have c1 := w_number w0 R s 2 w h (by omega)
    have b1 := nu_bd2 s h.bytes
    show Calls _ _ _ _ fun e w' => e = .returned (.int .i64 (sgF 32768 (nuP 2 s).1)) ∧ RdS w0 R w' (nuP 2 s).2 ∧ _
    have hw := wr16 _ b1.1 b1.2
    have hb : -32768 ≤ sgF 32768 (nuP 2 s).1 ∧ sgF 32768 (nuP 2 s).1 ≤ 32767 := by unfold sgF; split <;> omega
    obtain ⟨a, ha⟩ : ∃ a, (nuP 2 s).1 = a := ⟨_, rfl⟩
    rw [ha] at hw hb c1 ⊢
    obtain ⟨m, hm⟩ : ∃ m, sgF 32768 a = m := ⟨_, rfl⟩
    rw [hm] at hw hb ⊢
    obtain ⟨m0, m1⟩ := hb
    clear ha hm b1
    go_enter Try.func36, Try.ntmps36
    go_wp2_with (go_at_call 34; refine c1.mono ?_; rintro e w1 ⟨rfl, s1, g1⟩)
    go_ret
    exact ⟨rfl, s1, g1⟩
  | false =>
    have c1 := w_number w0 R s 1 w h (by omega)
    have b1 := nu_bd1 s h.bytes
    show Calls _ _ _ _ fun e w' => e = .returned (.int .i64 (sgF 128 (nuP 1 s).1)) ∧ RdS w0 R w' (nuP 1 s).2 ∧ _
    have hw := wr8 _ b1.1 b1.2
    have hb : -128 ≤ sgF 128 (nuP 1 s).1 ∧ sgF 128 (nuP 1 s).1 ≤ 127 := by unfold sgF; split <;> omega
    obtain ⟨a, ha⟩ : ∃ a, (nuP 1 s).1 = a := ⟨_, rfl⟩
    rw [ha] at hw hb c1 ⊢
    obtain ⟨m, hm⟩ : ∃ m, sgF 128 a = m := ⟨_, rfl⟩
    rw [hm] at hw hb ⊢
    obtain ⟨m0, m1⟩ := hb
    clear ha hm b1
    go_enter Try.func36, Try.ntmps36
    go_wp2_with (go_at_call 34; refine c1.mono ?_; rintro e w1 ⟨rfl, s1, g1⟩)
    go_ret
    exact ⟨rfl, s1, g1⟩
end Go.Proofs.Ytbllblikigogoaa
