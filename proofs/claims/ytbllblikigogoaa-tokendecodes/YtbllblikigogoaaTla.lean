/-
  The fixed fact of layer 13's statements: alive returns true, out of the calls' plain functions.
-/
import Derived.Test.YtbllblikigogoaaTk9
namespace Go.Proofs.Ytbllblikigogoaa
open Go.ChangeShapes Go.WideShapes Go.ChangeAt Go.RowKit
set_option linter.unusedVariables false
set_option linter.unusedSimpArgs false

theorem dec_tl0 : ∀ (n : Nat) (b : List Int) (w : Bool) (l : List Tq), bytesL b → decG n b w = some l → ∀ t ∈ l, t.t.length ≤ b.length
  | n, [], w, l, _, h => by
    cases n <;> (simp [decG] at h; subst h; intro t ht; simp at ht)
  | 0, a :: b, w, l, _, h => by simp [decG] at h
  | n + 1, a :: b, w, l, hb, h => by
    simp only [decG, Option.bind_eq_some_iff, Option.map_eq_some_iff] at h
    obtain ⟨⟨t, r⟩, h1, l', h2, rfl⟩ := h
    have h3 : oneP (a :: b) w = some (t, r) := by
      simp only [oneF, Option.bind_eq_some_iff] at h1
      obtain ⟨x, h4, h5⟩ := h1
      split at h5
      · injection h5 with h5; rw [h4, h5]
      · cases h5
    obtain ⟨_, q2, q3, q4⟩ := oneP_g _ hb w t r h3
    intro u hu
    simp at hu
    rcases hu with rfl | hu
    · exact q3
    · have := dec_tl0 n r _ l' q2 h2 u hu
      omega
theorem dec_tl (b : List Int) (w : Bool) (hb : bytesL b) : ∀ t ∈ (decF b w).1, t.t.length ≤ 8192 := by
  rcases dec_cases b w with ⟨l, h1, h2, h3⟩ | ⟨h, _⟩
  · rw [h3]
    intro t ht
    have := dec_tl0 _ b w l hb h1 t ht
    omega
  · rw [h]; intro x hx; simp at hx
theorem siz_enc (t : Tq) (w : Bool) : (encF [t] w).1.length = sizF t w ∧ (0 < sizF t w ↔ (encF [t] w).2 = 0) := by
  unfold encF sizF
  cases h : okQ t w with
  | true =>
    have h1 := by_len t w h
    have h2 := by_pos t w
    rw [fin_ok _ _ _ _ h, fin_end]
    simp only [List.nil_append, if_true]
    rw [if_neg (by omega)]
    exact ⟨rfl, by simp; omega⟩
  | false =>
    rw [fin_no _ _ _ _ h]
    simp
theorem tq_lit1 (w : World) (t : Tq) : SlR 4 tqR (w.alloc (.cells (tqC t).toArray 37)) (.slice (some ⟨w.heap.size, 0, none⟩) 1 1) [t] := by
  refine ⟨[tqC t], Or.inr ⟨w.heap.size, 0, 1, rfl, by simp, by simp, by decide, fun i hi => ?_⟩, rfl, fun i hi => ?_⟩
  · have : i = 0 := by simp at hi; omega
    subst this
    refine ⟨rfl, fun j hj => ?_⟩
    rw [World.cell?_alloc_new]
    simp
  · have : i = 0 := by simp at hi; omega
    subst this
    rfl
theorem al_dec : decF [19, 254] false = ([⟨19, 0, [], -2⟩], 0) := by decide +kernel
theorem al_siz : sizF ⟨19, 0, LB ⟨#[]⟩, -2⟩ true = 3 := by decide +kernel
theorem al_by : bytesL [19, 254] := by intro x hx; simp at hx; omega

set_option maxHeartbeats 1000000 in
set_option maxRecDepth 100000 in
theorem w_alive13 (w : World) : Calls Try.prog 9 #[] w fun e w' => e = .returned (.bool true) ∧ Below w.heap.size w w' := by
  have c1 := w_pdec (.slice (some ⟨w.heap.size, 0, none⟩) 2 2) [19, 254] false _ (rd_lit (k := .u8) w [19, 254] 5 (by simp) (by simp [maxLen])) al_by
  rw [al_dec] at c1
  have c2 := fun w => w_psize 19 0 (-2) ⟨#[]⟩ true w (by decide) (by decide) (by decide)
  rw [al_siz] at c2
  have bw := box_below w (.cells (([19, 254] : List Int).map (Value.int .u8)).toArray 5)
  have hne := fun w => tq_eql w 19 0 (-2) 19 0 (-2) ⟨#[]⟩ ⟨#[]⟩
  have hgd := fun w x y => run_eqGuard_agg (P := Try.prog) w .eql 37 x y #[.int .i64 19, .int .u32 0, .string ⟨#[]⟩, .int .i64 (-2)] #[.int .i64 19, .int .u32 0, .string ⟨#[]⟩, .int .i64 (-2)] tq_guard
  go_enter Try.func9, Try.ntmps9
  go_wp2_with (first
    | (go_at_call 14; refine c1.mono ?_; rintro e w1 ⟨v1, rfl, r1, b1⟩; have hl1 := slr_len r1 uQ (P := Try.prog); obtain ⟨b1x, o1, C, N, O, T, i1, a0, a1, a2, a3, e0, e1, e2, e3⟩ := tq_at r1 0 (by simp); simp only [List.getElem_cons_zero] at e0 e1 e2 e3; obtain rfl := e0.symm; obtain rfl := e1.symm; obtain rfl := e3.symm; obtain rfl : T = ⟨#[]⟩ := e2.symm; have i9 : ∀ w', (Instr.indexAt 22 v1 (.int .i64 0)).run Try.prog w' = .ok (.pointer (some ⟨b1x, o1, none⟩)) w' := i1)
    | (go_at_call 17; refine (c2 _).mono ?_; rintro e w2 ⟨rfl, b2⟩))
  go_ret
  exact ⟨rfl, below_trans bw (below_trans b1 b2)⟩
end Go.Proofs.Ytbllblikigogoaa
