/-
  Decode of the landed package token.
-/
import Derived.Test.YtbllblikigogoaaTk8
namespace Go.Proofs.Ytbllblikigogoaa
open Go.ChangeShapes Go.WideShapes Go.ChangeAt Go.RowKit
set_option linter.unusedVariables false
set_option linter.unusedSimpArgs false

theorem tx_tl (b t r : List Int) (h : txP b = some (t, r)) : t.length ≤ b.length := by
  match b with
  | [] => simp [txP] at h
  | k :: s =>
    simp only [txP] at h
    split at h
    · injection h with h; injection h with h1 h2
      subst h1
      simp
      omega
    · cases h
theorem be_tl (k : Nat) (hk : k ≤ 6) (c : Int) (wide : Bool) (b : List Int) (t : Tq) (r : List Int) (h : bePn k c wide b = some (t, r)) : t.t.length ≤ b.length := by
  match k, hk with
  | 0, _ => simp only [bePn] at h; injection h with h; injection h with h1 h2; subst h1; simp
  | 1, _ => simp only [bePn, Option.map_eq_some_iff] at h; obtain ⟨x, _, h2⟩ := h; injection h2 with h3 h4; subst h3; simp
  | 2, _ => simp only [bePn, Option.map_eq_some_iff] at h; obtain ⟨x, _, h2⟩ := h; injection h2 with h3 h4; subst h3; simp
  | 3, _ => simp only [bePn, Option.map_eq_some_iff] at h; obtain ⟨⟨x, y⟩, h1, h2⟩ := h; injection h2 with h3 h4; subst h3; exact tx_tl b x y h1
  | 4, _ => simp only [bePn, Option.map_eq_some_iff] at h; obtain ⟨x, _, h2⟩ := h; injection h2 with h3 h4; subst h3; simp
  | 5, _ => simp only [bePn, Option.map_eq_some_iff] at h; obtain ⟨x, _, h2⟩ := h; injection h2 with h3 h4; subst h3; simp
  | 6, _ => simp only [bePn, Option.bind_eq_some_iff, Option.map_eq_some_iff] at h; obtain ⟨⟨x, y⟩, h1, z, _, h2⟩ := h; injection h2 with h3 h4; subst h3; exact tx_tl b x y h1
theorem oneP_g (b : List Int) (hb : bytesL b) (wide : Bool) (t : Tq) (r : List Int) (h : oneP b wide = some (t, r)) : gQ t ∧ bytesL r ∧ t.t.length ≤ b.length ∧ r.length < b.length := by
  simp only [oneP, Option.bind_eq_some_iff] at h
  obtain ⟨⟨c, s⟩, h1, h2⟩ := h
  obtain ⟨q1, q2⟩ := by_cd b hb c s h1
  have hs : bytesL s := fun x hx => hb x (by rw [q2]; simp [hx])
  obtain ⟨p1, p2, p3⟩ := by_be _ (bh_le c) c wide s hs t r h2
  have hl := be_tl _ (bh_le c) c wide s t r h2
  have hc := cb_pos c
  refine ⟨p3, fun x hx => hs x (by rw [p2]; simp [hx]), ?_, ?_⟩
  · rw [q2, List.length_append]; omega
  · have := congrArg List.length p2
    rw [List.length_append] at this
    rw [q2, List.length_append]
    omega
theorem dec_nil (n : Nat) (w : Bool) : decG n [] w = some [] := by cases n <;> rfl
/-- one token more -/
theorem dec_one (b : List Int) (hb : bytesL b) (hne : 0 < b.length) (w : Bool) : decG b.length b w = (oneF b w).bind fun x => (decG x.2.length x.2 (wdF w x.1.c)).map (x.1 :: ·) := by
  match b with
  | [] => simp at hne
  | a :: s =>
    show decG (s.length + 1) (a :: s) w = _
    simp only [decG]
    cases h : oneF (a :: s) w with
    | none => rfl
    | some x =>
      obtain ⟨t, r⟩ := x
      have h1 := one_lt _ hb w t r h
      have h2 := (by_one _ hb w t r h).2.2.2
      simp only [List.length_cons] at h1
      simp only [Option.bind_some]
      rw [dec_fuel s.length r.length r _ h2 (by omega) (Nat.le_refl _)]
theorem RdS.grown {w0 w w' : World} {R : Nat} {s : Rs} {row : Option Nat} (h : RdS w0 R w s) (g : w.grownBy w' row) (hr : some R ≠ row) (hk : ∀ k, row = some k → w0.heap.size ≤ k) : RdS w0 R w' s := by
  obtain ⟨h1, h2, ⟨v, st, hr2⟩, h3, h4⟩ := h
  exact ⟨h1, below_grown h2 g hk, ⟨v, st.grown g hr, hr2⟩, h3, h4⟩
/-- how much is left, by the reader's cell -/
def leftOf (R : Nat) (w : World) : Nat := match w.cell? ⟨R, 0, none⟩ with
  | some v => lenOf v
  | none => 0
theorem left_is {w0 w : World} {R : Nat} {s : Rs} (h : RdS w0 R w s) : leftOf R w = s.1.length := by
  obtain ⟨h1, h2, ⟨v, st, hr⟩, h3, h4⟩ := h
  have f : w.cell? ⟨R, 0, none⟩ = some v := st.cell 0 _ rfl
  obtain ⟨ao, cp, rfl, _⟩ := rd_form hr
  simp [leftOf, f, lenOf]
def OwQs (base : Nat) (w : World) (v : Value) (out : List Tq) : Prop := w.ownsRow base 37 4 v out.length (out.flatMap tqC)
theorem OwQs.read {base : Nat} {w : World} {v : Value} {out : List Tq} (h : OwQs base w v out) : SlR 4 tqR w v out :=
  slr_rows tqC (fun _ _ => rfl) (by decide) h (fun _ _ => rfl)
theorem own_belowQ {w w' : World} {base : Nat} {v : Value} {out : List Tq} (h : OwQs base w v out) (g : Below w.heap.size w w') : OwQs base w' v out := by
  obtain ⟨hl, h⟩ := h
  refine ⟨hl, ?_⟩
  rcases h with h | ⟨b, cap, cur, rfl, hb, hg, hc, hm, hs, ht⟩
  · exact Or.inl h
  · refine Or.inr ⟨b, cap, cur, rfl, hb, ?_, hc, hm, hs, ht⟩
    rw [g.block b (Array.getElem?_eq_some_iff.1 hg).1]
    exact hg
def decE : Option (List Tq) → List Tq × Int
  | none => ([], 16)
  | some l => (l, 0)
theorem dec_is (l : List Int) (w : Bool) (h : ¬ 8192 < l.length) : decF l w = decE (decG l.length l w) := by
  unfold decF
  rw [if_neg h]
  cases decG l.length l w <;> rfl
theorem tq_one (t : Tq) : ∀ u ∈ tqC t, u.oneCell' = true := by
  intro u hu
  simp [tqC] at hu
  rcases hu with rfl | rfl | rfl | rfl <;> rfl

set_option maxHeartbeats 4000000 in
set_option maxRecDepth 100000 in
theorem w_pdec (v : Value) (l : List Int) (wide : Bool) (w : World) (h : Rd .u8 w v l) (hB : bytesL l) :
    Calls Try.prog 14 #[v, .bool wide] w fun e w' => ∃ v1, e = .returned (.tuple #[v1, .int .i64 (decF l wide).2]) ∧ SlR 4 tqR w' v1 (decF l wide).1 ∧ Below w.heap.size w w' := by
  have hlen := rd_len h uB (P := Try.prog)
  by_cases hl : 8192 < l.length
  · have e : decF l wide = ([], 3) := by unfold decF; rw [if_pos hl]
    rw [e]
    have hI : (8192 : Int) < l.length := by omega
    clear e hl
    go_enter Try.func14, Try.ntmps14
    go_wp2_with fail
    go_ret2
    exact ⟨_, rfl, (OwQs.read (base := 0) (out := []) (World.ownsRow_nil _ _ _ _)), Below.refl _ _⟩
  · have e := dec_is l wide hl
    rw [e]
    have hI : ¬ (8192 : Int) < l.length := by omega
    obtain ⟨i4, hi4, hz4, hs4, hb4⟩ := info_parts infoTok
    obtain ⟨ao, cp, hv, _, _, _⟩ := rd_form h
    subst hv
    have bR := box_below w (.cells #[.slice ao l.length cp, .bool false] 45)
    have stR := stands_new w #[.slice ao l.length cp, .bool false] 45
    have S0 : RdS w w.heap.size (w.alloc (.cells #[.slice ao l.length cp, .bool false] 45)) (l, false) := ⟨Nat.le_refl _, bR, ⟨_, stR, h⟩, hB, by simp only; omega⟩
    obtain ⟨X, hX⟩ : ∃ X, decG l.length l wide = X := ⟨_, rfl⟩
    rw [hX]
    have HX := hid hX
    obtain ⟨A, E, hAE⟩ : ∃ A E, decE X = (A, E) := ⟨_, _, rfl⟩
    have HA := hid hAE
    rw [hAE]
    show Calls _ _ _ _ fun e w' => ∃ v, e = .returned (.tuple #[v, .int .i64 E]) ∧ SlR 4 tqR w' v A ∧ _
    clear hAE
    have hL : (l.length : Int) ≤ 8192 := by omega
    clear hX e hl
    go_enter Try.func14, Try.ntmps14
    go_wp2_with fail
    go_loopw [1, 6] (fun Wd U wx => ∃ (W : Bool) (out : List Tq) (r : List Int), Wd = .bool W ∧ OwQs w.heap.size wx U out ∧ (out.length : Int) + r.length ≤ 8192 ∧ RdS w w.heap.size wx (r, false) ∧ Hid ((decG r.length r W).map (out ++ ·) = X)) (fun _ _ wx => leftOf w.heap.size wx)
    case atStart => exact ⟨wide, [], l, rfl, World.ownsRow_nil _ _ _ _, by simp; omega, S0, hid (by rw [← HX.out]; cases decG l.length l wide <;> simp)⟩
    case round =>
      obtain ⟨W, out, r, rfl, ho, hn, hS, hF⟩ := hrel
      have hleft := left_is hS
      obtain ⟨vr, st, hr⟩ := hS.at_
      have f0 : wr.cell? ⟨w.heap.size, 0, none⟩ = some vr := st.cell 0 _ rfl
      have hlr := rd_len hr uB (P := Try.prog)
      by_cases hlt : (0 : Int) < r.length
      · have cT := w_token w w.heap.size (r, false) W wr hS
        have hbr := hS.bytes
        have hd := hF.out
        rw [dec_one r hbr (by omega) W] at hd
        have hRl := hS.lt
        rcases tok_rsd W r hbr with ⟨t, r2, h1, h2⟩ | ⟨h1, h2⟩
        · obtain ⟨g1, g2, g3, g4⟩ := oneP_g r hbr W t r2 h1
          have e1 : oneF r W = if okQ t W then some (t, r2) else none := by simp [oneF, h1]
          rw [e1] at hd
          rw [h2] at cT
          obtain ⟨C, N, T, O⟩ := t
          simp only [tqC] at cT
          obtain ⟨N0, N1, hT⟩ := g1
          simp only at N0 N1 hT g3
          have cF := fun w => w_formed C N O (strOfNums T) W w N0 N1 (by rw [← LB_len, LB_nums T hT]; unfold maxLen; omega)
          simp only [LB_nums T hT] at cF
          have bx := fun w => box_below w (.cells #[.int .i64 C, .int .u32 N, .string (strOfNums T), .int .i64 O] 37)
          have sx := fun w => stands_new w #[.int .i64 C, .int .u32 N, .string (strOfNums T), .int .i64 O] 37
          have hone := tq_one ⟨C, N, T, O⟩
          have hr2 : (r2.length : Int) < r.length := by omega
          have HL := hid hleft
          cases hq : okQ ⟨C, N, T, O⟩ W with
          | true =>
            rw [hq] at hd cF
            simp only [if_true, Option.bind_some, Option.map_map] at hd
            have HD : Hid ((decG r2.length r2 (wdF W C)).map ((out ++ [⟨C, N, T, O⟩]) ++ ·) = X) := by
              show _ = _
              rw [← hd]
              cases decG r2.length r2 (wdF W C) <;> simp
            clear hd h1 h2 e1 hq hleft
            cases W with
            | true =>
              go_wp2_with (first
                | (go_at_call 19; refine (cF _).mono ?_; rintro e w2 ⟨rfl, b2⟩; have q2 := q1.mem b2; have st2 := s1.below b2; have f20 := st2.cell 0 _ rfl; have f21 := st2.cell 1 _ rfl; have f22 := st2.cell 2 _ rfl; have f23 := st2.cell 3 _ rfl; have o2 := own_belowQ o1 b2)
                | (go_at_call 22; refine cT.mono ?_; rintro e w1 ⟨rfl, p1, gg⟩; have o0 : OwQs w.heap.size w1 _ out := own_kept (Kept.stands st gg) (by decide) ho; have o1 := own_belowQ o0 (bx w1); have q1 := p1.mem (bx w1); have s1 := sx w1; obtain ⟨v1, z1, _⟩ := q1.at_; have f1 : World.cell? _ ⟨w.heap.size, 1, none⟩ = some (.bool false) := z1.cell 1 _ rfl; have f10 := s1.cell 0 _ rfl; have f11 := s1.cell 1 _ rfl; have f12 := s1.cell 2 _ rfl; have f13 := s1.cell 3 _ rfl)
                | (at_builtin; refine wpList_append_row rfl _ _ 22 rfl w.heap.size 37 i4 _ 4 40 Try.underlying22 hi4 hz4 hs4 hb4 rfl (by decide) _ out.length _ rfl (own_belowQ o2 (bx w2)) w2.heap.size (tqC ⟨C, N, T, O⟩) rfl rfl (alloc_row w2 (tqC ⟨C, N, T, O⟩) 37) hone (by unfold maxLen; omega) (by omega) (by rw [size_al]; have := q2.below.size; omega) ?_; intro v5 w5 o5 g5; have q5 := (q2.mem (bx w2)).grown g5 (stands_apart ((q2.mem (bx w2)).at_.choose_spec.1) (own_belowQ o2 (bx w2)) (by decide)) (fun k hk => ((own_belowQ o2 (bx w2)).lt k hk).1)))
              go_roundw
              case rel => exact ⟨true, out ++ [⟨C, N, T, O⟩], r2, rfl, by simpa [OwQs] using o5, by simp; omega, q5, HD⟩
              case measure => rw [left_is q5, HL.out]; simp only; omega
            | false =>
              go_wp2_with (first
                | (go_at_call 19; refine (cF _).mono ?_; rintro e w2 ⟨rfl, b2⟩; have q2 := q1.mem b2; have st2 := s1.below b2; have f20 := st2.cell 0 _ rfl; have f21 := st2.cell 1 _ rfl; have f22 := st2.cell 2 _ rfl; have f23 := st2.cell 3 _ rfl; have o2 := own_belowQ o1 b2)
                | (go_at_call 22; refine cT.mono ?_; rintro e w1 ⟨rfl, p1, gg⟩; have o0 : OwQs w.heap.size w1 _ out := own_kept (Kept.stands st gg) (by decide) ho; have o1 := own_belowQ o0 (bx w1); have q1 := p1.mem (bx w1); have s1 := sx w1; obtain ⟨v1, z1, _⟩ := q1.at_; have f1 : World.cell? _ ⟨w.heap.size, 1, none⟩ = some (.bool false) := z1.cell 1 _ rfl; have f10 := s1.cell 0 _ rfl; have f11 := s1.cell 1 _ rfl; have f12 := s1.cell 2 _ rfl; have f13 := s1.cell 3 _ rfl)
                | (at_builtin; refine wpList_append_row rfl _ _ 22 rfl w.heap.size 37 i4 _ 4 40 Try.underlying22 hi4 hz4 hs4 hb4 rfl (by decide) _ out.length _ rfl (own_belowQ o2 (bx w2)) w2.heap.size (tqC ⟨C, N, T, O⟩) rfl rfl (alloc_row w2 (tqC ⟨C, N, T, O⟩) 37) hone (by unfold maxLen; omega) (by omega) (by rw [size_al]; have := q2.below.size; omega) ?_; intro v5 w5 o5 g5; have q5 := (q2.mem (bx w2)).grown g5 (stands_apart ((q2.mem (bx w2)).at_.choose_spec.1) (own_belowQ o2 (bx w2)) (by decide)) (fun k hk => ((own_belowQ o2 (bx w2)).lt k hk).1); have st5 := (st2.below (bx w2)).grown g5 (fun hk => by have h9 := (ho.lt _ hk.symm).2; have h8 := gg.size; omega); have f50 := st5.cell 0 _ rfl))
              go_roundw
              case rel => exact ⟨wdF false C, out ++ [⟨C, N, T, O⟩], r2, rfl, by simpa [OwQs] using o5, by simp; omega, q5, HD⟩
              case measure => rw [left_is q5, HL.out]; simp only; omega
          | false =>
            rw [hq] at hd cF
            simp only [Bool.false_eq_true, if_false, Option.bind_none, Option.map_none] at hd
            have HD := hid hd
            clear hd h1 h2 e1 hq hleft
            go_wp2_with (first
              | (go_at_call 19; refine (cF _).mono ?_; rintro e w2 ⟨rfl, b2⟩; have q2 := q1.mem b2)
              | (go_at_call 22; refine cT.mono ?_; rintro e w1 ⟨rfl, p1, gg⟩; have q1 := p1.mem (bx w1); have s1 := sx w1; obtain ⟨v1, z1, _⟩ := q1.at_; have f1 : World.cell? _ ⟨w.heap.size, 1, none⟩ = some (.bool false) := z1.cell 1 _ rfl; have f10 := s1.cell 0 _ rfl; have f11 := s1.cell 1 _ rfl; have f12 := s1.cell 2 _ rfl; have f13 := s1.cell 3 _ rfl))
            go_ret2
            have hh := HA.out
            rw [← HD.out] at hh
            simp only [decE] at hh
            injection hh with h1 h2
            subst h1 h2
            exact ⟨_, rfl, (OwQs.read (base := 0) (out := []) (World.ownsRow_nil _ _ _ _)), q2.below⟩
        · have e1 : oneF r W = none := by simp [oneF, h1]
          rw [e1] at hd
          simp only [Option.bind_none, Option.map_none] at hd
          have HD := hid hd
          obtain ⟨t, σ, ht⟩ : ∃ t σ, tokP W (r, false) = (t, σ) := ⟨_, _, rfl⟩
          rw [ht] at cT h2
          obtain ⟨C, N, T, O⟩ := t
          obtain ⟨r2, s2⟩ := σ
          simp only at h2
          subst h2
          simp only [tqC] at cT
          have bx := fun w => box_below w (.cells #[.int .i64 C, .int .u32 N, .string (strOfNums T), .int .i64 O] 37)
          clear hd h1 e1 hleft ht
          go_wp2_with (go_at_call 22; refine cT.mono ?_; rintro e w1 ⟨rfl, p1, gg⟩; have q1 := p1.mem (bx w1); obtain ⟨v1, z1, _⟩ := q1.at_; have f1 : World.cell? _ ⟨w.heap.size, 1, none⟩ = some (.bool true) := z1.cell 1 _ rfl)
          go_ret2
          have hh := HA.out
          rw [← HD.out] at hh
          simp only [decE] at hh
          injection hh with h1 h2
          subst h1 h2
          exact ⟨_, rfl, (OwQs.read (base := 0) (out := []) (World.ownsRow_nil _ _ _ _)), q1.below⟩
      · have hrn : r = [] := List.eq_nil_of_length_eq_zero (by omega)
        subst hrn
        have hd := hF.out
        rw [dec_nil] at hd
        have HD := hid hd
        clear hd hF hleft
        go_wp2_with fail
        go_ret2
        have hh := HA.out
        rw [← HD.out] at hh
        simp only [Option.map_some, decE, List.append_nil] at hh
        injection hh with h1 h2
        subst h1 h2
        exact ⟨_, rfl, ho.read, hS.below⟩
end Go.Proofs.Ytbllblikigogoaa
