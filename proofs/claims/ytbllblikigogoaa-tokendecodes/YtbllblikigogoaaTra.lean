/-
  Decode of the document's answer for tokens.
-/
import Derived.Test.YtbllblikigogoaaTr9
namespace Go.Proofs.Ytbllblikigogoaa
open Go.ChangeShapes Go.WideShapes Go.ChangeAt Go.RowKit
set_option linter.unusedVariables false
set_option linter.unusedSimpArgs false

theorem one_pair {b r : List Int} {wide : Bool} {cs : Array Value} {n : Int} {C N O : Int} {T : List Int} {nb : Nat} (h : OneA b wide cs n) (hq : oneF b wide = some (⟨C, N, T, O⟩, r)) (hn : (byQ ⟨C, N, T, O⟩ wide).length = nb) :
    n = (nb : Int) ∧ cs = #[.int .i64 C, .int .u32 N, .string (strOfNums T), .int .i64 O] := by
  rcases h with ⟨h1, _⟩ | ⟨t, r', h1, h2, h3⟩
  · rw [hq] at h1; cases h1
  · rw [hq] at h1
    injection h1 with h1
    injection h1 with h4 h5
    subst h4
    exact ⟨by rw [h3, hn], h2⟩
theorem one_zero {b : List Int} {wide : Bool} {cs : Array Value} {n : Int} (h : OneA b wide cs n) (hq : oneF b wide = none) : n = 0 ∧ cs = #[.int .i64 0, .int .u32 0, .string ⟨#[]⟩, .int .i64 0] := by
  rcases h with ⟨_, h1, h2⟩ | ⟨t, r, h1, _⟩
  · exact ⟨h1, h2⟩
  · rw [hq] at h1; cases h1

set_option maxHeartbeats 4000000 in
set_option maxRecDepth 100000 in
theorem w_rdec (v : Value) (l : List Int) (wide : Bool) (w : World) (h : Rd .u8 w v l) (hB : bytesL l) :
    Calls Try.prog 15 #[v, .bool wide] w fun e w' => ∃ v1, e = .returned (.tuple #[v1, .int .i64 (decF l wide).2]) ∧ SlR 4 tqR w' v1 (decF l wide).1 ∧ Below w.heap.size w w' := by
  have hlen := rd_len h uB (P := Try.prog)
  by_cases hl : 8192 < l.length
  · have e : decF l wide = ([], 3) := by unfold decF; rw [if_pos hl]
    rw [e]
    have hI : (8192 : Int) < l.length := by omega
    clear e hl
    go_enter Try.func15, Try.ntmps15
    go_wp2_with fail
    go_ret2
    exact ⟨_, rfl, (OwQs.read (base := 0) (out := []) (World.ownsRow_nil _ _ _ _)), Below.refl _ _⟩
  · have e := dec_is l wide hl
    rw [e]
    have hI : ¬ (8192 : Int) < l.length := by omega
    obtain ⟨i4, hi4, hz4, hs4, hb4⟩ := info_parts infoTok
    obtain ⟨X, hX⟩ : ∃ X, decG l.length l wide = X := ⟨_, rfl⟩
    rw [hX]
    have HX := hid hX
    obtain ⟨A, E, hAE⟩ : ∃ A E, decE X = (A, E) := ⟨_, _, rfl⟩
    have HA := hid hAE
    rw [hAE]
    show Calls _ _ _ _ fun e w' => ∃ v, e = .returned (.tuple #[v, .int .i64 E]) ∧ SlR 4 tqR w' v A ∧ _
    have hL : (l.length : Int) ≤ 8192 := by omega
    clear hAE hX e hl
    go_enter Try.func15, Try.ntmps15
    go_wp2_with fail
    go_loopw [1, 6, 7] (fun Wd U I wx => ∃ (W : Bool) (out : List Tq) (k : Nat), Wd = .bool W ∧ I = .int .i64 k ∧ OwQs w.heap.size wx U out ∧ (k : Int) ≤ l.length ∧ (out.length : Int) ≤ k ∧ Hid ((decG (l.drop k).length (l.drop k) W).map (out ++ ·) = X) ∧ Below w.heap.size w wx) (fun _ _ I _ => (l.length - intOf I).toNat)
    case atStart => exact ⟨wide, [], 0, rfl, rfl, World.ownsRow_nil _ _ _ _, by omega, by simp, hid (by rw [← HX.out, List.drop_zero]; cases decG l.length l wide <;> simp), Below.refl _ _⟩
    case round =>
      obtain ⟨W, out, k, rfl, rfl, ho, hk, hn, hF, hb⟩ := hrel
      by_cases hlt : (k : Int) < l.length
      · obtain ⟨vr, rr, _, _, cut⟩ := rd_cut h uB zB k l.length (by omega) (Nat.le_refl _)
        rw [List.take_of_length_le (by simp)] at rr
        have cut1 := cut rfl
        have hbr : bytesL (l.drop k) := fun x hx => hB x (List.mem_of_mem_drop hx)
        have hdl : (l.drop k).length = l.length - k := by simp
        have hd := hF.out
        rw [dec_one (l.drop k) hbr (by omega) W] at hd
        have cO := fun w h => w_rone vr (l.drop k) W w h hbr (by omega)
        have hod : ∀ t r, oneF (l.drop k) W = some (t, r) → okQ t W = true ∧ gQ t ∧ r = l.drop (k + (byQ t W).length) ∧ (byQ t W).length ≤ l.length - k ∧ 0 < (byQ t W).length ∧ t.t.length ≤ 8192 := by
          intro t r hq
          obtain ⟨p1, p2, p3, p4⟩ := by_one _ hbr W t r hq
          have hlen2 := congrArg List.length p2
          rw [List.length_append, hdl] at hlen2
          refine ⟨p1, p3, ?_, by omega, by_pos t W, ?_⟩
          · rw [← List.drop_drop, p2, List.drop_left']
            rfl
          · have h3 : oneP (l.drop k) W = some (t, r) := by
              simp only [oneF, Option.bind_eq_some_iff] at hq
              obtain ⟨x, h4, h5⟩ := hq
              split at h5
              · injection h5 with h5; rw [h4, h5]
              · cases h5
            have := (oneP_g _ hbr W t r h3).2.2.1
            omega
        obtain ⟨R, hR⟩ : ∃ R, l.drop k = R := ⟨_, rfl⟩
        simp only [hR] at hd cO hod rr
        cases hq : oneF R W with
        | none =>
          rw [hq] at hd
          simp only [Option.bind_none, Option.map_none] at hd
          have HD := hid hd
          have bx := fun w => box_below w (.cells #[.int .i64 0, .int .u32 0, .string ⟨#[]⟩, .int .i64 0] 37)
          have HQ := hid hq
          clear hd hod hq hF hdl hR
          go_wp2_with (go_at_call 23; refine (cO _ (rr.below hb)).mono ?_; rintro e w1 ⟨cs, n, rfl, ha, b1⟩; obtain ⟨rfl, rfl⟩ : n = 0 ∧ cs = #[.int .i64 0, .int .u32 0, .string ⟨#[]⟩, .int .i64 0] := (one_zero ha HQ.out))
          go_ret2
          have hh := HA.out
          rw [← HD.out] at hh
          simp only [decE] at hh
          injection hh with h1 h2
          subst h1 h2
          exact ⟨_, rfl, (OwQs.read (base := 0) (out := []) (World.ownsRow_nil _ _ _ _)), below_trans hb (below_trans b1 (bx w1))⟩
        | some x =>
          obtain ⟨t, r⟩ := x
          obtain ⟨p1, p2, p3, p4, p5, p6⟩ := hod t r hq
          rw [hq] at hd
          simp only [Option.bind_some, Option.map_map] at hd
          rw [p3] at hd
          obtain ⟨nb, hnb⟩ : ∃ nb, (byQ t W).length = nb := ⟨_, rfl⟩
          rw [hnb] at hd p4 p5
          obtain ⟨C, N, T, O⟩ := t
          have HD : Hid ((decG (l.drop (k + nb)).length (l.drop (k + nb)) (wdF W C)).map ((out ++ [⟨C, N, T, O⟩]) ++ ·) = X) := by
            show _ = _
            rw [← hd]
            cases decG (l.drop (k + nb)).length (l.drop (k + nb)) (wdF W C) <;> simp
          have HQ := hid hq
          have HN := hid hnb
          have bx := fun w => box_below w (.cells #[.int .i64 C, .int .u32 N, .string (strOfNums T), .int .i64 O] 37)
          have sx := fun w => stands_new w #[.int .i64 C, .int .u32 N, .string (strOfNums T), .int .i64 O] 37
          have hone := tq_one ⟨C, N, T, O⟩
          have hnz : ((nb : Int) == 0) = false := by rw [beq_eq_false_iff_ne]; omega
          have hkn : (k : Int) + nb ≤ l.length := by omega
          have hp5 : (0 : Int) < nb := by omega
          clear hd hod hq hF hdl hR p1 p2 p3 p4 p5 p6 hnb
          cases W with
          | true =>
            go_wp2_with (first
              | (go_at_call 23; refine (cO _ (rr.below hb)).mono ?_; rintro e w1 ⟨cs, n, rfl, ha, b1⟩; obtain ⟨rfl, rfl⟩ : n = (nb : Int) ∧ cs = #[.int .i64 C, .int .u32 N, .string (strOfNums T), .int .i64 O] := (one_pair ha HQ.out HN.out); have o1 := own_belowQ ho (below_trans b1 (bx w1)); have hb1 := below_trans hb (below_trans b1 (bx w1)); have s1 := sx w1; have f10 := s1.cell 0 _ rfl; have f11 := s1.cell 1 _ rfl; have f12 := s1.cell 2 _ rfl; have f13 := s1.cell 3 _ rfl)
              | (at_builtin; refine wpList_append_row rfl _ _ 22 rfl w.heap.size 37 i4 _ 4 40 Try.underlying22 hi4 hz4 hs4 hb4 rfl (by decide) _ out.length _ rfl (own_belowQ o1 (bx _)) (w1.heap.size + 1) (tqC ⟨C, N, T, O⟩) rfl rfl (alloc_row2 w1 _ (tqC ⟨C, N, T, O⟩) 37) hone (by unfold maxLen; omega) (by omega) (by rw [size_al]; have := hb1.size; omega) ?_; intro v5 w5 o5 g5; have hb5 := below_grown (below_trans hb1 (bx _)) g5 (fun k hk => ((own_belowQ o1 (bx _)).lt k hk).1)))
            go_roundw
            case rel => exact ⟨true, out ++ [⟨C, N, T, O⟩], k + nb, rfl, by go_num, by simpa [OwQs] using o5, by omega, by simp; omega, HD, hb5⟩
            case measure => simp [intOf]; omega
          | false =>
            go_wp2_with (first
              | (go_at_call 23; refine (cO _ (rr.below hb)).mono ?_; rintro e w1 ⟨cs, n, rfl, ha, b1⟩; obtain ⟨rfl, rfl⟩ : n = (nb : Int) ∧ cs = #[.int .i64 C, .int .u32 N, .string (strOfNums T), .int .i64 O] := (one_pair ha HQ.out HN.out); have o1 := own_belowQ ho (below_trans b1 (bx w1)); have hb1 := below_trans hb (below_trans b1 (bx w1)); have s1 := sx w1; have f10 := s1.cell 0 _ rfl; have f11 := s1.cell 1 _ rfl; have f12 := s1.cell 2 _ rfl; have f13 := s1.cell 3 _ rfl)
              | (at_builtin; refine wpList_append_row rfl _ _ 22 rfl w.heap.size 37 i4 _ 4 40 Try.underlying22 hi4 hz4 hs4 hb4 rfl (by decide) _ out.length _ rfl (own_belowQ o1 (bx _)) (w1.heap.size + 1) (tqC ⟨C, N, T, O⟩) rfl rfl (alloc_row2 w1 _ (tqC ⟨C, N, T, O⟩) 37) hone (by unfold maxLen; omega) (by omega) (by rw [size_al]; have := hb1.size; omega) ?_; intro v5 w5 o5 g5; have hb5 := below_grown (below_trans hb1 (bx _)) g5 (fun k hk => ((own_belowQ o1 (bx _)).lt k hk).1); have st5 := (s1.below (bx _)).grown g5 (fun hk => by have h9 := (ho.lt _ hk.symm).2; have h8 := b1.size; omega); have f50 := st5.cell 0 _ rfl))
            go_roundw
            case rel => exact ⟨wdF false C, out ++ [⟨C, N, T, O⟩], k + nb, rfl, by go_num, by simpa [OwQs] using o5, by omega, by simp; omega, HD, hb5⟩
            case measure => simp [intOf]; omega
      · have hd := hF.out
        rw [show l.drop k = [] from List.drop_eq_nil_of_le (by omega), dec_nil] at hd
        have HD := hid hd
        clear hd hF
        go_wp2_with fail
        go_ret2
        have hh := HA.out
        rw [← HD.out] at hh
        simp only [Option.map_some, decE, List.append_nil] at hh
        injection hh with h1 h2
        subst h1 h2
        exact ⟨_, rfl, ho.read, hb⟩
end Go.Proofs.Ytbllblikigogoaa
