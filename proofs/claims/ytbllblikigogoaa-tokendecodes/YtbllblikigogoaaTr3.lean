/-
  Bytes, Size, Same and Encode of the document's answer for tokens.
-/
import Derived.Test.YtbllblikigogoaaTr1
import Derived.Test.YtbllblikigogoaaTr2
namespace Go.Proofs.Ytbllblikigogoaa
open Go.ChangeShapes Go.WideShapes Go.ChangeAt Go.RowKit
set_option linter.unusedVariables false
set_option linter.unusedSimpArgs false

set_option maxHeartbeats 4000000 in
set_option maxRecDepth 100000 in
theorem w_rbytes4 (c n o : Int) (S : ByteArray) (wide : Bool) (w : World) (n0 : 0 ≤ n) (n1 : n < 4294967296) (o0 : -9223372036854775808 ≤ o) (o1 : o < 9223372036854775808) (hs : S.size ≤ maxLen) (hc : cdd c = true) (hk : bhF c = 4) :
    Calls Try.prog 21 #[.agg #[.int .i64 c, .int .u32 n, .string S, .int .i64 o], .bool wide] w fun e w' => ∃ v1, e = .returned (.tuple #[v1, .bool (okB 4 ⟨c, n, LB S, o⟩ wide)]) ∧ (okB 4 ⟨c, n, LB S, o⟩ wide = true → OwB w.heap.size w' v1 (cbF c ++ beQ 4 ⟨c, n, LB S, o⟩ wide)) ∧ Below w.heap.size w w' := by
  obtain ⟨i0, hi, hz0, hz1, hz2⟩ := info_parts infoU8
  have hs2 := hs
  unfold maxLen at hs2
  have cI := fun w => w_coded c w
  rw [hc] at cI
  have cB := fun w => w_rbehind c w
  rw [hk] at cB
  have cC := fun w => w_rcode c w hc
  have HC := hid hc
  have HK := hid hk
  clear hc hk
  rcases Decidable.em (¬ n = 0) with hn | hn
  · have e : okB 4 ⟨c, n, LB S, o⟩ wide = false := by simp [okB, hn]
    rw [e]
    have q1 : (n != 0) = true := by simpa using hn
    have bw := box_below w (.cells #[.int .i64 c, .int .u32 n, .string S, .int .i64 o] 37)
    clear e hn cC
    go_enter Try.func21, Try.ntmps21
    go_wp2_with (first
      | (go_at_call 30; refine (cB _).mono ?_; rintro e q ⟨rfl, hw⟩; obtain rfl := hw.symm)
      | (go_at_call_of 29 (Value.int .i64 c); refine (cI _).mono ?_; rintro e q ⟨rfl, hw⟩; obtain rfl := hw.symm))
    go_ret2
    exact ⟨_, rfl, (by intro h; cases h), bw⟩
  · have hn := Decidable.not_not.1 hn
    subst hn
    rcases Decidable.em (¬ LB S = []) with hS | hS
    · have e : okB 4 ⟨c, 0, LB S, o⟩ wide = false := by simp [okB, hS]
      rw [e]
      have q0 : S.toList.isEmpty = false := by rw [nil_emp]; simpa using hS
      have q1 : (S.toList != (⟨#[]⟩ : ByteArray).toList) = true := by simp only [bne, nil_beq]; simpa using hS
      have q2 : (S.toList != []) = true := by simp only [bne]; rw [show (S.toList == []) = S.toList.isEmpty by cases S.toList <;> rfl, q0]; rfl
      have bw := box_below w (.cells #[.int .i64 c, .int .u32 0, .string S, .int .i64 o] 37)
      clear e hS cC
      go_enter Try.func21, Try.ntmps21
      go_wp2_with (first
        | (go_at_call 30; refine (cB _).mono ?_; rintro e q ⟨rfl, hw⟩; obtain rfl := hw.symm)
        | (go_at_call_of 29 (Value.int .i64 c); refine (cI _).mono ?_; rintro e q ⟨rfl, hw⟩; obtain rfl := hw.symm))
      go_ret2
      exact ⟨_, rfl, (by intro h; cases h), bw⟩
    · have hS := Decidable.not_not.1 hS
      obtain rfl : S = ⟨#[]⟩ := by rw [LB_eq, hS]; rfl
      have bw := box_below w (.cells #[.int .i64 c, .int .u32 0, .string ⟨#[]⟩, .int .i64 o] 37)
      have sw := stands_new w #[.int .i64 c, .int .u32 0, .string ⟨#[]⟩, .int .i64 o] 37
      clear sw bw cC cB cI
      have e0 : LB ⟨#[]⟩ = [] := rfl
      cases wide with
      | true =>
        by_cases h1 : o < -32768
        · have e : okB 4 ⟨c, 0, LB ⟨#[]⟩, o⟩ true = false := by simp [okB, offF]; omega
          rw [e]
          exact (w_rbytes4wl c o w o0 o1 HC.out HK.out h1).mono (by rintro e w2 ⟨v2, rfl, b⟩; exact ⟨v2, rfl, (by intro h; cases h), b⟩)
        by_cases h2 : 32767 < o
        · have e : okB 4 ⟨c, 0, LB ⟨#[]⟩, o⟩ true = false := by simp [okB, offF]; omega
          rw [e]
          exact (w_rbytes4wh c o w o0 o1 HC.out HK.out (by omega) h2).mono (by rintro e w2 ⟨v2, rfl, b⟩; exact ⟨v2, rfl, (by intro h; cases h), b⟩)
        · have e : okB 4 ⟨c, 0, LB ⟨#[]⟩, o⟩ true = true := by simp [okB, offF, e0]; omega
          rw [e]
          exact (w_rbytes4w c o w o0 o1 HC.out HK.out (by omega) (by omega)).mono (by rintro e w2 ⟨v2, rfl, q, b⟩; exact ⟨v2, rfl, fun _ => q, b⟩)
      | false =>
        by_cases h1 : o < -128
        · have e : okB 4 ⟨c, 0, LB ⟨#[]⟩, o⟩ false = false := by simp [okB, offF]; omega
          rw [e]
          exact (w_rbytes4nl c o w o0 o1 HC.out HK.out h1).mono (by rintro e w2 ⟨v2, rfl, b⟩; exact ⟨v2, rfl, (by intro h; cases h), b⟩)
        by_cases h2 : 127 < o
        · have e : okB 4 ⟨c, 0, LB ⟨#[]⟩, o⟩ false = false := by simp [okB, offF]; omega
          rw [e]
          exact (w_rbytes4nh c o w o0 o1 HC.out HK.out (by omega) h2).mono (by rintro e w2 ⟨v2, rfl, b⟩; exact ⟨v2, rfl, (by intro h; cases h), b⟩)
        · have e : okB 4 ⟨c, 0, LB ⟨#[]⟩, o⟩ false = true := by simp [okB, offF, e0]; omega
          rw [e]
          exact (w_rbytes4n c o w o0 o1 HC.out HK.out (by omega) (by omega)).mono (by rintro e w2 ⟨v2, rfl, q, b⟩; exact ⟨v2, rfl, fun _ => q, b⟩)

set_option maxHeartbeats 1000000 in
set_option maxRecDepth 100000 in
theorem w_rbytes (c n o : Int) (S : ByteArray) (wide : Bool) (w : World) (n0 : 0 ≤ n) (n1 : n < 4294967296) (o0 : -9223372036854775808 ≤ o) (o1 : o < 9223372036854775808) (hs : S.size ≤ maxLen) :
    Calls Try.prog 21 #[.agg #[.int .i64 c, .int .u32 n, .string S, .int .i64 o], .bool wide] w fun e w' => ∃ v1, e = .returned (.tuple #[v1, .bool (okQ ⟨c, n, LB S, o⟩ wide)]) ∧ (okQ ⟨c, n, LB S, o⟩ wide = true → OwB w.heap.size w' v1 (byQ ⟨c, n, LB S, o⟩ wide)) ∧ Below w.heap.size w w' := by
  cases hc : cdd c with
  | true =>
    have e : okQ ⟨c, n, LB S, o⟩ wide = okB (bhF c) ⟨c, n, LB S, o⟩ wide := by simp [okQ, hc]
    rw [e]
    unfold byQ
    have hk := bh_le c
    obtain ⟨k, hkk⟩ : ∃ k, bhF c = k := ⟨_, rfl⟩
    simp only [hkk]
    rw [hkk] at hk
    match k, hk with
    | 0, _ => exact w_rbytes0 c n o S wide w n0 n1 hs hc hkk
    | 1, _ => exact w_rbytes1 c n o S wide w n0 n1 hs hc hkk
    | 2, _ => exact w_rbytes2 c n o S wide w n0 n1 hs hc hkk
    | 3, _ => exact w_rbytes3 c n o S wide w n0 n1 hs hc hkk
    | 4, _ => exact w_rbytes4 c n o S wide w n0 n1 o0 o1 hs hc hkk
    | 5, _ => exact w_rbytes5 c n o S wide w n0 n1 hs hc hkk
    | 6, _ => exact w_rbytes6 c n o S wide w n0 n1 hs hc hkk
  | false =>
    have e : okQ ⟨c, n, LB S, o⟩ wide = false := by simp [okQ, hc]
    rw [e]
    have cI := fun w => w_coded c w
    rw [hc] at cI
    have bw := box_below w (.cells #[.int .i64 c, .int .u32 n, .string S, .int .i64 o] 37)
    clear hc e
    go_enter Try.func21, Try.ntmps21
    go_wp2_with (go_at_call 29; refine (cI _).mono ?_; rintro e w1 ⟨rfl, hw⟩; obtain rfl := hw.symm)
    go_ret2
    exact ⟨_, rfl, (by intro h; cases h), bw⟩

set_option maxHeartbeats 1000000 in
theorem w_rsize (c n o : Int) (S : ByteArray) (wide : Bool) (w : World) (n0 : 0 ≤ n) (n1 : n < 4294967296) (o0 : -9223372036854775808 ≤ o) (o1 : o < 9223372036854775808) (hs : S.size ≤ maxLen) :
    Calls Try.prog 18 #[.agg #[.int .i64 c, .int .u32 n, .string S, .int .i64 o], .bool wide] w fun e w' => e = .returned (.int .i64 (sizF ⟨c, n, LB S, o⟩ wide : Nat)) ∧ Below w.heap.size w w' := by
  have cB := fun w => w_rbytes c n o S wide w n0 n1 o0 o1 hs
  have bw := box_below w (.cells #[.int .i64 c, .int .u32 n, .string S, .int .i64 o] 37)
  cases hk : okQ ⟨c, n, LB S, o⟩ wide with
  | true =>
    have hq : sizF ⟨c, n, LB S, o⟩ wide = (byQ ⟨c, n, LB S, o⟩ wide).length := by simp [sizF, hk]
    rw [hq]
    rw [hk] at cB
    clear hq hk
    go_enter Try.func18, Try.ntmps18
    go_wp2_with (go_at_call 21; refine (cB _).mono ?_; rintro e w2 ⟨v2, rfl, o2, b2⟩; have hl2 := rd_len (Rd_own (o2 rfl)).1 uB (P := Try.prog))
    go_ret
    exact ⟨rfl, below_trans bw b2⟩
  | false =>
    have hq : sizF ⟨c, n, LB S, o⟩ wide = 0 := by simp [sizF, hk]
    rw [hq]
    rw [hk] at cB
    clear hq hk
    go_enter Try.func18, Try.ntmps18
    go_wp2_with (go_at_call 21; refine (cB _).mono ?_; rintro e w2 ⟨v2, rfl, o2, b2⟩)
    go_ret
    exact ⟨rfl, below_trans bw b2⟩

/-- what an offset in memory is like -/
def oQ (t : Tq) : Prop := -9223372036854775808 ≤ t.o ∧ t.o < 9223372036854775808

set_option maxHeartbeats 4000000 in
set_option maxRecDepth 100000 in
theorem w_renc (v : Value) (xs : List Tq) (wide : Bool) (w : World) (h : SlR 4 tqR w v xs) (g : ∀ t ∈ xs, gQ t) (gl : ∀ t ∈ xs, t.t.length ≤ maxLen) (go : ∀ t ∈ xs, oQ t) :
    Calls Try.prog 11 #[v, .bool wide] w fun e w' => ∃ v1, e = .returned (.tuple #[v1, .int .i64 (encF xs wide).2]) ∧ Rd .u8 w' v1 (encF xs wide).1 ∧ Below w.heap.size w w' := by
  have hla := slr_len h uQ (P := Try.prog)
  have hma := slr_max h
  unfold maxLen at hma
  obtain ⟨i0, hi, hz0, hz1, hz2⟩ := info_parts infoU8
  obtain ⟨A, E, hAE⟩ : ∃ A E, encF xs wide = (A, E) := ⟨_, _, rfl⟩
  have HAE : Hid (finF [] xs wide = (A, E)) := hid hAE
  rw [hAE]
  show Calls _ _ _ _ fun e w' => ∃ v, e = .returned (.tuple #[v, .int .i64 E]) ∧ Rd .u8 w' v A ∧ _
  clear hAE
  go_enter Try.func11, Try.ntmps11
  go_wp2_with fail
  go_loopw [1, 6, 7, 8] (fun Wd U L I wx => ∃ (k : Nat) (B : List Int) (W f : Bool) (O : List Int), (k : Int) ≤ xs.length ∧ I = .int .i64 k ∧ Wd = .bool W ∧ L = .bool f ∧ OwB w.heap.size wx U O ∧ (O.length : Int) ≤ 8192 ∧ Hid (finF B (xs.drop k) W = (A, E)) ∧ Hid (f = true → 8192 < B.length) ∧ Hid (f = false → B = O) ∧ Below w.heap.size w wx) (fun _ _ _ I _ => (xs.length - intOf I).toNat)
  case atStart => exact ⟨0, [], wide, false, [], by omega, rfl, rfl, rfl, World.ownsRow_nil _ _ _ _, by simp, HAE, hid (fun h => by cases h), hid (fun _ => rfl), Below.refl _ _⟩
  case round =>
    obtain ⟨k, B, W, f, O, hk, rfl, rfl, rfl, ho, hOl, hF, hf1, hf2, hb⟩ := hrel
    have hlo := rd_len (Rd_own ho).1 uB (P := Try.prog)
    by_cases hlt : (k : Int) < xs.length
    · have hkk : k < xs.length := by omega
      obtain ⟨b1, o1, C, N, Of, T, r1, a0, a1, a2, a3, e0, e1, e2, e3⟩ := tq_at (h.below hb tqR_below) k hkk
      have hg := g _ (List.getElem_mem hkk)
      have hgl := gl _ (List.getElem_mem hkk)
      have hgo := go _ (List.getElem_mem hkk)
      have hT : LB T = xs[k].t := by rw [← e2]; exact LB_nums _ hg.2.2
      have hx : xs[k] = ⟨C, N, LB T, Of⟩ := by rw [hT, ← e0, ← e1, ← e3]
      have hdr : xs.drop k = xs[k] :: xs.drop (k + 1) := List.drop_eq_getElem_cons hkk
      rw [hx] at hdr
      have hF2 := hF.out
      rw [hdr] at hF2
      have N0 : 0 ≤ N := by rw [← e1]; exact hg.1
      have N1 : N < 4294967296 := by rw [← e1]; exact hg.2.1
      have O0 : -9223372036854775808 ≤ Of := by rw [← e3]; exact hgo.1
      have O1 : Of < 9223372036854775808 := by rw [← e3]; exact hgo.2
      have hTs : T.size ≤ maxLen := by rw [← LB_len, hT]; exact hgl
      clear hT hx hdr hg hgl hgo e0 e1 e2 e3 hF
      have cB := fun w => w_rbytes C N Of T W w N0 N1 O0 O1 hTs
      have hwr : w.heap.size ≤ wr.heap.size := hb.size
      cases hq : okQ ⟨C, N, LB T, Of⟩ W with
      | false =>
        rw [fin_no _ _ _ _ hq] at hF2
        have HE := hid hF2
        rw [hq] at cB
        clear hF2 hq
        go_wp2_with (go_at_call 21; refine (cB _).mono ?_; rintro e w1 ⟨v1, rfl, q0, q1⟩)
        go_ret2
        have := HE.out
        injection this with h1 h2
        subst h1 h2
        exact ⟨_, rfl, Rd_nil, below_trans hb q1⟩
      | true =>
        rw [hq] at cB
        have hby := by_len _ _ hq
        obtain ⟨Y, hY⟩ : ∃ Y, byQ ⟨C, N, LB T, Of⟩ W = Y := ⟨_, rfl⟩
        rw [hY] at hby
        simp only [hY] at cB
        cases f with
        | true =>
          have hB9 := hf1.out rfl
          have HB9 := hid hB9
          rw [fin_long _ _ _ _ hq hB9] at hF2
          have HF := hid hF2
          clear hF2 hq hB9 hY
          cases W with
          | true =>
            go_wp2_with (go_at_call 21; refine (cB _).mono ?_; rintro e w1 ⟨v1, rfl, q0, q1⟩; have q2 : OwB wr.heap.size w1 v1 Y := (by first | exact q0 trivial | exact q0 rfl | exact q0); have lq := rd_len (Rd_own q2).1 uB (P := Try.prog))
            go_roundw
            case rel => exact ⟨k + 1, B, true, true, O, by omega, by go_num, rfl, rfl, OwB.below ho q1, hOl, HF, hid (fun _ => HB9.out), hid (fun h => by cases h), below_trans hb q1⟩
            case measure => simp [intOf]; omega
          | false =>
            have a0' := a0
            go_wp2_with (go_at_call 21; refine (cB _).mono ?_; rintro e w1 ⟨v1, rfl, q0, q1⟩; have q2 : OwB wr.heap.size w1 v1 Y := (by first | exact q0 trivial | exact q0 rfl | exact q0); have lq := rd_len (Rd_own q2).1 uB (P := Try.prog); have a9 := below_cell q1 a0')
            go_roundw
            case rel => exact ⟨k + 1, B, wdF false C, true, O, by omega, by go_num, rfl, rfl, OwB.below ho q1, hOl, HF, hid (fun _ => HB9.out), hid (fun h => by cases h), below_trans hb q1⟩
            case measure => simp [intOf]; omega
        | false =>
          obtain rfl := hf2.out rfl
          rw [fin_ok _ _ _ _ hq, hY] at hF2
          have HF := hid hF2
          clear hF2 hq hY hf1 hf2
          by_cases hlong : (8192 : Int) - B.length < Y.length
          · have hn1 : Hid (8192 < (B ++ Y).length) := hid (by rw [List.length_append]; omega)
            cases W with
            | true =>
              go_wp2_with (go_at_call 21; refine (cB _).mono ?_; rintro e w1 ⟨v1, rfl, q0, q1⟩; have q2 : OwB wr.heap.size w1 v1 Y := (by first | exact q0 trivial | exact q0 rfl | exact q0); have lq := rd_len (Rd_own q2).1 uB (P := Try.prog))
              go_roundw
              case rel => exact ⟨k + 1, B ++ Y, true, true, B, by omega, by go_num, rfl, rfl, OwB.below ho q1, hOl, HF, hid (fun _ => hn1.out), hid (fun h => by cases h), below_trans hb q1⟩
              case measure => simp [intOf]; omega
            | false =>
              have a0' := a0
              go_wp2_with (go_at_call 21; refine (cB _).mono ?_; rintro e w1 ⟨v1, rfl, q0, q1⟩; have q2 : OwB wr.heap.size w1 v1 Y := (by first | exact q0 trivial | exact q0 rfl | exact q0); have lq := rd_len (Rd_own q2).1 uB (P := Try.prog); have a9 := below_cell q1 a0')
              go_roundw
              case rel => exact ⟨k + 1, B ++ Y, wdF false C, true, B, by omega, by go_num, rfl, rfl, OwB.below ho q1, hOl, HF, hid (fun _ => hn1.out), hid (fun h => by cases h), below_trans hb q1⟩
              case measure => simp [intOf]; omega
          · have hd9 : decide ((8192 : Int) - B.length < Y.length) = false := by simpa using hlong
            cases W with
            | true =>
              go_wp2_with (first
                | (at_builtin; refine wpList_append_rd (k := .u8) rfl _ _ 24 rfl w.heap.size 5 i0 1 Try.underlying24 hi hz0 hz1 hz2 _ B rfl (OwB.below ho q1) v1 Y rfl (Rd_own q2).1 (by unfold maxLen; omega) (by omega) (by have := q1.size; omega) ?_; intro v3 w3 o3 g3)
                | (go_at_call 21; refine (cB _).mono ?_; rintro e w1 ⟨v1, rfl, q0, q1⟩; have q2 : OwB wr.heap.size w1 v1 Y := (by first | exact q0 trivial | exact q0 rfl | exact q0); have lq := rd_len (Rd_own q2).1 uB (P := Try.prog)))
              go_roundw
              case rel => exact ⟨k + 1, B ++ Y, true, false, B ++ Y, by omega, by go_num, rfl, rfl, o3, by rw [List.length_append]; omega, HF, hid (fun h => by cases h), hid (fun _ => rfl), below_grown (below_trans hb q1) g3 (fun k hk => ((OwB.below ho q1).lt k hk).1)⟩
              case measure => simp [intOf]; omega
            | false =>
              have a0' := a0
              go_wp2_with (first
                | (at_builtin; refine wpList_append_rd (k := .u8) rfl _ _ 24 rfl w.heap.size 5 i0 1 Try.underlying24 hi hz0 hz1 hz2 _ B rfl (OwB.below ho q1) v1 Y rfl (Rd_own q2).1 (by unfold maxLen; omega) (by omega) (by have := q1.size; omega) ?_; intro v3 w3 o3 g3)
                | (go_at_call 21; refine (cB _).mono ?_; rintro e w1 ⟨v1, rfl, q0, q1⟩; have q2 : OwB wr.heap.size w1 v1 Y := (by first | exact q0 trivial | exact q0 rfl | exact q0); have lq := rd_len (Rd_own q2).1 uB (P := Try.prog); have a9 := below_cell q1 a0'))
              go_roundw
              case rel => exact ⟨k + 1, B ++ Y, wdF false C, false, B ++ Y, by omega, by go_num, rfl, rfl, o3, by rw [List.length_append]; omega, HF, hid (fun h => by cases h), hid (fun _ => rfl), below_grown (below_trans hb q1) g3 (fun k hk => ((OwB.below ho q1).lt k hk).1)⟩
              case measure => simp [intOf]; omega
    · have hd : xs.drop k = [] := List.drop_eq_nil_of_le (by omega)
      have hF2 := hF.out
      rw [hd, fin_end] at hF2
      cases f with
      | true =>
        rw [if_pos (hf1.out rfl)] at hF2
        have HE := hid hF2
        clear hF2 hd hF
        go_wp2_with fail
        go_ret2
        have := HE.out
        injection this with h1 h2
        subst h1 h2
        exact ⟨_, rfl, Rd_nil, hb⟩
      | false =>
        obtain rfl := hf2.out rfl
        rw [if_neg (by omega)] at hF2
        have HE := hid hF2
        clear hF2 hd hF
        go_wp2_with fail
        go_ret2
        have := HE.out
        injection this with h1 h2
        subst h1 h2
        exact ⟨_, rfl, (Rd_own ho).1, hb⟩
end Go.Proofs.Ytbllblikigogoaa
