/-
  Size and Encode of the landed package token.
-/
import Derived.Test.YtbllblikigogoaaTk4
namespace Go.Proofs.Ytbllblikigogoaa
open Go.ChangeShapes Go.WideShapes Go.ChangeAt Go.RowKit
set_option linter.unusedVariables false
set_option linter.unusedSimpArgs false

theorem by_len (t : Tq) (w : Bool) (h : okQ t w = true) : (byQ t w).length ≤ 260 := by
  obtain ⟨c, n, s, o⟩ := t
  have hcb : ∀ c, (cbF c).length ≤ 2 := by intro c; unfold cbF; split <;> simp
  simp only [okQ, Bool.and_eq_true] at h
  have h1 := hcb c
  have hk := bh_le c
  have h2 := h.2
  simp only [byQ, List.length_append]
  revert h2
  generalize bhF c = k at hk
  intro h2
  match k, hk with
  | 0, _ => simp only [beQ, List.length_nil]; omega
  | 1, _ => simp only [beQ, List.length_cons, List.length_nil]; omega
  | 2, _ => simp only [beQ]; have := hcb n; omega
  | 3, _ => simp [okB] at h2; simp only [beQ, List.length_cons]; omega
  | 4, _ => simp only [beQ]; split <;> simp only [List.length_cons, List.length_nil] <;> omega
  | 5, _ => simp only [beQ, List.length_cons, List.length_nil]; omega
  | 6, _ => simp [okB] at h2; simp only [beQ, List.length_cons, List.length_append, List.length_nil]; omega
theorem LB_strOf (t : List Int) (h : bytesL t) : LB (strOfNums t) = t := LB_nums t h
theorem fin_bytes (B : List Int) (l : List Tq) (w : Bool) (R : List Int × Int) (h : finF B l w = R) : True := trivial
def sizF (t : Tq) (w : Bool) : Nat := if okQ t w then (byQ t w).length else 0

set_option maxHeartbeats 4000000 in
set_option maxRecDepth 100000 in
theorem w_psize (c n o : Int) (S : ByteArray) (wide : Bool) (w : World) (n0 : 0 ≤ n) (n1 : n < 4294967296) (hs : S.size ≤ maxLen) :
    Calls Try.prog 17 #[.agg #[.int .i64 c, .int .u32 n, .string S, .int .i64 o], .bool wide] w fun e w' => e = .returned (.int .i64 (sizF ⟨c, n, LB S, o⟩ wide : Nat)) ∧ Below w.heap.size w w' := by
  have cF := fun w => w_formed c n o S wide w n0 n1 hs
  have bw := box_below w (.cells #[.int .i64 c, .int .u32 n, .string S, .int .i64 o] 37)
  have sw := stands_new w #[.int .i64 c, .int .u32 n, .string S, .int .i64 o] 37
  cases hk : okQ ⟨c, n, LB S, o⟩ wide with
  | true =>
    have cL := fun base v B w hB hb hl => w_lay base v B c n o S wide w hB hb hl n0 n1 hs hk
    have hq : sizF ⟨c, n, LB S, o⟩ wide = (byQ ⟨c, n, LB S, o⟩ wide).length := by simp [sizF, hk]
    rw [hq]
    rw [hk] at cF
    clear hq hk
    go_enter Try.func17, Try.ntmps17
    go_wp2_with (first
      | (go_at_call 19; refine (cF _).mono ?_; rintro e w1 ⟨rfl, b1⟩; have st1 := sw.below b1; have f0 := st1.cell 0 _ rfl; have f1 := st1.cell 1 _ rfl; have f2 := st1.cell 2 _ rfl; have f3 := st1.cell 3 _ rfl)
      | (go_at_call 20; refine (cL w1.heap.size _ [] _ (World.ownsRow_nil _ _ _ _) (Nat.le_refl _) (by simp)).mono ?_; rintro e w2 ⟨v2, rfl, o2, l2⟩; rw [List.nil_append] at o2; have hl2 := rd_len (Rd_own o2).1 uB (P := Try.prog)))
    go_ret
    exact ⟨rfl, below_trans bw (below_trans b1 l2.below)⟩
  | false =>
    have hq : sizF ⟨c, n, LB S, o⟩ wide = 0 := by simp [sizF, hk]
    rw [hq]
    rw [hk] at cF
    clear hq hk
    go_enter Try.func17, Try.ntmps17
    go_wp2_with (go_at_call 19; refine (cF _).mono ?_; rintro e w1 ⟨rfl, b1⟩)
    go_ret
    exact ⟨rfl, below_trans bw b1⟩

set_option maxHeartbeats 4000000 in
set_option maxRecDepth 100000 in
theorem w_penc (v : Value) (xs : List Tq) (wide : Bool) (w : World) (h : SlR 4 tqR w v xs) (g : ∀ t ∈ xs, gQ t) (gl : ∀ t ∈ xs, t.t.length ≤ maxLen) :
    Calls Try.prog 10 #[v, .bool wide] w fun e w' => ∃ v1, e = .returned (.tuple #[v1, .int .i64 (encF xs wide).2]) ∧ Rd .u8 w' v1 (encF xs wide).1 ∧ Below w.heap.size w w' := by
  have hla := slr_len h uQ (P := Try.prog)
  have hma := slr_max h
  unfold maxLen at hma
  obtain ⟨A, E, hAE⟩ : ∃ A E, encF xs wide = (A, E) := ⟨_, _, rfl⟩
  have HAE : Hid (finF [] xs wide = (A, E)) := hid hAE
  rw [hAE]
  show Calls _ _ _ _ fun e w' => ∃ v, e = .returned (.tuple #[v, .int .i64 E]) ∧ Rd .u8 w' v A ∧ _
  clear hAE
  go_enter Try.func10, Try.ntmps10
  go_wp2_with fail
  go_loopw [1, 6, 11] (fun Wd U I wx => ∃ (k : Nat) (B : List Int) (W : Bool), (k : Int) ≤ xs.length ∧ I = .int .i64 k ∧ Wd = .bool W ∧ OwB w.heap.size wx U B ∧ (B.length : Int) ≤ 8452 ∧ Hid (finF B (xs.drop k) W = (A, E)) ∧ Below w.heap.size w wx) (fun _ _ I _ => (xs.length - intOf I).toNat)
  case atStart => exact ⟨0, [], wide, by omega, rfl, rfl, World.ownsRow_nil _ _ _ _, by simp, HAE, Below.refl _ _⟩
  case round =>
    obtain ⟨k, B, W, hk, rfl, rfl, ho, hBl, hF, hb⟩ := hrel
    have hlo := rd_len (Rd_own ho).1 uB (P := Try.prog)
    by_cases hlt : (k : Int) < xs.length
    · have hkk : k < xs.length := by omega
      obtain ⟨b1, o1, C, N, O, T, r1, a0, a1, a2, a3, e0, e1, e2, e3⟩ := tq_at (h.below hb tqR_below) k hkk
      have hg := g _ (List.getElem_mem hkk)
      have hgl := gl _ (List.getElem_mem hkk)
      have hT : LB T = xs[k].t := by rw [← e2]; exact LB_nums _ hg.2.2
      have hx : xs[k] = ⟨C, N, LB T, O⟩ := by rw [hT, ← e0, ← e1, ← e3]
      have hdr : xs.drop k = xs[k] :: xs.drop (k + 1) := List.drop_eq_getElem_cons hkk
      rw [hx] at hdr
      have hF2 := hF.out
      rw [hdr] at hF2
      have N0 : 0 ≤ N := by rw [← e1]; exact hg.1
      have N1 : N < 4294967296 := by rw [← e1]; exact hg.2.1
      have hTs : T.size ≤ maxLen := by rw [← LB_len, hT]; exact hgl
      clear hT hx hdr hg hgl e0 e1 e2 e3 hF
      have cF := fun w => w_formed C N O T W w N0 N1 hTs
      have cL := fun base v B w hB hb hl hok => w_lay base v B C N O T W w hB hb hl N0 N1 hTs hok
      have bw := box_below wr (.cells #[.int .i64 C, .int .u32 N, .string T, .int .i64 O] 37)
      have sw := stands_new wr #[.int .i64 C, .int .u32 N, .string T, .int .i64 O] 37
      have hwr : w.heap.size ≤ wr.heap.size := hb.size
      cases hq : okQ ⟨C, N, LB T, O⟩ W with
      | false =>
        rw [fin_no _ _ _ _ hq] at hF2
        have HE := hid hF2
        rw [hq] at cF
        clear hF2 hq cL
        go_wp2_with (go_at_call 19; refine (cF _).mono ?_; rintro e w1 ⟨rfl, q1⟩)
        go_ret2
        have := HE.out
        injection this with h1 h2
        subst h1 h2
        exact ⟨_, rfl, Rd_nil, below_trans hb (below_trans bw q1)⟩
      | true =>
        rw [hq] at cF
        have hby := by_len _ _ hq
        by_cases hlong : (B.length : Int) ≤ 8192
        · rw [fin_ok _ _ _ _ hq] at hF2
          have HF := hid hF2
          have cL2 := fun base w v hB hb => cL base v B w hB hb (by omega) hq
          clear hF2 hq cL
          cases W with
          | true =>
            go_wp2_with (first
              | (go_at_call 19; refine (cF _).mono ?_; rintro e w1 ⟨rfl, q1⟩; have st1 := sw.below q1; have f0 := st1.cell 0 _ rfl; have f1 := st1.cell 1 _ rfl; have f2 := st1.cell 2 _ rfl; have f3 := st1.cell 3 _ rfl; have hb1 := below_trans hb (below_trans bw q1))
              | (go_at_call 20; refine (cL2 _ _ _ (OwB.below ho (below_trans bw q1)) hb1.size).mono ?_; rintro e w2 ⟨v2, rfl, o2, l2⟩; have st2 := st1.agr l2.agr rfl (fun h => h); have p0 := st2.cell 0 _ rfl))
            go_roundw
            case rel => exact ⟨k + 1, _, true, by omega, by go_num, rfl, o2, by rw [List.length_append]; omega, HF, hb1.trans l2.below⟩
            case measure => simp [intOf]; omega
          | false =>
            go_wp2_with (first
              | (go_at_call 19; refine (cF _).mono ?_; rintro e w1 ⟨rfl, q1⟩; have st1 := sw.below q1; have f0 := st1.cell 0 _ rfl; have f1 := st1.cell 1 _ rfl; have f2 := st1.cell 2 _ rfl; have f3 := st1.cell 3 _ rfl; have hb1 := below_trans hb (below_trans bw q1))
              | (go_at_call 20; refine (cL2 _ _ _ (OwB.below ho (below_trans bw q1)) hb1.size).mono ?_; rintro e w2 ⟨v2, rfl, o2, l2⟩; have st2 := st1.agr l2.agr rfl (fun h => h); have p0 := st2.cell 0 _ rfl))
            go_roundw
            case rel => exact ⟨k + 1, _, wdF false C, by omega, by go_num, rfl, o2, by rw [List.length_append]; omega, HF, hb1.trans l2.below⟩
            case measure => simp [intOf]; omega
        · rw [fin_long _ _ _ _ hq (by omega)] at hF2
          have HF := hid hF2
          clear hF2 hq cL
          cases W with
          | true =>
            go_wp2_with (go_at_call 19; refine (cF _).mono ?_; rintro e w1 ⟨rfl, q1⟩; have st1 := sw.below q1; have f0 := st1.cell 0 _ rfl; have hb1 := below_trans hb (below_trans bw q1))
            go_roundw
            case rel => exact ⟨k + 1, B, true, by omega, by go_num, rfl, OwB.below ho (below_trans bw q1), hBl, HF, hb1⟩
            case measure => simp [intOf]; omega
          | false =>
            go_wp2_with (go_at_call 19; refine (cF _).mono ?_; rintro e w1 ⟨rfl, q1⟩; have st1 := sw.below q1; have f0 := st1.cell 0 _ rfl; have hb1 := below_trans hb (below_trans bw q1))
            go_roundw
            case rel => exact ⟨k + 1, B, wdF false C, by omega, by go_num, rfl, OwB.below ho (below_trans bw q1), hBl, HF, hb1⟩
            case measure => simp [intOf]; omega
    · have hd : xs.drop k = [] := List.drop_eq_nil_of_le (by omega)
      have hF2 := hF.out
      rw [hd, fin_end] at hF2
      by_cases hlong : (8192 : Int) < B.length
      · rw [if_pos (by omega)] at hF2
        have HE := hid hF2
        clear hF2 hd hF
        go_wp2_with fail
        go_ret2
        have := HE.out
        injection this with h1 h2
        subst h1 h2
        exact ⟨_, rfl, Rd_nil, hb⟩
      · rw [if_neg (by omega)] at hF2
        have HE := hid hF2
        clear hF2 hd hF
        go_wp2_with fail
        go_ret2
        have := HE.out
        injection this with h1 h2
        subst h1 h2
        exact ⟨_, rfl, (Rd_own ho).1, hb⟩
end Go.Proofs.Ytbllblikigogoaa
