/-
  Cut of the document's answer for tokens.
-/
import Derived.Test.YtpjkjkjoaapdiaaDoorRs2
import Derived.Test.YtpjkjkjoaapdiaaDoorPsr
import Derived.Test.YtpjkjkjoaapdiaaDoorSt
namespace Go.Proofs.YtpjkjkjoaapdiaaDoor
open Go.ChangeShapes Go.WideShapes Go.ChangeAt Go.RowKit
set_option linter.unusedVariables false
set_option linter.unusedSimpArgs false

/-- a token's cells -/
def tkC (x : Tk) : List Value := [.int .i64 x.1, .string (strOfNums x.2.1), .int .i64 x.2.2]
def tokR (_ : World) (cs : List Value) (x : Tk) : Prop := cs = tkC x
def OwnT (base : Nat) (w : World) (v : Value) (ts : List Tk) : Prop := w.ownsRow base 33 3 v ts.length (ts.flatMap tkC)
theorem infoTok : (Tryd.prog.info? 33).map (fun i => (i.zero, i.size, i.bytes)) = some (some (.agg #[.int .i64 0, .string ⟨#[]⟩, .int .i64 0]), 3, 32) := by kernel_rfl
theorem own_tok {base : Nat} {w : World} {v : Value} {ts : List Tk} (h : OwnT base w v ts) : SlR 3 tokR w v ts :=
  slr_rows tkC (fun _ _ => rfl) (by decide) h (fun _ _ => rfl)
theorem ownT_below {base : Nat} {w w' : World} {v : Value} {ts : List Tk} (h : OwnT base w v ts) (g : Below w.heap.size w w') : OwnT base w' v ts := by
  obtain ⟨hl, h⟩ := h
  refine ⟨hl, ?_⟩
  rcases h with h | ⟨b, cap, cur, rfl, hb, hg, hc, hm, hs, ht⟩
  · exact Or.inl h
  · refine Or.inr ⟨b, cap, cur, rfl, hb, ?_, hc, hm, hs, ht⟩
    rw [g.block b (Array.getElem?_eq_some_iff.1 hg).1]
    exact hg

theorem ownT_snoc {base : Nat} {w : World} {v : Value} {ts : List Tk} {x : Tk} {row : List Value} (h : w.ownsRow base 33 3 v (ts.length + 1) (ts.flatMap tkC ++ row)) (hr : row = tkC x) : OwnT base w v (ts ++ [x]) := by
  subst hr
  unfold OwnT
  rw [List.flatMap_append, List.length_append]
  simpa using h
theorem tk_one (k p : Int) (M : ByteArray) : ∀ u ∈ [Value.int .i64 k, .string M, .int .i64 p], u.oneCell' = true := by
  intro u hu
  simp at hu
  rcases hu with rfl | rfl | rfl <;> rfl

set_option maxHeartbeats 4000000 in
set_option maxRecDepth 100000 in
theorem w_rcut (s : ByteArray) (w : World) (hs : s.size ≤ maxLen) :
    Calls Tryd.prog 10 #[.string s] w fun e w' => ∃ v, e = .returned (.tuple #[v, .int .i64 (cutF (L s)).2]) ∧ SlR 3 tokR w' v (cutF (L s)).1 ∧ Below w.heap.size w w' := by
  unfold maxLen at hs
  obtain ⟨A, E, hAE⟩ : ∃ A E, cutF (L s) = (A, E) := ⟨_, _, rfl⟩
  have HAE := hid hAE
  rw [hAE]
  show Calls _ _ _ _ fun e w' => ∃ v, e = .returned (.tuple #[v, .int .i64 E]) ∧ SlR 3 tokR w' v A ∧ _
  clear hAE
  by_cases hlong : (4096 : Int) < s.size
  · have e : Hid (cutF (L s) = ([], 3)) := by show _ = _; unfold cutF; rw [if_pos (by rw [L_len]; omega)]
    go_enter Tryd.func10, Tryd.ntmps10
    go_wp2_with fail
    go_ret2
    obtain ⟨rfl, rfl⟩ := Prod.mk.inj (HAE.out.symm.trans e.out)
    exact ⟨_, rfl, SlR.nil, Below.refl _ _⟩
  · have hst := CR_start (L s) (by rw [L_len]; omega)
    have HR : Hid (CR (L s) 0 [] = (A, E)) := by show _ = _; rw [← hst]; exact HAE.out
    have hm : s.size ≤ maxLen := by unfold maxLen; omega
    obtain ⟨i0, hi0, hz0, hz1, hz2⟩ := info_parts infoTok
    clear hst HAE hs
    go_enter Tryd.func10, Tryd.ntmps10
    go_wp2_with fail
    go_loopw [4, 5] (fun U I wx => ∃ (i : Nat) (ts : List Tk), (i : Int) ≤ s.size + 1 ∧ I = .int .i64 i ∧ Hid (CR (L s) i ts = (A, E)) ∧ (ts.length : Int) ≤ i ∧ OwnT w.heap.size wx U ts ∧ Below w.heap.size w wx) (fun _ I _ => (s.size + 1 - intOf I).toNat)
    case atStart => exact ⟨0, [], by omega, rfl, HR, by simp, World.ownsRow_nil _ _ _ _, Below.refl _ _⟩
    case round =>
      obtain ⟨i, ts, hi, rfl, hR, htl, ho, hb⟩ := hrel
      by_cases hlt : (i : Int) < s.size
      · obtain ⟨c, hr, c0, c1, hc, _⟩ := str_byte s i (by omega) hm
        have hil : i < (L s).length := by rw [L_len]; omega
        have cb := fun w => w_rblank s i w hm
        rw [blk_in (L s) i c hil hc] at cb
        by_cases hbl : c ≤ 32
        · have hR2 : Hid (CR (L s) (i + 1) ts = (A, E)) := by show _ = _; rw [← CR_blank (L s) i ts hil (by rw [hc]; exact hbl)]; exact hR.out
          have hd : decide (c ≤ 32) = true := by simp [hbl]
          rw [hd] at cb
          clear hc hd
          go_wp2_with (go_at_call 17; refine (cb _).mono ?_; rintro e w1 ⟨rfl, rfl⟩)
          go_roundw
          case rel => exact ⟨i + 1, ts, by omega, by go_num, hR2, by omega, ho, hb⟩
          case measure => simp [intOf]; omega
        · have hd : decide (c ≤ 32) = false := by simp [hbl]
          rw [hd] at cb
          have hW : Hid (CW (L s) (i + 1) (cutL (L s) i (i + 1)) i ts = (A, E)) := by show _ = _; rw [← CR_word (L s) i ts hil (by rw [hc]; exact hbl)]; exact hR.out
          clear hd
          go_wp2_with fail
          refine (cb _).mono ?_
          rintro e w1 ⟨rfl, rfl⟩
          go_wp2_with fail
          have hR0 := hR
          go_loopw [6] (fun K wx => ∃ (k : Nat), (i : Int) ≤ k ∧ (k : Int) ≤ s.size ∧ K = .int .i64 k ∧ Hid (k = i ∨ CW (L s) k (cutL (L s) i k) i ts = (A, E)) ∧ Below w1.heap.size w1 wx) (fun K _ => (s.size - intOf K).toNat)
          case atStart => exact ⟨i, by omega, by omega, rfl, hid (Or.inl rfl), Below.refl _ _⟩
          case round =>
            obtain ⟨k, hik, hk, rfl, hCW, hb2⟩ := hrel
            have hbw := below_trans hb hb2
            by_cases hmore : (k : Int) < s.size ∧ blkF (L s) k = false
            · obtain ⟨hkI, hkb⟩ := hmore
              obtain ⟨d, hrd, d0, d1, hd, _⟩ := str_byte s k (by omega) hm
              have hkl : k < (L s).length := by rw [L_len]; omega
              have cb2 := fun w => w_rblank s k w hm
              rw [hkb] at cb2
              have hnb : ¬ (L s)[k] ≤ 32 := by
                rw [blk_in (L s) k _ hkl rfl] at hkb
                simpa using hkb
              have hCW2 : Hid (k + 1 = i ∨ CW (L s) (k + 1) (cutL (L s) i (k + 1)) i ts = (A, E)) := by
                show _ ∨ _
                right
                rcases hCW.out with rfl | h
                · exact hW.out
                · rw [← CW_on (L s) i k ts (by omega) hkl hnb]; exact h
              clear hd hnb
              go_wp2_with (go_at_call 17; refine (cb2 _).mono ?_; rintro e w2 ⟨rfl, rfl⟩)
              go_roundw
              case rel => exact ⟨k + 1, by omega, by omega, by go_num, hCW2, hb2⟩
              case measure => simp [intOf]; omega
            · have hki : (i : Int) < k := by
                rcases Nat.lt_or_ge i k with h | h
                · omega
                · have hke : k = i := by omega
                  exfalso
                  apply hmore
                  rw [hke, blk_in (L s) i c hil hc]
                  exact ⟨hlt, by simp [hbl]⟩
              have hWE : WE (L s) k := by
                rcases Nat.lt_or_ge k s.size with h | h
                · right
                  cases hq : blkF (L s) k
                  · exact absurd ⟨by omega, hq⟩ hmore
                  · rfl
                · left; rw [L_len]; omega
              have hCE : CW (L s) k (cutL (L s) i k) i ts = (A, E) := by
                rcases hCW.out with h | h
                · omega
                · exact h
              obtain ⟨T, hT, hTL, hTs⟩ := str_part s i k (by omega) (by omega)
              rw [← hTL] at hCE
              have cb2 := fun w => w_rblank s k w hm
              have csp := fun w => w_rspecial T w
              have hob := ownT_below ho hb2
              clear hTL hW hR0 hCW hc hr hbl cb
              have hgd : ¬ (k : Int) < s.size ∨ (k : Int) < s.size ∧ blkF (L s) k = true := by
                rcases hWE with h | h
                · left; rw [L_len] at h; omega
                · by_cases hq : (k : Int) < s.size
                  · exact Or.inr ⟨hq, h⟩
                  · exact Or.inl hq
              clear hmore
              cases hsp : spec (L T)
              · rw [hsp] at csp
                have hR2 : Hid (CR (L s) k (ts ++ [(1, (L T).map sm, (i : Int))]) = (A, E)) := by show _ = _; rw [← CW_plain (L s) k (L T) i ts hWE hsp]; exact hCE
                have csm := fun w => w_rsmallT T w (by omega)
                obtain ⟨M, hM⟩ : ∃ M, strOfNums ((L T).map sm) = M := ⟨_, rfl⟩
                simp only [hM] at csm
                have HM := hid hM
                clear hM hsp hCE hWE
                rcases hgd with hg | ⟨hg, hg2⟩
                · skip
                  go_wp2_with (first | (go_at_call 17; refine (cb2 _).mono ?_; rintro e w2 ⟨rfl, rfl⟩) | (go_at_call 18; refine (csp _).mono ?_; rintro e w3 ⟨rfl, rfl⟩) | (go_at_call 19; refine (csm _).mono ?_; rintro e w4 ⟨rfl, b4⟩; have ho4 := ownT_below hob b4; have hb4 := below_trans hbw b4) | (at_builtin; refine wpList_append_row rfl _ _ 23 rfl w.heap.size 33 i0 _ 3 32 Tryd.underlying23 hi0 hz0 hz1 hz2 rfl (by decide) _ ts.length _ rfl (World.ownsRow.alloc ho4 (.cells #[.int .i64 1, .string M, .int .i64 (i : Int)] 33)) _ [.int .i64 1, .string M, .int .i64 (i : Int)] rfl rfl (alloc_row w4 [.int .i64 1, .string M, .int .i64 (i : Int)] 33) (tk_one _ _ _) (by unfold maxLen; omega) (by omega) (hb4.alloc hb4.size (.cells #[.int .i64 1, .string M, .int .i64 (i : Int)] 33)).size ?_; intro v6 w6 ho6 hg6))
                  have hb6 := below_grown (hb4.alloc hb4.size (.cells #[.int .i64 1, .string M, .int .i64 (i : Int)] 33)) hg6 (fun k hk => (World.ownsRow.lt ho4 k hk).1)
                  have ho7 : OwnT w.heap.size w6 v6 (ts ++ [(1, (L T).map sm, (i : Int))]) := ownT_snoc ho6 (by unfold tkC; rw [HM.out])
                  go_roundw
                  case rel => exact ⟨k, ts ++ [(1, (L T).map sm, (i : Int))], by omega, rfl, hR2, by simp; omega, ho7, hb6⟩
                  case measure => simp [intOf]; omega
                · rw [hg2] at cb2
                  go_wp2_with (first | (go_at_call 17; refine (cb2 _).mono ?_; rintro e w2 ⟨rfl, rfl⟩) | (go_at_call 18; refine (csp _).mono ?_; rintro e w3 ⟨rfl, rfl⟩) | (go_at_call 19; refine (csm _).mono ?_; rintro e w4 ⟨rfl, b4⟩; have ho4 := ownT_below hob b4; have hb4 := below_trans hbw b4) | (at_builtin; refine wpList_append_row rfl _ _ 23 rfl w.heap.size 33 i0 _ 3 32 Tryd.underlying23 hi0 hz0 hz1 hz2 rfl (by decide) _ ts.length _ rfl (World.ownsRow.alloc ho4 (.cells #[.int .i64 1, .string M, .int .i64 (i : Int)] 33)) _ [.int .i64 1, .string M, .int .i64 (i : Int)] rfl rfl (alloc_row w4 [.int .i64 1, .string M, .int .i64 (i : Int)] 33) (tk_one _ _ _) (by unfold maxLen; omega) (by omega) (hb4.alloc hb4.size (.cells #[.int .i64 1, .string M, .int .i64 (i : Int)] 33)).size ?_; intro v6 w6 ho6 hg6))
                  have hb6 := below_grown (hb4.alloc hb4.size (.cells #[.int .i64 1, .string M, .int .i64 (i : Int)] 33)) hg6 (fun k hk => (World.ownsRow.lt ho4 k hk).1)
                  have ho7 : OwnT w.heap.size w6 v6 (ts ++ [(1, (L T).map sm, (i : Int))]) := ownT_snoc ho6 (by unfold tkC; rw [HM.out])
                  go_roundw
                  case rel => exact ⟨k, ts ++ [(1, (L T).map sm, (i : Int))], by omega, rfl, hR2, by simp; omega, ho7, hb6⟩
                  case measure => simp [intOf]; omega
              · have hcs : L T = [92] ∨ L T = [40] ∨ L T = [46, 40] ∨ L T = [34] ∨ L T = [46, 34] := by simpa [spec] using hsp
                rw [hsp] at csp
                have hTe := toB_L T
                rcases hcs with h | h | h | h | h
                · rw [h] at hTe hCE
                  have e92 : T = ⟨#[92]⟩ := by rw [← hTe]; rfl
                  subst e92
                  have cn := fun w => w_rnext s k 10 w hm (by omega) (by omega) (by omega)
                  have hge := nx_ge (L s) k 10
                  have hle := nx_le (L s) k 10 (by rw [L_len]; omega)
                  rw [L_len] at hle
                  rw [CW_line (L s) k i ts hWE] at hCE
                  obtain ⟨m, hmm⟩ : ∃ m, nxF (L s) k 10 = m := ⟨_, rfl⟩
                  simp only [hmm] at cn hge hle hCE
                  have hR2 := hid hCE
                  clear hmm hCE h hTe hsp hWE
                  rcases hgd with hg | ⟨hg, hg2⟩
                  · skip
                    go_wp2_with (first | (go_at_call 17; refine (cb2 _).mono ?_; rintro e w2 ⟨rfl, rfl⟩) | (go_at_call 18; refine (csp _).mono ?_; rintro e w3 ⟨rfl, rfl⟩) | (go_at_call 20; refine (cn _).mono ?_; rintro e w4 ⟨rfl, b4⟩; have ho4 := ownT_below hob b4; have hb4 := below_trans hbw b4))
                    go_roundw
                    case rel => exact ⟨m + 1, ts, by omega, by go_num, hR2, by omega, ho4, hb4⟩
                    case measure => simp [intOf]; omega
                  · rw [hg2] at cb2
                    go_wp2_with (first | (go_at_call 17; refine (cb2 _).mono ?_; rintro e w2 ⟨rfl, rfl⟩) | (go_at_call 18; refine (csp _).mono ?_; rintro e w3 ⟨rfl, rfl⟩) | (go_at_call 20; refine (cn _).mono ?_; rintro e w4 ⟨rfl, b4⟩; have ho4 := ownT_below hob b4; have hb4 := below_trans hbw b4))
                    go_roundw
                    case rel => exact ⟨m + 1, ts, by omega, by go_num, hR2, by omega, ho4, hb4⟩
                    case measure => simp [intOf]; omega
                · rw [h] at hTe hCE
                  have e92 : T = ⟨#[40]⟩ := by rw [← hTe]; rfl
                  subst e92
                  have cn := fun w => w_rnext s k 41 w hm (by omega) (by omega) (by omega)
                  have hge := nx_ge (L s) k 41
                  have hle := nx_le (L s) k 41 (by rw [L_len]; omega)
                  rw [L_len] at hle
                  rw [CW_par (L s) k i ts hWE, L_len] at hCE
                  obtain ⟨m, hmm⟩ : ∃ m, nxF (L s) k 41 = m := ⟨_, rfl⟩
                  simp only [hmm] at cn hge hle hCE
                  clear hmm h hTe hsp hWE
                  by_cases hml : (m : Int) < s.size
                  · rw [if_pos (by omega)] at hCE
                    have hR2 := hid hCE
                    clear hCE
                    rcases hgd with hg | ⟨hg, hg2⟩
                    · exfalso; omega
                    · rw [hg2] at cb2
                      go_wp2_with (first | (go_at_call 17; refine (cb2 _).mono ?_; rintro e w2 ⟨rfl, rfl⟩) | (go_at_call 18; refine (csp _).mono ?_; rintro e w3 ⟨rfl, rfl⟩) | (go_at_call 20; refine (cn _).mono ?_; rintro e w4 ⟨rfl, b4⟩; have ho4 := ownT_below hob b4; have hb4 := below_trans hbw b4))
                      go_roundw
                      case rel => exact ⟨m + 1, ts, by omega, by go_num, hR2, by omega, ho4, hb4⟩
                      case measure => simp [intOf]; omega
                  · rw [if_neg (by omega)] at hCE
                    have e := hid hCE.symm
                    clear hCE
                    rcases hgd with hg | ⟨hg, hg2⟩
                    · skip
                      go_wp2_with (first | (go_at_call 17; refine (cb2 _).mono ?_; rintro e w2 ⟨rfl, rfl⟩) | (go_at_call 18; refine (csp _).mono ?_; rintro e w3 ⟨rfl, rfl⟩) | (go_at_call 20; refine (cn _).mono ?_; rintro e w4 ⟨rfl, b4⟩; have ho4 := ownT_below hob b4; have hb4 := below_trans hbw b4))
                      go_ret2
                      obtain ⟨rfl, rfl⟩ := Prod.mk.inj e.out
                      exact ⟨_, rfl, SlR.nil, hb4⟩
                    · rw [hg2] at cb2
                      go_wp2_with (first | (go_at_call 17; refine (cb2 _).mono ?_; rintro e w2 ⟨rfl, rfl⟩) | (go_at_call 18; refine (csp _).mono ?_; rintro e w3 ⟨rfl, rfl⟩) | (go_at_call 20; refine (cn _).mono ?_; rintro e w4 ⟨rfl, b4⟩; have ho4 := ownT_below hob b4; have hb4 := below_trans hbw b4))
                      go_ret2
                      obtain ⟨rfl, rfl⟩ := Prod.mk.inj e.out
                      exact ⟨_, rfl, SlR.nil, hb4⟩
                · rw [h] at hTe hCE
                  have e92 : T = ⟨#[46, 40]⟩ := by rw [← hTe]; rfl
                  subst e92
                  rcases hgd with hg | ⟨hg, hg2⟩
                  · skip
                    have e := hid ((CW_none (L s) k _ i ts (by rw [L_len]; omega) (Or.inl rfl)).symm.trans hCE)
                    have hke : ((k : Int) == s.size) = true := by simp; omega
                    clear hCE h hTe hsp hWE
                    go_wp2_with (first | (go_at_call 17; refine (cb2 _).mono ?_; rintro e w2 ⟨rfl, rfl⟩) | (go_at_call 18; refine (csp _).mono ?_; rintro e w3 ⟨rfl, rfl⟩))
                    go_ret2
                    obtain ⟨rfl, rfl⟩ := Prod.mk.inj e.out
                    exact ⟨_, rfl, SlR.nil, hbw⟩
                  · rw [hg2] at cb2
                    have hke : ((k : Int) == s.size) = false := by simp; omega
                    have cn : ∀ w, Calls Tryd.prog 20 #[.string s, .int .i64 ((k : Int) + 1), .int .u8 41] w fun e w' => e = .returned (.int .i64 (nxF (L s) (k + 1) 41)) ∧ Below w.heap.size w w' := fun w => w_rnext s (k + 1) 41 w hm (by omega) (by omega) (by omega)
                    have hge := nx_ge (L s) (k + 1) 41
                    have hle := nx_le (L s) (k + 1) 41 (by rw [L_len]; omega)
                    rw [L_len] at hle
                    rw [CW_show (L s) k i ts hg2, L_len] at hCE
                    obtain ⟨m, hmm⟩ : ∃ m, nxF (L s) (k + 1) 41 = m := ⟨_, rfl⟩
                    simp only [hmm] at cn hge hle hCE
                    clear hmm h hTe hsp hWE
                    by_cases hml : (m : Int) < s.size
                    · rw [if_pos (by omega)] at hCE
                      have hmb : ((m : Int) == s.size) = false := by simp; omega
                      by_cases h255 : (255 : Int) < m - k - 1
                      · rw [if_pos (by omega)] at hCE
                        have e := hid hCE
                        clear hCE
                        go_wp2_with (first | (go_at_call 17; refine (cb2 _).mono ?_; rintro e w2 ⟨rfl, rfl⟩) | (go_at_call 18; refine (csp _).mono ?_; rintro e w3 ⟨rfl, rfl⟩) | (go_at_call 20; refine (cn _).mono ?_; rintro e w4 ⟨rfl, b4⟩; obtain ⟨x1, x2, x3⟩ := box_at b4; have x10 := x1 0 _ rfl; have x11 := x1 1 _ rfl; have x12 := x1 2 _ rfl; have x21 := x2 1; have x20 := x2 0; have hb4 := below_trans hbw x3))
                        go_ret2
                        obtain ⟨rfl, rfl⟩ := Prod.mk.inj e.out
                        exact ⟨_, rfl, SlR.nil, hb4⟩
                      · rw [if_neg (by omega)] at hCE
                        obtain ⟨M, hM, hML, hMs⟩ := str_part s (k + 1) m hge hle
                        have hM' : ∀ w, (Instr.slice 9 (.string s) (some (.int .i64 ((k : Int) + 1))) (some (.int .i64 (m : Int))) none).run Tryd.prog w = .ok (.string M) w := hM
                        rw [← hML] at hCE
                        have hR2 := hid hCE
                        clear hCE hML hM
                        go_wp2_with (first | (go_at_call 17; refine (cb2 _).mono ?_; rintro e w2 ⟨rfl, rfl⟩) | (go_at_call 18; refine (csp _).mono ?_; rintro e w3 ⟨rfl, rfl⟩) | (go_at_call 20; refine (cn _).mono ?_; rintro e w4 ⟨rfl, b4⟩; obtain ⟨x1, x2, x3⟩ := box_at b4; have x10 := x1 0 _ rfl; have x11 := x1 1 _ rfl; have x12 := x1 2 _ rfl; have x21 := x2 1; have x20 := x2 0; have hb4 := below_trans hbw x3; have x5 := x3.setCell (show w3.heap.size ≤ (⟨w3.heap.size, 1, none⟩ : Addr).block from Nat.le_refl _) (.string M); have ho5 := ownT_below hob x5; have hb5 := below_trans hbw x5) | (at_builtin; refine wpList_append_row rfl _ _ 23 rfl w.heap.size 33 i0 _ 3 32 Tryd.underlying23 hi0 hz0 hz1 hz2 rfl (by decide) _ ts.length _ rfl (World.ownsRow.alloc ho5 (.cells #[.int .i64 3, .string M, .int .i64 (i : Int)] 33)) _ [.int .i64 3, .string M, .int .i64 (i : Int)] rfl rfl (alloc_rowS _ _ _ [.int .i64 3, .string M, .int .i64 (i : Int)] 33) (tk_one _ _ _) (by unfold maxLen; omega) (by omega) (hb5.alloc hb5.size (.cells #[.int .i64 3, .string M, .int .i64 (i : Int)] 33)).size ?_; intro v6 w6 ho6 hg6))
                        have hb6 := below_grown (hb5.alloc hb5.size (.cells #[.int .i64 3, .string M, .int .i64 (i : Int)] 33)) hg6 (fun k hk => (World.ownsRow.lt ho5 k hk).1)
                        have ho7 : OwnT w.heap.size w6 v6 (ts ++ [(3, L M, (i : Int))]) := ownT_snoc ho6 (by unfold tkC; rw [show strOfNums (L M) = M from nums_LB M])
                        go_roundw
                        case rel => exact ⟨m + 1, ts ++ [(3, L M, (i : Int))], by omega, by go_num, hR2, by simp; omega, ho7, hb6⟩
                        case measure => simp [intOf]; omega
                    · rw [if_neg (by omega)] at hCE
                      have e := hid hCE
                      have hmb : ((m : Int) == s.size) = true := by simp; omega
                      clear hCE
                      go_wp2_with (first | (go_at_call 17; refine (cb2 _).mono ?_; rintro e w2 ⟨rfl, rfl⟩) | (go_at_call 18; refine (csp _).mono ?_; rintro e w3 ⟨rfl, rfl⟩) | (go_at_call 20; refine (cn _).mono ?_; rintro e w4 ⟨rfl, b4⟩; obtain ⟨x1, x2, x3⟩ := box_at b4; have x10 := x1 0 _ rfl; have x11 := x1 1 _ rfl; have x12 := x1 2 _ rfl; have x21 := x2 1; have x20 := x2 0; have hb4 := below_trans hbw x3))
                      go_ret2
                      obtain ⟨rfl, rfl⟩ := Prod.mk.inj e.out
                      exact ⟨_, rfl, SlR.nil, hb4⟩
                · rw [h] at hTe hCE
                  have e92 : T = ⟨#[34]⟩ := by rw [← hTe]; rfl
                  subst e92
                  rcases hgd with hg | ⟨hg, hg2⟩
                  · skip
                    have e := hid ((CW_none (L s) k _ i ts (by rw [L_len]; omega) (Or.inr (Or.inl rfl))).symm.trans hCE)
                    have hke : ((k : Int) == s.size) = true := by simp; omega
                    clear hCE h hTe hsp hWE
                    go_wp2_with (first | (go_at_call 17; refine (cb2 _).mono ?_; rintro e w2 ⟨rfl, rfl⟩) | (go_at_call 18; refine (csp _).mono ?_; rintro e w3 ⟨rfl, rfl⟩))
                    go_ret2
                    obtain ⟨rfl, rfl⟩ := Prod.mk.inj e.out
                    exact ⟨_, rfl, SlR.nil, hbw⟩
                  · rw [hg2] at cb2
                    have hke : ((k : Int) == s.size) = false := by simp; omega
                    obtain ⟨q1, q2⟩ := CW_quote (L s) k [34] 2 i ts hg2 (Or.inl ⟨rfl, rfl⟩)
                    rw [hCE] at q1 q2
                    have cq : ∀ w, Calls Tryd.prog 21 #[.string s, .int .i64 ((k : Int) + 1)] w fun e w' => ∃ (T : ByteArray) (to : Nat) (E : Int), e = .returned (.tuple #[.string T, .int .i64 to, .int .i64 E]) ∧ (E = 0 ∧ QO (L s) (k + 1) to (L T) ∨ (E = 15 ∨ E = 3) ∧ QE (L s) (k + 1) E) ∧ Below w.heap.size w w' := fun w => w_rquoted s (k + 1) w (by omega) (by omega)
                    clear hCE h hTe hsp hWE
                    go_wp2_with (first | (go_at_call 17; refine (cb2 _).mono ?_; rintro e w2 ⟨rfl, rfl⟩) | (go_at_call 18; refine (csp _).mono ?_; rintro e w3 ⟨rfl, rfl⟩))
                    refine (cq _).mono ?_
                    rintro e w4 ⟨M, to, G, rfl, hqq, b4⟩
                    obtain ⟨x1, x2, x3⟩ := box_at b4
                    have x10 := x1 0 _ rfl
                    have x11 := x1 1 _ rfl
                    have x12 := x1 2 _ rfl
                    have x21 := x2 1
                    have x20 := x2 0
                    have hb4 := below_trans hbw x3
                    rcases hqq with ⟨rfl, hQO⟩ | ⟨hE, hQE⟩
                    · have hR2 := hid (q2 to (L M) hQO).symm
                      have hto : (k : Int) + 1 < to ∧ (to : Int) ≤ s.size := by have := hQO.1; have h2 := hQO.2.1; rw [L_len] at h2; omega
                      obtain ⟨hto1, hto2⟩ := hto
                      have x4 := x3.setCell (show w3.heap.size ≤ (⟨w3.heap.size, 0, none⟩ : Addr).block from Nat.le_refl _) (.int .i64 2)
                      have x5 := x4.setCell (show w3.heap.size ≤ (⟨w3.heap.size, 1, none⟩ : Addr).block from Nat.le_refl _) (.string M)
                      have ho5 := ownT_below hob x5
                      have hb5 := below_trans hbw x5
                      clear hQO q1 q2
                      go_wp2_with (first | (at_builtin; refine wpList_append_row rfl _ _ 23 rfl w.heap.size 33 i0 _ 3 32 Tryd.underlying23 hi0 hz0 hz1 hz2 rfl (by decide) _ ts.length _ rfl (World.ownsRow.alloc ho5 (.cells #[.int .i64 2, .string M, .int .i64 (i : Int)] 33)) _ [.int .i64 2, .string M, .int .i64 (i : Int)] rfl rfl (alloc_rowSS _ _ _ _ _ [.int .i64 2, .string M, .int .i64 (i : Int)] 33) (tk_one _ _ _) (by unfold maxLen; omega) (by omega) (hb5.alloc hb5.size (.cells #[.int .i64 2, .string M, .int .i64 (i : Int)] 33)).size ?_; intro v6 w6 ho6 hg6))
                      have hb6 := below_grown (hb5.alloc hb5.size (.cells #[.int .i64 2, .string M, .int .i64 (i : Int)] 33)) hg6 (fun k hk => (World.ownsRow.lt ho5 k hk).1)
                      have ho7 : OwnT w.heap.size w6 v6 (ts ++ [(2, L M, (i : Int))]) := ownT_snoc ho6 (by unfold tkC; rw [show strOfNums (L M) = M from nums_LB M])
                      go_roundw
                      case rel => exact ⟨to, ts ++ [(2, L M, (i : Int))], by omega, by go_num, hR2, by simp; omega, ho7, hb6⟩
                      case measure => simp [intOf]; omega
                    · have e := hid (q1 G hQE).symm
                      have hGb : (G != 0) = true := by rcases hE with rfl | rfl <;> rfl
                      clear hQE q1 q2 hE
                      go_wp2_with fail
                      go_ret2
                      obtain ⟨rfl, rfl⟩ := Prod.mk.inj e.out
                      exact ⟨_, rfl, SlR.nil, hb4⟩
                · rw [h] at hTe hCE
                  have e92 : T = ⟨#[46, 34]⟩ := by rw [← hTe]; rfl
                  subst e92
                  rcases hgd with hg | ⟨hg, hg2⟩
                  · skip
                    have e := hid ((CW_none (L s) k _ i ts (by rw [L_len]; omega) (Or.inr (Or.inr rfl))).symm.trans hCE)
                    have hke : ((k : Int) == s.size) = true := by simp; omega
                    clear hCE h hTe hsp hWE
                    go_wp2_with (first | (go_at_call 17; refine (cb2 _).mono ?_; rintro e w2 ⟨rfl, rfl⟩) | (go_at_call 18; refine (csp _).mono ?_; rintro e w3 ⟨rfl, rfl⟩))
                    go_ret2
                    obtain ⟨rfl, rfl⟩ := Prod.mk.inj e.out
                    exact ⟨_, rfl, SlR.nil, hbw⟩
                  · rw [hg2] at cb2
                    have hke : ((k : Int) == s.size) = false := by simp; omega
                    obtain ⟨q1, q2⟩ := CW_quote (L s) k [46, 34] 3 i ts hg2 (Or.inr ⟨rfl, rfl⟩)
                    rw [hCE] at q1 q2
                    have cq : ∀ w, Calls Tryd.prog 21 #[.string s, .int .i64 ((k : Int) + 1)] w fun e w' => ∃ (T : ByteArray) (to : Nat) (E : Int), e = .returned (.tuple #[.string T, .int .i64 to, .int .i64 E]) ∧ (E = 0 ∧ QO (L s) (k + 1) to (L T) ∨ (E = 15 ∨ E = 3) ∧ QE (L s) (k + 1) E) ∧ Below w.heap.size w w' := fun w => w_rquoted s (k + 1) w (by omega) (by omega)
                    clear hCE h hTe hsp hWE
                    go_wp2_with (first | (go_at_call 17; refine (cb2 _).mono ?_; rintro e w2 ⟨rfl, rfl⟩) | (go_at_call 18; refine (csp _).mono ?_; rintro e w3 ⟨rfl, rfl⟩))
                    refine (cq _).mono ?_
                    rintro e w4 ⟨M, to, G, rfl, hqq, b4⟩
                    obtain ⟨x1, x2, x3⟩ := box_at b4
                    have x10 := x1 0 _ rfl
                    have x11 := x1 1 _ rfl
                    have x12 := x1 2 _ rfl
                    have x21 := x2 1
                    have x20 := x2 0
                    have hb4 := below_trans hbw x3
                    rcases hqq with ⟨rfl, hQO⟩ | ⟨hE, hQE⟩
                    · have hR2 := hid (q2 to (L M) hQO).symm
                      have hto : (k : Int) + 1 < to ∧ (to : Int) ≤ s.size := by have := hQO.1; have h2 := hQO.2.1; rw [L_len] at h2; omega
                      obtain ⟨hto1, hto2⟩ := hto
                      have x5 := x3.setCell (show w3.heap.size ≤ (⟨w3.heap.size, 1, none⟩ : Addr).block from Nat.le_refl _) (.string M)
                      have ho5 := ownT_below hob x5
                      have hb5 := below_trans hbw x5
                      clear hQO q1 q2
                      go_wp2_with (first | (at_builtin; refine wpList_append_row rfl _ _ 23 rfl w.heap.size 33 i0 _ 3 32 Tryd.underlying23 hi0 hz0 hz1 hz2 rfl (by decide) _ ts.length _ rfl (World.ownsRow.alloc ho5 (.cells #[.int .i64 3, .string M, .int .i64 (i : Int)] 33)) _ [.int .i64 3, .string M, .int .i64 (i : Int)] rfl rfl (alloc_rowS _ _ _ [.int .i64 3, .string M, .int .i64 (i : Int)] 33) (tk_one _ _ _) (by unfold maxLen; omega) (by omega) (hb5.alloc hb5.size (.cells #[.int .i64 3, .string M, .int .i64 (i : Int)] 33)).size ?_; intro v6 w6 ho6 hg6))
                      have hb6 := below_grown (hb5.alloc hb5.size (.cells #[.int .i64 3, .string M, .int .i64 (i : Int)] 33)) hg6 (fun k hk => (World.ownsRow.lt ho5 k hk).1)
                      have ho7 : OwnT w.heap.size w6 v6 (ts ++ [(3, L M, (i : Int))]) := ownT_snoc ho6 (by unfold tkC; rw [show strOfNums (L M) = M from nums_LB M])
                      go_roundw
                      case rel => exact ⟨to, ts ++ [(3, L M, (i : Int))], by omega, by go_num, hR2, by simp; omega, ho7, hb6⟩
                      case measure => simp [intOf]; omega
                    · have e := hid (q1 G hQE).symm
                      have hGb : (G != 0) = true := by rcases hE with rfl | rfl <;> rfl
                      clear hQE q1 q2 hE
                      go_wp2_with fail
                      go_ret2
                      obtain ⟨rfl, rfl⟩ := Prod.mk.inj e.out
                      exact ⟨_, rfl, SlR.nil, hb4⟩
      · have e : Hid (ts = A ∧ E = 0) := by
          show _ ∧ _
          have := hR.out
          rw [CR_end (L s) i ts (by rw [L_len]; omega)] at this
          exact ⟨(Prod.mk.inj this).1, (Prod.mk.inj this).2.symm⟩
        go_wp2_with fail
        go_ret2
        obtain ⟨rfl, rfl⟩ := e.out
        exact ⟨_, rfl, own_tok ho, hb⟩
end Go.Proofs.YtpjkjkjoaapdiaaDoor
