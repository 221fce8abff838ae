/-
  One token, and all tokens of a text, as package scan cuts them.
-/
import Derived.Test.YtpjkjkjoaapdiaaDoorSc3
import Derived.Test.YtpjkjkjoaapdiaaDoorSd
import Derived.Test.YtpjkjkjoaapdiaaDoorRs3
namespace Go.Proofs.YtpjkjkjoaapdiaaDoor
open Go.ChangeShapes Go.WideShapes Go.ChangeAt Go.RowKit
set_option linter.unusedVariables false
set_option linter.unusedSimpArgs false

set_option maxHeartbeats 4000000 in
set_option maxRecDepth 100000 in
theorem w_next (s : ByteArray) (i : Nat) (w : World) (hs : s.size ≤ 140737488355328) (hi : i < s.size) (hT : Tab w) (hbi : ¬ (L s)[i]'(by rw [L_len]; exact hi) ≤ 32) :
    Calls Tryd.prog 16 #[.string s, .int .i64 i] w fun e w' => ∃ (k : Int) (T : ByteArray) (p : Int) (b : Nat) (E : Int), e = .returned (.tuple #[.agg #[.int .i64 k, .string T, .int .i64 p], .int .i64 b, .int .i64 E]) ∧ (E = 0 ∧ NxOk (L s) i k (L T) p b ∨ NxNo (L s) i E) ∧ Below w.heap.size w w' := by
  have hm : s.size ≤ maxLen := by unfold maxLen; omega
  have hCR := fun ts => CR_all (L s) ts i (by rw [L_len]; exact hi) hbi
  have hle := fd_le blC (L s) i (by rw [L_len]; omega)
  rw [L_len] at hle
  have cf := fun w => w_find_blank s i w hm (by omega)
  obtain ⟨n, hn⟩ : ∃ n, fdF blC (L s) i = n := ⟨_, rfl⟩
  simp only [hn] at hCR hle cf
  obtain ⟨hin, hWE, -⟩ := hCR []
  have hCW := fun ts => (hCR ts).2.2
  obtain ⟨T, hTr, hTL, hTs⟩ := str_part s i n (by omega) hle
  simp only [← hTL] at hCW
  clear hn hCR hbi hTL
  have hTB : Tab (w.alloc (.cells #[.int .i64 0, .string ⟨#[]⟩, .int .i64 0] 33)) := hT.below (box_below w _)
  cases hsp : spec (L T)
  · have hst := spec_toList T
    rw [hsp] at hst
    simp only [Bool.false_eq, Bool.or_eq_false_iff] at hst
    obtain ⟨⟨⟨⟨n1, n2⟩, n3⟩, n4⟩, n5⟩ := hst
    have hR : Hid (NxOk (L s) i 1 ((L T).map sm) i n) := ⟨hin, by rw [L_len]; exact hle, fun ts => by rw [hCW ts, CW_plain (L s) n (L T) i ts hWE hsp]; rfl⟩
    have csm := fun w => w_small T w (by omega)
    obtain ⟨M, hM⟩ : ∃ M, strOfNums ((L T).map sm) = M := ⟨_, rfl⟩
    have hML : L M = (L T).map sm := by
      rw [← hM]
      refine LB_nums _ fun x hx => ?_
      simp only [List.mem_map] at hx
      obtain ⟨c, hc, rfl⟩ := hx
      have := LB_bytes T c hc
      exact sm_bd c this.1 this.2
    simp only [hM] at csm
    rw [← hML] at hR
    clear hM hML hsp hCW
    go_enter Tryd.func16, Tryd.ntmps16
    go_wp2_with (first | (go_at_call 14; refine (cf _).mono ?_; rintro e q1 ⟨rfl, rfl⟩) | (go_at_call 30; refine (csm _).mono ?_; rintro e w1 ⟨rfl, b1⟩; refine Hid.out ?_))
    have t0 : Stands w1 w.heap.size #[.int .i64 0, .string ⟨#[]⟩, .int .i64 0] 33 := (stands_new w _ _).below b1
    have m0 := t0.cell 0 _ rfl
    have m1 := t0.cell 1 _ rfl
    have m2 := t0.cell 2 _ rfl
    have f1 := t0.free
    have bw := below_trans (box_below w (.cells #[.int .i64 0, .string ⟨#[]⟩, .int .i64 0] 33)) b1
    refine hid ?_
    go_wp2_with fail
    obtain ⟨W5, hW5, s5, b5⟩ : ∃ W5, (((w1.setCell ⟨w.heap.size, 0, none⟩ (.int .i64 1)).setCell ⟨w.heap.size, 1, none⟩ (.string M)).setCell ⟨w.heap.size, 2, none⟩ (.int .i64 (i : Int))) = W5 ∧ Stands W5 w.heap.size #[.int .i64 1, .string M, .int .i64 (i : Int)] 33 ∧ Below w.heap.size w W5 :=
      ⟨_, rfl, ((t0.set 0 _).set 1 _).set 2 _, below_set (below_set (below_set bw _ 0 _ (Nat.le_refl _)) _ 1 _ (Nat.le_refl _)) _ 2 _ (Nat.le_refl _)⟩
    rw [hW5]
    have x0 := s5.cell 0 _ rfl
    have x1 := s5.cell 1 _ rfl
    have x2 := s5.cell 2 _ rfl
    refine bodyPost_ret (v := .tuple #[.agg #[.int .i64 1, .string M, .int .i64 (i : Int)], .int .i64 (n : Int), .int .i64 0]) (by simp [results, Tryd.results16, go_sem, x0, x1, x2]) rfl ⟨_, _, _, n, _, rfl, ?_, b5⟩
    exact Or.inl ⟨rfl, hR.out⟩
  · have hcs : L T = [92] ∨ L T = [40] ∨ L T = [46, 40] ∨ L T = [34] ∨ L T = [46, 34] := by simpa [spec] using hsp
    have hTe := toB_L T
    rcases hcs with h | h | h | h | h
    · rw [h] at hTe hCW
      have eT : T = ⟨#[92]⟩ := by rw [← hTe]; rfl
      subst eT
      have cl := fun w => w_lineEnd s n w hm (by omega)
      clear hTe h hsp
      go_enter Tryd.func16, Tryd.ntmps16
      go_wp2_with (first | (go_at_call 14; refine (cf _).mono ?_; rintro e q1 ⟨rfl, rfl⟩) | (go_at_call 26; refine (cl _).mono ?_; rintro e q2 ⟨b, rfl, hb, rfl⟩; refine Hid.out ?_))
      have hR : Hid (NxOk (L s) i 0 (L ⟨#[]⟩) 0 b) := by
        have hge := nx_ge (L s) n 10
        refine ⟨by omega, by rw [L_len]; omega, fun ts => ?_⟩
        rw [hCW ts, CW_line (L s) n i ts hWE, if_pos rfl]
        rcases hb with ⟨h1, h2⟩ | ⟨h1, h2⟩
        · rw [h1]
        · rw [CR_end (L s) _ ts (by rw [h1, L_len]; omega), CR_end (L s) _ ts (by rw [h2, L_len]; omega)]
      have t0 : Stands _ w.heap.size #[.int .i64 0, .string ⟨#[]⟩, .int .i64 0] 33 := (stands_new w _ _).below (Below.refl _ (w.alloc (.cells #[.int .i64 0, .string ⟨#[]⟩, .int .i64 0] 33)))
      have m0 := t0.cell 0 _ rfl
      have m1 := t0.cell 1 _ rfl
      have m2 := t0.cell 2 _ rfl
      have f1 := t0.free
      have bw := below_trans (box_below w (.cells #[.int .i64 0, .string ⟨#[]⟩, .int .i64 0] 33)) (Below.refl _ (w.alloc (.cells #[.int .i64 0, .string ⟨#[]⟩, .int .i64 0] 33)))
      refine hid ?_
      clear hCW hb
      go_wp2_with fail
      obtain ⟨W5, hW5, s5, b5⟩ : ∃ W5, (w.alloc (.cells #[.int .i64 0, .string ⟨#[]⟩, .int .i64 0] 33)) = W5 ∧ Stands W5 w.heap.size #[.int .i64 0, .string ⟨#[]⟩, .int .i64 0] 33 ∧ Below w.heap.size w W5 := ⟨_, rfl, stands_new w _ _, box_below w _⟩
      rw [hW5]
      have x0 := s5.cell 0 _ rfl
      have x1 := s5.cell 1 _ rfl
      have x2 := s5.cell 2 _ rfl
      refine bodyPost_ret (v := .tuple #[.agg #[.int .i64 0, .string ⟨#[]⟩, .int .i64 0], .int .i64 (b : Int), .int .i64 0]) (by simp [results, Tryd.results16, go_sem, x0, x1, x2]) rfl ⟨_, _, _, b, _, rfl, ?_, b5⟩
      exact Or.inl ⟨rfl, hR.out⟩
    · rw [h] at hTe hCW
      have eT : T = ⟨#[40]⟩ := by rw [← hTe]; rfl
      subst eT
      have cl := fun w => w_closed s n w hm (by omega)
      clear hTe h hsp
      go_enter Tryd.func16, Tryd.ntmps16
      go_wp2_with (first | (go_at_call 14; refine (cf _).mono ?_; rintro e q1 ⟨rfl, rfl⟩) | (go_at_call 27; refine (cl _).mono ?_; rintro e q2 ⟨C, b, E, rfl, hb, rfl⟩; refine Hid.out ?_))
      have hR : Hid (E = 0 ∧ NxOk (L s) i 0 (L ⟨#[]⟩) 0 b ∨ NxNo (L s) i E) := by
        rcases hb with ⟨rfl, h1⟩ | ⟨rfl, m, rfl, h1, h2, h3, h4, h5⟩
        · exact Or.inr ⟨15, Or.inl rfl, Or.inr rfl, fun ts => by rw [hCW ts, CW_par (L s) n i ts hWE, h1, L_len, if_neg (by omega)]⟩
        · exact Or.inl ⟨rfl, by omega, by rw [L_len]; omega, fun ts => by rw [hCW ts, CW_par (L s) n i ts hWE, h1, L_len, if_pos h3, if_pos rfl]⟩
      have t0 : Stands _ w.heap.size #[.int .i64 0, .string ⟨#[]⟩, .int .i64 0] 33 := (stands_new w _ _).below (Below.refl _ (w.alloc (.cells #[.int .i64 0, .string ⟨#[]⟩, .int .i64 0] 33)))
      have m0 := t0.cell 0 _ rfl
      have m1 := t0.cell 1 _ rfl
      have m2 := t0.cell 2 _ rfl
      have f1 := t0.free
      have bw := below_trans (box_below w (.cells #[.int .i64 0, .string ⟨#[]⟩, .int .i64 0] 33)) (Below.refl _ (w.alloc (.cells #[.int .i64 0, .string ⟨#[]⟩, .int .i64 0] 33)))
      refine hid ?_
      clear hCW hb
      go_wp2_with fail
      obtain ⟨W5, hW5, s5, b5⟩ : ∃ W5, (w.alloc (.cells #[.int .i64 0, .string ⟨#[]⟩, .int .i64 0] 33)) = W5 ∧ Stands W5 w.heap.size #[.int .i64 0, .string ⟨#[]⟩, .int .i64 0] 33 ∧ Below w.heap.size w W5 := ⟨_, rfl, stands_new w _ _, box_below w _⟩
      rw [hW5]
      have x0 := s5.cell 0 _ rfl
      have x1 := s5.cell 1 _ rfl
      have x2 := s5.cell 2 _ rfl
      refine bodyPost_ret (v := .tuple #[.agg #[.int .i64 0, .string ⟨#[]⟩, .int .i64 0], .int .i64 (b : Int), .int .i64 E]) (by simp [results, Tryd.results16, go_sem, x0, x1, x2]) rfl ⟨_, _, _, b, _, rfl, ?_, b5⟩
      exact hR.out
    · rw [h] at hTe hCW
      have eT : T = ⟨#[46, 40]⟩ := by rw [← hTe]; rfl
      subst eT
      have cl := fun w => w_printed s n w hs (by omega)
      clear hTe h hsp
      go_enter Tryd.func16, Tryd.ntmps16
      go_wp2_with (first | (go_at_call 14; refine (cf _).mono ?_; rintro e q1 ⟨rfl, rfl⟩) | (go_at_call 28; refine (cl _).mono ?_; rintro e w1 ⟨C, b, E, rfl, hb, b1⟩; refine Hid.out ?_))
      have hR : Hid (E = 0 ∧ NxOk (L s) i 3 (L C) i b ∨ NxNo (L s) i E) := by
        rcases hb with ⟨rfl, h1⟩ | ⟨hns, m, h1, h2, h3, h4⟩
        · refine Or.inr ⟨15, Or.inl rfl, Or.inr rfl, fun ts => ?_⟩
          rw [hCW ts]
          by_cases hne : n = s.size
          · exact CW_none (L s) n _ i ts (by rw [L_len]; exact hne) (Or.inl rfl)
          · have hbk : blkF (L s) n = true := by
              rcases hWE with h | h
              · rw [L_len] at h; omega
              · exact h
            rw [CW_show (L s) n i ts hbk, L_len, if_neg (by omega)]
        · have hbk : blkF (L s) n = true := by
            rcases hWE with h | h
            · rw [L_len] at h; omega
            · exact h
          rcases h4 with ⟨rfl, h5⟩ | ⟨rfl, h5, rfl, h6⟩
          · exact Or.inr ⟨3, Or.inl rfl, Or.inl rfl, fun ts => by rw [hCW ts, CW_show (L s) n i ts hbk, h1, L_len, if_pos h3, if_pos h5]⟩
          · exact Or.inl ⟨rfl, by omega, by rw [L_len]; omega, fun ts => by rw [hCW ts, CW_show (L s) n i ts hbk, h1, L_len, if_pos h3, if_neg (by omega), if_neg (by decide), h6]⟩
      have t0 : Stands w1 w.heap.size #[.int .i64 0, .string ⟨#[]⟩, .int .i64 0] 33 := (stands_new w _ _).below b1
      have m0 := t0.cell 0 _ rfl
      have m1 := t0.cell 1 _ rfl
      have m2 := t0.cell 2 _ rfl
      have f1 := t0.free
      have bw := below_trans (box_below w (.cells #[.int .i64 0, .string ⟨#[]⟩, .int .i64 0] 33)) b1
      refine hid ?_
      clear hCW hb
      go_wp2_with fail
      obtain ⟨W5, hW5, s5, b5⟩ : ∃ W5, (((w1.setCell ⟨w.heap.size, 0, none⟩ (.int .i64 3)).setCell ⟨w.heap.size, 1, none⟩ (.string C)).setCell ⟨w.heap.size, 2, none⟩ (.int .i64 (i : Int))) = W5 ∧ Stands W5 w.heap.size #[.int .i64 3, .string C, .int .i64 (i : Int)] 33 ∧ Below w.heap.size w W5 :=
        ⟨_, rfl, ((t0.set 0 _).set 1 _).set 2 _, below_set (below_set (below_set bw _ 0 _ (Nat.le_refl _)) _ 1 _ (Nat.le_refl _)) _ 2 _ (Nat.le_refl _)⟩
      rw [hW5]
      have x0 := s5.cell 0 _ rfl
      have x1 := s5.cell 1 _ rfl
      have x2 := s5.cell 2 _ rfl
      refine bodyPost_ret (v := .tuple #[.agg #[.int .i64 3, .string C, .int .i64 (i : Int)], .int .i64 (b : Int), .int .i64 E]) (by simp [results, Tryd.results16, go_sem, x0, x1, x2]) rfl ⟨_, _, _, b, _, rfl, ?_, b5⟩
      exact hR.out
    · rw [h] at hTe hCW
      have eT : T = ⟨#[34]⟩ := by rw [← hTe]; rfl
      subst eT
      have cl := fun w hT => w_quoted s n w hs (by omega) hT
      clear hTe h hsp
      go_enter Tryd.func16, Tryd.ntmps16
      go_wp2_with (first | (go_at_call 14; refine (cf _).mono ?_; rintro e q1 ⟨rfl, rfl⟩) | (go_at_call 29; refine (cl _ hTB).mono ?_; rintro e w1 ⟨C, b, E, rfl, hb, b1⟩; refine Hid.out ?_))
      have hR : Hid (E = 0 ∧ NxOk (L s) i 2 (L C) i b ∨ NxNo (L s) i E) := by
        rcases hb with ⟨rfl, h1⟩ | ⟨hns, h4⟩
        · exact Or.inr ⟨15, Or.inl rfl, Or.inr rfl, fun ts => by rw [hCW ts]; exact CW_none (L s) n _ i ts (by rw [L_len]; exact h1) (Or.inr (Or.inl rfl))⟩
        · have hbk : blkF (L s) n = true := by
            rcases hWE with h | h
            · rw [L_len] at h; omega
            · exact h
          have hq := fun ts => CW_quote (L s) n [34] 2 i ts hbk (Or.inl ⟨rfl, rfl⟩)
          rcases h4 with ⟨h5, F, hF, hQE⟩ | ⟨rfl, hQO⟩
          · exact Or.inr ⟨F, hF, h5, fun ts => by rw [hCW ts]; exact (hq ts).1 F hQE⟩
          · exact Or.inl ⟨rfl, by have := hQO.1; omega, hQO.2.1, fun ts => by rw [hCW ts, if_neg (by decide)]; exact (hq ts).2 b _ hQO⟩
      have t0 : Stands w1 w.heap.size #[.int .i64 0, .string ⟨#[]⟩, .int .i64 0] 33 := (stands_new w _ _).below b1
      have m0 := t0.cell 0 _ rfl
      have m1 := t0.cell 1 _ rfl
      have m2 := t0.cell 2 _ rfl
      have f1 := t0.free
      have bw := below_trans (box_below w (.cells #[.int .i64 0, .string ⟨#[]⟩, .int .i64 0] 33)) b1
      refine hid ?_
      clear hCW hb
      go_wp2_with fail
      obtain ⟨W5, hW5, s5, b5⟩ : ∃ W5, (((w1.setCell ⟨w.heap.size, 0, none⟩ (.int .i64 2)).setCell ⟨w.heap.size, 1, none⟩ (.string C)).setCell ⟨w.heap.size, 2, none⟩ (.int .i64 (i : Int))) = W5 ∧ Stands W5 w.heap.size #[.int .i64 2, .string C, .int .i64 (i : Int)] 33 ∧ Below w.heap.size w W5 :=
        ⟨_, rfl, ((t0.set 0 _).set 1 _).set 2 _, below_set (below_set (below_set bw _ 0 _ (Nat.le_refl _)) _ 1 _ (Nat.le_refl _)) _ 2 _ (Nat.le_refl _)⟩
      rw [hW5]
      have x0 := s5.cell 0 _ rfl
      have x1 := s5.cell 1 _ rfl
      have x2 := s5.cell 2 _ rfl
      refine bodyPost_ret (v := .tuple #[.agg #[.int .i64 2, .string C, .int .i64 (i : Int)], .int .i64 (b : Int), .int .i64 E]) (by simp [results, Tryd.results16, go_sem, x0, x1, x2]) rfl ⟨_, _, _, b, _, rfl, ?_, b5⟩
      exact hR.out
    · rw [h] at hTe hCW
      have eT : T = ⟨#[46, 34]⟩ := by rw [← hTe]; rfl
      subst eT
      have cl := fun w hT => w_quoted s n w hs (by omega) hT
      clear hTe h hsp
      go_enter Tryd.func16, Tryd.ntmps16
      go_wp2_with (first | (go_at_call 14; refine (cf _).mono ?_; rintro e q1 ⟨rfl, rfl⟩) | (go_at_call 29; refine (cl _ hTB).mono ?_; rintro e w1 ⟨C, b, E, rfl, hb, b1⟩; refine Hid.out ?_))
      have hR : Hid (E = 0 ∧ NxOk (L s) i 3 (L C) i b ∨ NxNo (L s) i E) := by
        rcases hb with ⟨rfl, h1⟩ | ⟨hns, h4⟩
        · exact Or.inr ⟨15, Or.inl rfl, Or.inr rfl, fun ts => by rw [hCW ts]; exact CW_none (L s) n _ i ts (by rw [L_len]; exact h1) (Or.inr (Or.inr rfl))⟩
        · have hbk : blkF (L s) n = true := by
            rcases hWE with h | h
            · rw [L_len] at h; omega
            · exact h
          have hq := fun ts => CW_quote (L s) n [46, 34] 3 i ts hbk (Or.inr ⟨rfl, rfl⟩)
          rcases h4 with ⟨h5, F, hF, hQE⟩ | ⟨rfl, hQO⟩
          · exact Or.inr ⟨F, hF, h5, fun ts => by rw [hCW ts]; exact (hq ts).1 F hQE⟩
          · exact Or.inl ⟨rfl, by have := hQO.1; omega, hQO.2.1, fun ts => by rw [hCW ts, if_neg (by decide)]; exact (hq ts).2 b _ hQO⟩
      have t0 : Stands w1 w.heap.size #[.int .i64 0, .string ⟨#[]⟩, .int .i64 0] 33 := (stands_new w _ _).below b1
      have m0 := t0.cell 0 _ rfl
      have m1 := t0.cell 1 _ rfl
      have m2 := t0.cell 2 _ rfl
      have f1 := t0.free
      have bw := below_trans (box_below w (.cells #[.int .i64 0, .string ⟨#[]⟩, .int .i64 0] 33)) b1
      refine hid ?_
      clear hCW hb
      go_wp2_with fail
      obtain ⟨W5, hW5, s5, b5⟩ : ∃ W5, (((w1.setCell ⟨w.heap.size, 0, none⟩ (.int .i64 3)).setCell ⟨w.heap.size, 1, none⟩ (.string C)).setCell ⟨w.heap.size, 2, none⟩ (.int .i64 (i : Int))) = W5 ∧ Stands W5 w.heap.size #[.int .i64 3, .string C, .int .i64 (i : Int)] 33 ∧ Below w.heap.size w W5 :=
        ⟨_, rfl, ((t0.set 0 _).set 1 _).set 2 _, below_set (below_set (below_set bw _ 0 _ (Nat.le_refl _)) _ 1 _ (Nat.le_refl _)) _ 2 _ (Nat.le_refl _)⟩
      rw [hW5]
      have x0 := s5.cell 0 _ rfl
      have x1 := s5.cell 1 _ rfl
      have x2 := s5.cell 2 _ rfl
      refine bodyPost_ret (v := .tuple #[.agg #[.int .i64 3, .string C, .int .i64 (i : Int)], .int .i64 (b : Int), .int .i64 E]) (by simp [results, Tryd.results16, go_sem, x0, x1, x2]) rfl ⟨_, _, _, b, _, rfl, ?_, b5⟩
      exact hR.out

/-- an error that may be told as one of length where the document's answer tells another -/
def ErrLike (E F : Int) : Prop := E = F ∨ E = 3 ∧ F = 15

set_option maxHeartbeats 4000000 in
set_option maxRecDepth 100000 in
theorem w_pcutE (s : ByteArray) (w : World) (hs : s.size ≤ maxLen) (hT : Tab w) :
    Calls Tryd.prog 9 #[.string s] w fun e w' => ∃ (v : Value) (E : Int), e = .returned (.tuple #[v, .int .i64 E]) ∧ ErrLike E (cutF (L s)).2 ∧ SlR 3 tokR w' v (cutF (L s)).1 ∧ Below w.heap.size w w' := by
  unfold maxLen at hs
  by_cases hlong : (4096 : Int) < s.size
  · have e : Hid (cutF (L s) = ([], 3)) := by show _ = _; unfold cutF; rw [if_pos (by rw [L_len]; omega)]
    go_enter Tryd.func9, Tryd.ntmps9
    go_wp2_with fail
    go_ret2
    rw [e.out]
    exact ⟨_, _, rfl, Or.inl rfl, SlR.nil, Below.refl _ _⟩
  · have hst := CR_start (L s) (by rw [L_len]; omega)
    have hm : s.size ≤ maxLen := by unfold maxLen; omega
    obtain ⟨i0, hi0, hz0, hz1, hz2⟩ := info_parts infoTok
    obtain ⟨A, F, hAF⟩ : ∃ A F, cutF (L s) = (A, F) := ⟨_, _, rfl⟩
    rw [hAF] at hst ⊢
    have HR : Hid (CR (L s) (fdF soC (L s) 0) [] = (A, F)) := by show _ = _; rw [← CR_skip (L s) [] _ 0 rfl, ← hst]
    have cf : ∀ w, Calls Tryd.prog 14 #[.string s, .int .i64 0, .func (.func 15) #[] #[]] w _ := fun w => w_find_solid s 0 w hm (by omega)
    have hle := fd_le soC (L s) 0 (by omega)
    have hat := fd_at soC (L s) _ 0 rfl
    rw [L_len] at hle
    obtain ⟨a0, ha0⟩ : ∃ a0, fdF soC (L s) 0 = a0 := ⟨_, rfl⟩
    simp only [ha0] at HR cf hle hat
    have HA : Hid (∀ h : a0 < (L s).length, soC (L s)[a0] = true) := hat
    show Calls _ _ _ _ fun e w' => ∃ (v : Value) (E : Int), e = .returned (.tuple #[v, .int .i64 E]) ∧ ErrLike E F ∧ SlR 3 tokR w' v A ∧ _
    clear hst hAF ha0 hat
    go_enter Tryd.func9, Tryd.ntmps9
    go_wp2_with (go_at_call 14; refine (cf _).mono ?_; rintro e q1 ⟨rfl, hq1⟩; have hq2 := hq1.symm; subst hq2)
    go_loopw [4, 5] (fun U I wx => ∃ (i : Nat) (ts : List Tk), (i : Int) ≤ s.size ∧ I = .int .i64 i ∧ Hid (∀ h : i < (L s).length, soC (L s)[i] = true) ∧ Hid (CR (L s) i ts = (A, F)) ∧ (ts.length : Int) ≤ i ∧ OwnT w.heap.size wx U ts ∧ Below w.heap.size w wx) (fun _ I _ => (s.size + 1 - intOf I).toNat)
    case atStart => exact ⟨a0, [], by omega, rfl, HA, HR, by simp, World.ownsRow_nil _ _ _ _, Below.refl _ _⟩
    case round =>
      obtain ⟨i, ts, hi, rfl, hso, hR, htl, ho, hb⟩ := hrel
      by_cases hlt : (i : Int) < s.size
      · have hil : i < (L s).length := by rw [L_len]; omega
        have hnb : ¬ (L s)[i] ≤ 32 := by have := hso.out hil; simp [soC] at this; omega
        have cn := w_next s i wr (by omega) (by omega) (hT.below hb) hnb
        clear hnb
        go_wp2_with (go_at_call 16; refine cn.mono ?_; rintro e w1 ⟨k, T, p, b, E, rfl, hN, b1⟩; refine Hid.out ?_)
        have ho1 := ownT_below ho b1
        have hb1 := below_trans hb b1
        rcases hN with ⟨rfl, hN⟩ | hN
        · obtain ⟨g1, g2, g3⟩ := hN
          rw [L_len] at g2
          have cf : ∀ w, Calls Tryd.prog 14 #[.string s, .int .i64 (b : Int), .func (.func 15) #[] #[]] w _ := fun w => w_find_solid s b w hm (by omega)
          have hge2 := fd_ge soC (L s) b
          have hle2 := fd_le soC (L s) b (by rw [L_len]; omega)
          have hat := fd_at soC (L s) _ b rfl
          rw [L_len] at hle2
          have hR2 : CR (L s) (fdF soC (L s) b) (if k = 0 then ts else ts ++ [(k, L T, p)]) = (A, F) := by rw [← CR_skip (L s) _ _ b rfl, ← g3 ts]; exact hR.out
          obtain ⟨a1, ha1⟩ : ∃ a1, fdF soC (L s) b = a1 := ⟨_, rfl⟩
          simp only [ha1] at cf hge2 hle2 hat hR2
          have HA1 : Hid (∀ h : a1 < (L s).length, soC (L s)[a1] = true) := hat
          clear hat ha1 g3
          have sx := stands_new w1 #[.int .i64 k, .string T, .int .i64 p] 33
          have x0 := sx.cell 0 _ rfl
          have x1 := sx.cell 1 _ rfl
          have x2 := sx.cell 2 _ rfl
          have ho2 := World.ownsRow.alloc ho1 (.cells #[.int .i64 k, .string T, .int .i64 p] 33)
          have hb2 := hb1.alloc hb1.size (.cells #[.int .i64 k, .string T, .int .i64 p] 33)
          by_cases hk : k = 0
          · have hkb : (k != 0) = false := by simp [hk]
            have HR2 : Hid (CR (L s) a1 ts = (A, F)) := by show _ = _; rw [if_pos hk] at hR2; exact hR2
            clear hk hR2
            refine hid ?_
            go_wp2_with (go_at_call 14; refine (cf _).mono ?_; rintro e q2 ⟨rfl, rfl⟩)
            go_roundw
            case rel => exact ⟨a1, ts, by omega, rfl, HA1, HR2, by omega, ho2, hb2⟩
            case measure => simp [intOf]; omega
          · have hkb : (k != 0) = true := by simp [hk]
            have HR2 : Hid (CR (L s) a1 (ts ++ [(k, L T, p)]) = (A, F)) := by show _ = _; rw [if_neg hk] at hR2; exact hR2
            clear hk hR2
            refine hid ?_
            go_wp2_with (first
              | (at_builtin; refine wpList_append_row rfl _ _ 23 rfl w.heap.size 33 i0 _ 3 32 Tryd.underlying23 hi0 hz0 hz1 hz2 rfl (by decide) _ ts.length _ rfl (World.ownsRow.alloc ho2 (.cells #[.int .i64 k, .string T, .int .i64 p] 33)) _ [.int .i64 k, .string T, .int .i64 p] rfl rfl (alloc_row2 w1 _ [.int .i64 k, .string T, .int .i64 p] 33) (tk_one _ _ _) (by unfold maxLen; omega) (by omega) (hb2.alloc hb2.size (.cells #[.int .i64 k, .string T, .int .i64 p] 33)).size ?_; intro v6 w6 ho6 hg6)
              | (go_at_call 14; refine (cf _).mono ?_; rintro e q2 ⟨rfl, rfl⟩))
            have hb6 := below_grown (hb2.alloc hb2.size (.cells #[.int .i64 k, .string T, .int .i64 p] 33)) hg6 (fun k hk => (World.ownsRow.lt ho1 k hk).1)
            have ho7 : OwnT w.heap.size _ v6 (ts ++ [(k, L T, p)]) := ownT_snoc ho6 (by unfold tkC; rw [show strOfNums (L T) = T from nums_LB T])
            go_roundw
            case rel => exact ⟨a1, ts ++ [(k, L T, p)], by omega, rfl, HA1, HR2, by simp; omega, ho7, hb6⟩
            case measure => simp [intOf]; omega
        · obtain ⟨F', hF, hE, hN⟩ := hN
          have e : Hid (A = [] ∧ F = F') := by
            show _ ∧ _
            have := (hN ts).symm.trans hR.out
            exact ⟨(Prod.mk.inj this).1.symm, (Prod.mk.inj this).2.symm⟩
          have hEb : (E != 0) = true := by rcases hE with rfl | rfl <;> rfl
          have HF := hid hF
          have sx := stands_new w1 #[.int .i64 k, .string T, .int .i64 p] 33
          clear hE hN hF
          refine hid ?_
          go_wp2_with fail
          go_ret2
          obtain ⟨rfl, rfl⟩ := e.out
          exact ⟨_, _, rfl, HF.out, SlR.nil, hb1.alloc hb1.size _⟩
      · have e : Hid (ts = A ∧ F = 0) := by
          show _ ∧ _
          have := hR.out
          rw [CR_end (L s) i ts (by rw [L_len]; omega)] at this
          exact ⟨(Prod.mk.inj this).1, (Prod.mk.inj this).2.symm⟩
        go_wp2_with fail
        go_ret2
        obtain ⟨rfl, rfl⟩ := e.out
        exact ⟨_, _, rfl, Or.inl rfl, own_tok ho, hb⟩
end Go.Proofs.YtpjkjkjoaapdiaaDoor
