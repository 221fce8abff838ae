/-
  Tokens that may be shown, and one byte of a text, as package scan has them.
-/
import Derived.Test.YtpjkjkjoaapdiaaDoorSc4
import Derived.Test.YtpjkjkjoaapdiaaDoorRs6
namespace Go.Proofs.YtpjkjkjoaapdiaaDoor
open Go.ChangeShapes Go.WideShapes Go.ChangeAt Go.RowKit
set_option linter.unusedVariables false
set_option linter.unusedSimpArgs false

theorem un_all (t : List Int) : (∀ c ∈ t, unC c = false) ↔ (t.map sm = t ∧ ∀ c ∈ t, 32 < c) := by
  have h1 : ∀ c : Int, unC c = false ↔ (sm c = c ∧ 32 < c) := by
    intro c
    unfold unC sm
    simp
    omega
  constructor
  · intro h
    refine ⟨?_, fun c hc => ((h1 c).1 (h c hc)).2⟩
    conv => rhs; rw [← List.map_id t]
    exact List.map_congr_left (fun c hc => ((h1 c).1 (h c hc)).1)
  · rintro ⟨h, g⟩ c hc
    refine (h1 c).2 ⟨?_, g c hc⟩
    have h' : t.map sm = t.map id := by rw [h, List.map_id]
    exact List.map_inj_left.1 h' c hc
theorem good_un (t : List Int) (h : ¬ t = []) (hs : spec t = false) : good 1 t = decide (fdF unC t 0 = t.length) := by
  rw [good_word, Bool.eq_iff_iff]
  simp only [hs, decide_eq_true_eq, fd_all, un_all]
  simp [h]

set_option maxHeartbeats 1000000 in
theorem w_plain (T : ByteArray) (w : World) (hT : T.size ≤ maxLen) :
    Calls Tryd.prog 33 #[.string T] w fun e w' => e = .returned (.bool (good 1 (L T))) ∧ w' = w := by
  have hT2 := hT
  unfold maxLen at hT2
  have hTe := toB_L T
  by_cases h0 : L T = []
  · have e : good 1 (L T) = false := by rw [h0]; rfl
    rw [e]
    rw [h0] at hTe
    have eT : T = ⟨#[]⟩ := by rw [← hTe]; rfl
    subst eT
    clear h0 hTe e
    go_enter Tryd.func33, Tryd.ntmps33
    go_wp2_with fail
    go_ret
    exact ⟨rfl, rfl⟩
  · have n0 : (T.toList == []) = false := by
      rw [Bool.eq_false_iff]
      intro h
      exact h0 ((L_toList T []).1 (beq_iff_eq.1 h))
    cases hsp : spec (L T)
    · have hst := spec_toList T
      rw [hsp] at hst
      simp only [Bool.false_eq, Bool.or_eq_false_iff] at hst
      obtain ⟨⟨⟨⟨n1, n2⟩, n3⟩, n4⟩, n5⟩ := hst
      have e := good_un (L T) h0 hsp
      rw [L_len] at e
      have cf : ∀ w, Calls Tryd.prog 14 #[.string T, .int .i64 0, .func (.func 40) #[] #[]] w _ := fun w => w_find_unlike T 0 w hT (by omega)
      obtain ⟨R, hR⟩ : ∃ R, fdF unC (L T) 0 = R := ⟨_, rfl⟩
      simp only [hR] at cf e
      rw [e]
      clear e hR hTe h0 hsp
      go_enter Tryd.func33, Tryd.ntmps33
      go_wp2_with (go_at_call 14; refine (cf _).mono ?_; rintro e q1 ⟨rfl, rfl⟩)
      go_ret
      refine ⟨ret_b ?_, rfl⟩
      rw [Bool.eq_iff_iff]
      simp
      omega
    · have e : good 1 (L T) = false := by rw [good_word, hsp]; simp
      rw [e]
      have hcs : L T = [92] ∨ L T = [40] ∨ L T = [46, 40] ∨ L T = [34] ∨ L T = [46, 34] := by simpa [spec] using hsp
      clear e hsp h0 n0
      rcases hcs with h | h | h | h | h
      all_goals rw [h] at hTe
      · have eT : T = ⟨#[92]⟩ := by rw [← hTe]; rfl
        subst eT
        clear h hTe
        go_enter Tryd.func33, Tryd.ntmps33
        go_wp2_with fail
        go_ret
        exact ⟨rfl, rfl⟩
      · have eT : T = ⟨#[40]⟩ := by rw [← hTe]; rfl
        subst eT
        clear h hTe
        go_enter Tryd.func33, Tryd.ntmps33
        go_wp2_with fail
        go_ret
        exact ⟨rfl, rfl⟩
      · have eT : T = ⟨#[46, 40]⟩ := by rw [← hTe]; rfl
        subst eT
        clear h hTe
        go_enter Tryd.func33, Tryd.ntmps33
        go_wp2_with fail
        go_ret
        exact ⟨rfl, rfl⟩
      · have eT : T = ⟨#[34]⟩ := by rw [← hTe]; rfl
        subst eT
        clear h hTe
        go_enter Tryd.func33, Tryd.ntmps33
        go_wp2_with fail
        go_ret
        exact ⟨rfl, rfl⟩
      · have eT : T = ⟨#[46, 34]⟩ := by rw [← hTe]; rfl
        subst eT
        clear h hTe
        go_enter Tryd.func33, Tryd.ntmps33
        go_wp2_with fail
        go_ret
        exact ⟨rfl, rfl⟩

set_option maxHeartbeats 1000000 in
theorem w_formed (k p : Int) (T : ByteArray) (w : World) (hT : T.size ≤ maxLen) :
    Calls Tryd.prog 22 #[.agg #[.int .i64 k, .string T, .int .i64 p]] w fun e w' => e = .returned (.bool (good k (L T))) ∧ Below w.heap.size w w' := by
  have hT2 := hT
  unfold maxLen at hT2
  by_cases h1 : k = 1
  · subst h1
    have cp := fun w => w_plain T w hT
    obtain ⟨G, hG⟩ : ∃ G, good 1 (L T) = G := ⟨_, rfl⟩
    simp only [hG] at cp ⊢
    clear hG
    go_enter Tryd.func22, Tryd.ntmps22
    go_wp2_with (go_at_call 33; refine (cp _).mono ?_; rintro e q1 ⟨rfl, rfl⟩)
    go_ret
    exact ⟨rfl, box_below _ _⟩
  · have n1 : (k == 1) = false := by simp [h1]
    by_cases h23 : k = 2 ∨ k = 3
    · have e : good k (L T) = decide ((T.size : Int) ≤ 255) := by rw [good_text k _ h23, L_len]; congr 1; apply propext; omega
      rw [e]
      clear e h1 n1
      rcases h23 with rfl | rfl
      all_goals go_enter Tryd.func22, Tryd.ntmps22
      all_goals go_wp2_with fail
      all_goals go_ret
      all_goals exact ⟨rfl, box_below _ _⟩
    · have e : good k (L T) = false := good_other k _ h1 (by omega) (by omega)
      rw [e]
      have n2 : (k == 2) = false := by simp; omega
      have n3 : (k == 3) = false := by simp; omega
      clear e h1 h23
      go_enter Tryd.func22, Tryd.ntmps22
      go_wp2_with fail
      go_ret
      exact ⟨rfl, box_below _ _⟩

theorem grown_alloc {w w' : World} {o : Obj} {row : Option Nat} (h : (w.alloc o).grownBy w' row) : w.grownBy w' row := by
  have hs := h.size
  rw [size_al] at hs
  refine ⟨h.os.trans rfl, h.tape.trans rfl, h.output.trans rfl, by omega, fun k hk hr => ?_⟩
  rw [h.block k (by rw [size_al]; omega) hr]
  exact (box_below w o).block k hk

theorem grown_drew {w w' : World} {row : Option Nat} (h : w.drew.grownBy w' row) : w.grownBy w' row := ⟨h.os, h.tape, h.output, h.size, h.block⟩
theorem an_all : ∀ n : Fin 256, bits .and .u8 n.val 15 = n.val % 16 := by decide +kernel
theorem an_of (c : Int) (h0 : 0 ≤ c) (h1 : c < 256) : bits .and .u8 c 15 = c % 16 := by
  have h := an_all ⟨c.toNat, by omega⟩
  have e : ((c.toNat : Nat) : Int) = c := by omega
  simp only [e] at h
  exact h

set_option maxHeartbeats 2000000 in
set_option maxRecDepth 100000 in
theorem w_appByte (base : Nat) (v : Value) (ys : List Int) (c : Int) (w : World) (ho : Own8 base w v ys) (hB : base ≤ w.heap.size) (hl : ys.length ≤ 700000000000) (c0 : 0 ≤ c) (c1 : c < 256) :
    Calls Tryd.prog 34 #[v, .int .u8 c] w fun e w' => ∃ v', e = .returned v' ∧ Own8 base w' v' (ys ++ esc c) ∧ w.grownBy w' v.ownBlock := by
  obtain ⟨i0, hi0, hz0, hz1, hz2⟩ := info_parts infoU8
  by_cases hesc : c = 34 ∨ c < 32 ∨ 126 < c
  · have he : esc c = [34, 40, hxd (c / 16), hxd (c % 16), 41] := by unfold esc; rw [if_pos hesc]
    rw [he]
    have hm1 := an_of c c0 c1
    obtain ⟨q, hq1⟩ : ∃ q, c / 16 = q := ⟨_, rfl⟩
    obtain ⟨m, hmm⟩ : ∃ m, c % 16 = m := ⟨_, rfl⟩
    have hx := run_hex q (by omega) (by omega)
    have hy := run_hex m (by omega) (by omega)
    rw [hq1, hmm]
    rw [hmm] at hm1
    obtain ⟨x, hxx⟩ : ∃ x, hxd q = x := ⟨_, rfl⟩
    obtain ⟨y, hyy⟩ : ∃ y, hxd m = y := ⟨_, rfl⟩
    simp only [hxx, hyy] at hx hy ⊢
    clear he hxx hyy hmm
    by_cases h34 : c = 34
    · have n1 : (c != 34) = false := by simp [h34]
      clear h34 hesc
      go_enter Tryd.func34, Tryd.ntmps34
      go_wp2_with fail
      refine wp_region_any (by kernel_rfl) ?_
      refine wpAny_take (i := 0) (v := _) rfl (by kernel_rfl) (by kernel_rfl) (by kernel_rfl) (fun _ _ _ h => h) (Or.inl ⟨by rfl, fun w => by go_simp; try with_reducible rfl⟩) ?_
      refine wpAny_take (i := 1) (v := _) rfl (by kernel_rfl) (by kernel_rfl) (by kernel_rfl) (fun _ _ _ h => h) (Or.inl ⟨by rfl, fun w => by go_simp; try with_reducible rfl⟩) ?_
      refine wpAny_take (i := 2) (v := _) rfl (by kernel_rfl) (by kernel_rfl) (by kernel_rfl) (fun _ _ _ h => h) (Or.inl ⟨by rfl, fun w => by go_simp; try with_reducible rfl⟩) ?_
      refine wpAny_take (i := 3) (v := _) rfl (by kernel_rfl) (by kernel_rfl) (by kernel_rfl) (fun _ _ _ h => h) (Or.inl ⟨by rfl, fun w => by go_simp; try with_reducible rfl⟩) ?_
      refine wpAny_take (i := 4) (v := _) rfl (by kernel_rfl) (by kernel_rfl) (by kernel_rfl) (fun _ _ _ h => h) (Or.inl ⟨by rfl, fun w => by go_simp; try with_reducible rfl⟩) ?_
      refine wpAny_take (i := 5) (v := _) rfl (by kernel_rfl) (by kernel_rfl) (by kernel_rfl) (fun _ _ _ h => h) (Or.inl ⟨by rfl, fun w => by go_simp; try with_reducible rfl⟩) ?_
      refine wpAny_take (i := 6) (v := _) rfl (by kernel_rfl) (by kernel_rfl) (by kernel_rfl) (fun _ _ _ h => h) (Or.inl ⟨by rfl, fun w => by go_simp; try with_reducible rfl⟩) ?_
      refine wpAny_ready (rs := [7]) (by kernel_rfl) (by simp) ?_
      refine AllReady.cons rfl (fun K hK => ?_) AllReady.nil
      go_simp
      refine hK _ _ ?_
      clear hK K
      refine wpAny_ready (rs := [8]) (by kernel_rfl) (by simp) ?_
      refine AllReady.cons rfl (fun K hK => ?_) AllReady.nil
      refine step_append_rd (k := .u8) rfl _ _ 44 rfl base 5 i0 1 Tryd.underlying44 hi0 hz0 hz1 hz2 _ ys rfl (World.ownsRow.alloc (show Own8 base w.drew _ ys from ho) (.cells #[.int .u8 34, .int .u8 40, .int .u8 x, .int .u8 y, .int .u8 41] 5)) _ [34, 40, x, y, 41] rfl (rd_lit _ [34, 40, x, y, 41] 5 (Nat.succ_pos _) (by unfold maxLen; simp only [List.length_cons, List.length_nil]; omega)) (by unfold maxLen; simp only [List.length_cons, List.length_nil]; omega) (by simp only [List.length_cons, List.length_nil]; omega) (by show base ≤ (World.alloc _ _).heap.size; rw [size_al]; exact Nat.le_succ_of_le hB) ?_
      intro v6 w6 ho6 hg6
      refine hK _ _ ?_
      clear hK K
      refine wpAny_take (i := 9) (v := _) rfl (by kernel_rfl) (by kernel_rfl) (by kernel_rfl) (fun _ _ _ h => h) (Or.inl ⟨by rfl, fun w => by go_simp; try with_reducible rfl⟩) ?_
      refine wpAny_done (by kernel_rfl) ?_ _
      go_wp2_with fail
      go_ret
      exact ⟨_, rfl, ho6, grown_alloc (grown_drew hg6)⟩
    · have n1 : (c != 34) = true := by simp [h34]
      rcases (show c < 32 ∨ 126 < c by omega) with n2 | n2
      · have n4 : ¬ 32 ≤ c := by omega
        clear h34 hesc
        go_enter Tryd.func34, Tryd.ntmps34
        go_wp2_with fail
        refine wp_region_any (by kernel_rfl) ?_
        refine wpAny_take (i := 0) (v := _) rfl (by kernel_rfl) (by kernel_rfl) (by kernel_rfl) (fun _ _ _ h => h) (Or.inl ⟨by rfl, fun w => by go_simp; try with_reducible rfl⟩) ?_
        refine wpAny_take (i := 1) (v := _) rfl (by kernel_rfl) (by kernel_rfl) (by kernel_rfl) (fun _ _ _ h => h) (Or.inl ⟨by rfl, fun w => by go_simp; try with_reducible rfl⟩) ?_
        refine wpAny_take (i := 2) (v := _) rfl (by kernel_rfl) (by kernel_rfl) (by kernel_rfl) (fun _ _ _ h => h) (Or.inl ⟨by rfl, fun w => by go_simp; try with_reducible rfl⟩) ?_
        refine wpAny_take (i := 3) (v := _) rfl (by kernel_rfl) (by kernel_rfl) (by kernel_rfl) (fun _ _ _ h => h) (Or.inl ⟨by rfl, fun w => by go_simp; try with_reducible rfl⟩) ?_
        refine wpAny_take (i := 4) (v := _) rfl (by kernel_rfl) (by kernel_rfl) (by kernel_rfl) (fun _ _ _ h => h) (Or.inl ⟨by rfl, fun w => by go_simp; try with_reducible rfl⟩) ?_
        refine wpAny_take (i := 5) (v := _) rfl (by kernel_rfl) (by kernel_rfl) (by kernel_rfl) (fun _ _ _ h => h) (Or.inl ⟨by rfl, fun w => by go_simp; try with_reducible rfl⟩) ?_
        refine wpAny_take (i := 6) (v := _) rfl (by kernel_rfl) (by kernel_rfl) (by kernel_rfl) (fun _ _ _ h => h) (Or.inl ⟨by rfl, fun w => by go_simp; try with_reducible rfl⟩) ?_
        refine wpAny_ready (rs := [7]) (by kernel_rfl) (by simp) ?_
        refine AllReady.cons rfl (fun K hK => ?_) AllReady.nil
        go_simp
        refine hK _ _ ?_
        clear hK K
        refine wpAny_ready (rs := [8]) (by kernel_rfl) (by simp) ?_
        refine AllReady.cons rfl (fun K hK => ?_) AllReady.nil
        refine step_append_rd (k := .u8) rfl _ _ 44 rfl base 5 i0 1 Tryd.underlying44 hi0 hz0 hz1 hz2 _ ys rfl (World.ownsRow.alloc (show Own8 base w.drew _ ys from ho) (.cells #[.int .u8 34, .int .u8 40, .int .u8 x, .int .u8 y, .int .u8 41] 5)) _ [34, 40, x, y, 41] rfl (rd_lit _ [34, 40, x, y, 41] 5 (Nat.succ_pos _) (by unfold maxLen; simp only [List.length_cons, List.length_nil]; omega)) (by unfold maxLen; simp only [List.length_cons, List.length_nil]; omega) (by simp only [List.length_cons, List.length_nil]; omega) (by show base ≤ (World.alloc _ _).heap.size; rw [size_al]; exact Nat.le_succ_of_le hB) ?_
        intro v6 w6 ho6 hg6
        refine hK _ _ ?_
        clear hK K
        refine wpAny_take (i := 9) (v := _) rfl (by kernel_rfl) (by kernel_rfl) (by kernel_rfl) (fun _ _ _ h => h) (Or.inl ⟨by rfl, fun w => by go_simp; try with_reducible rfl⟩) ?_
        refine wpAny_done (by kernel_rfl) ?_ _
        go_wp2_with fail
        go_ret
        exact ⟨_, rfl, ho6, grown_alloc (grown_drew hg6)⟩
      · have n4 : 32 ≤ c := by omega
        have n5 : ¬ c ≤ 126 := by omega
        clear h34 hesc
        go_enter Tryd.func34, Tryd.ntmps34
        go_wp2_with fail
        refine wp_region_any (by kernel_rfl) ?_
        refine wpAny_take (i := 0) (v := _) rfl (by kernel_rfl) (by kernel_rfl) (by kernel_rfl) (fun _ _ _ h => h) (Or.inl ⟨by rfl, fun w => by go_simp; try with_reducible rfl⟩) ?_
        refine wpAny_take (i := 1) (v := _) rfl (by kernel_rfl) (by kernel_rfl) (by kernel_rfl) (fun _ _ _ h => h) (Or.inl ⟨by rfl, fun w => by go_simp; try with_reducible rfl⟩) ?_
        refine wpAny_take (i := 2) (v := _) rfl (by kernel_rfl) (by kernel_rfl) (by kernel_rfl) (fun _ _ _ h => h) (Or.inl ⟨by rfl, fun w => by go_simp; try with_reducible rfl⟩) ?_
        refine wpAny_take (i := 3) (v := _) rfl (by kernel_rfl) (by kernel_rfl) (by kernel_rfl) (fun _ _ _ h => h) (Or.inl ⟨by rfl, fun w => by go_simp; try with_reducible rfl⟩) ?_
        refine wpAny_take (i := 4) (v := _) rfl (by kernel_rfl) (by kernel_rfl) (by kernel_rfl) (fun _ _ _ h => h) (Or.inl ⟨by rfl, fun w => by go_simp; try with_reducible rfl⟩) ?_
        refine wpAny_take (i := 5) (v := _) rfl (by kernel_rfl) (by kernel_rfl) (by kernel_rfl) (fun _ _ _ h => h) (Or.inl ⟨by rfl, fun w => by go_simp; try with_reducible rfl⟩) ?_
        refine wpAny_take (i := 6) (v := _) rfl (by kernel_rfl) (by kernel_rfl) (by kernel_rfl) (fun _ _ _ h => h) (Or.inl ⟨by rfl, fun w => by go_simp; try with_reducible rfl⟩) ?_
        refine wpAny_ready (rs := [7]) (by kernel_rfl) (by simp) ?_
        refine AllReady.cons rfl (fun K hK => ?_) AllReady.nil
        go_simp
        refine hK _ _ ?_
        clear hK K
        refine wpAny_ready (rs := [8]) (by kernel_rfl) (by simp) ?_
        refine AllReady.cons rfl (fun K hK => ?_) AllReady.nil
        refine step_append_rd (k := .u8) rfl _ _ 44 rfl base 5 i0 1 Tryd.underlying44 hi0 hz0 hz1 hz2 _ ys rfl (World.ownsRow.alloc (show Own8 base w.drew _ ys from ho) (.cells #[.int .u8 34, .int .u8 40, .int .u8 x, .int .u8 y, .int .u8 41] 5)) _ [34, 40, x, y, 41] rfl (rd_lit _ [34, 40, x, y, 41] 5 (Nat.succ_pos _) (by unfold maxLen; simp only [List.length_cons, List.length_nil]; omega)) (by unfold maxLen; simp only [List.length_cons, List.length_nil]; omega) (by simp only [List.length_cons, List.length_nil]; omega) (by show base ≤ (World.alloc _ _).heap.size; rw [size_al]; exact Nat.le_succ_of_le hB) ?_
        intro v6 w6 ho6 hg6
        refine hK _ _ ?_
        clear hK K
        refine wpAny_take (i := 9) (v := _) rfl (by kernel_rfl) (by kernel_rfl) (by kernel_rfl) (fun _ _ _ h => h) (Or.inl ⟨by rfl, fun w => by go_simp; try with_reducible rfl⟩) ?_
        refine wpAny_done (by kernel_rfl) ?_ _
        go_wp2_with fail
        go_ret
        exact ⟨_, rfl, ho6, grown_alloc (grown_drew hg6)⟩
  · have he : esc c = [c] := by unfold esc; rw [if_neg hesc]
    rw [he]
    have n1 : (c != 34) = true := by simp; omega
    have n2 : 32 ≤ c := by omega
    have n3 : c ≤ 126 := by omega
    clear he hesc
    have ho3 := World.ownsRow.alloc ho (.cells #[.int .u8 c] 5)
    go_enter Tryd.func34, Tryd.ntmps34
    go_wp2_with (at_builtin; refine wpList_append_rd (k := .u8) rfl _ _ 44 rfl base 5 i0 1 Tryd.underlying44 hi0 hz0 hz1 hz2 _ ys rfl ho3 _ [c] rfl (rd_one _ c 5) (by unfold maxLen; simp only [List.length_cons, List.length_nil]; omega) (by simp only [List.length_cons, List.length_nil]; omega) (by rw [size_al]; omega) ?_; intro v4 w4 ho4 hg4)
    go_ret
    exact ⟨_, rfl, ho4, grown_alloc hg4⟩
end Go.Proofs.YtpjkjkjoaapdiaaDoor
