/-
  Decode of the landed package vars.
-/
import Derived.Test.YtaiimfdcbdfbdaaDoorVa7
namespace Go.Proofs.YtaiimfdcbdfbdaaDoor
open Go.ChangeShapes Go.WideShapes Go.ChangeAt Go.RowKit
set_option linter.unusedVariables false
set_option linter.unusedSimpArgs false

set_option maxHeartbeats 4000000 in
set_option maxRecDepth 100000 in
theorem w_pdecode19 (v : Value) (b : List Int) (w : World) (hT : Tab w) (h : Rd .u8 w v b) (hb : bytesL b) (hz : b.length ≤ 140737488351232) :
    Calls Tryd.prog 26 #[v] w fun e w' => ∃ v', e = .returned (.tuple #[v', .int .i64 (vaDe b).2]) ∧ SlR 2 stR w' v' (vaDe b).1 ∧ Below w.heap.size w w' := by
  obtain ⟨i4, hi4, hz4, hs4, hb4⟩ := info_st
  go_enter Tryd.func26, Tryd.ntmps26
  go_wp2_with fail
  go_loopw [0, 4, 5] (fun B O La wx => ∃ (r : List Int) (out : List Stt) (last : Int), La = .int .i64 last ∧ Rd .u8 w B r ∧ bytesL r ∧ r.length + out.length ≤ b.length ∧ OwT w.heap.size wx O out ∧ Hid (last = vaE (-1) out ∧ vaG (-1) out = true ∧ vaX b [] none [] = vaX r [] none out) ∧ Below w.heap.size w wx) (fun B _ _ _ => lenOf B)
  case atStart => exact ⟨b, [], -1, rfl, h, hb, by simp, owt_nil _ _, hid ⟨rfl, rfl, rfl⟩, Below.refl _ _⟩
  case round =>
    obtain ⟨r, out, last, rfl, hr, hbr, hle, ho, hm, hg⟩ := hrel
    have hrl := rd_len hr uB (P := Tryd.prog)
    have hlen0 := hle
    by_cases hlt : (0 : Int) < r.length
    · have hrz : r.length ≤ 140737488351232 := by omega
      have hne : Hid (¬ r = []) := by intro z; rw [z] at hlt; simp at hlt
      have cC := w_pcut19 _ r w wr hr hg hbr hrz
      obtain ⟨m1, m2, m3⟩ := hm.out
      have ho9 : (out.length : Int) ≤ 9 := va_nine out (-1) m2 (by decide)
      have hbd := vaE_bd m2
      rw [← m1] at hbd
      obtain ⟨hd1, hd2⟩ := hbd
      have M1 := hid m1
      have M2 := hid m2
      have M3 := hid m3
      clear m1 m2 m3 hm hlen0
      obtain ⟨qa, qq, rfl⟩ := rd_slice hr
      go_upto_region 5 with (first | (go_at_call 39; refine cC.mono ?_; rintro e w1 ⟨N, V, v2, f, rfl, hc, b1⟩; have b01 := below_trans hg b1) | fail)
      have bx := box_below w1 (.cells #[.string N, .string V] 46)
      have s0 := stands_new w1 #[.string N, .string V] 46
      have ho1 := own_belowT ho (below_trans b1 bx)
      obtain ⟨n1, n2, hc⟩ := hc
      have hN : N.size ≤ maxLen := by unfold maxLen; omega
      have hV : V.size ≤ maxLen := by unfold maxLen; omega
      have cW := w_pfollow19 last N V _ (hT.below (below_trans b01 bx)) hd1 hd2 hV
      have hbd := va_lt N
      rcases hc with ⟨rfl, c1⟩ | ⟨rfl, r2, c1, c2, c3, c4⟩
      · have hR : Hid (vaDe b = ([], 15)) := vaDe_none (M3.out.trans (c1 hne.out out))
        clear c1
        go_wp2_with (go_at_call 37; refine cW.mono ?_; rintro e w2 ⟨rfl, b2⟩)
        go_ret2
        exact ⟨.slice none 0 0, by rw [hR.out]; rfl, by rw [hR.out]; exact (owt_nil 0 w2).read (fun p hp => by simp at hp), below_trans b01 (below_trans bx b2)⟩
      · obtain ⟨ra, rq, rfl⟩ := rd_slice c2
        cases hf : fwF last N V
        · rw [hf] at cW
          have hR : Hid (vaDe b = ([], 15)) := vaDe_bad (M3.out.trans (c1 out)) (by rw [← M1.out]; exact hf)
          clear c1 hf
          go_wp2_with (go_at_call 37; refine cW.mono ?_; rintro e w2 ⟨rfl, b2⟩)
          go_ret2
          exact ⟨.slice none 0 0, by rw [hR.out]; rfl, by rw [hR.out]; exact (owt_nil 0 w2).read (fun p hp => by simp at hp), below_trans b01 (below_trans bx b2)⟩
        · rw [hf] at cW
          simp only [cond_true] at cW
          have hst := va_step M2.out (by rw [← M1.out]; exact hf)
          have hm2 : Hid (vaF N = vaE (-1) (out ++ [(N, V)]) ∧ vaG (-1) (out ++ [(N, V)]) = true ∧ vaX b [] none [] = vaX r2 [] none (out ++ [(N, V)])) := ⟨hst.2.symm, hst.1, M3.out.trans (c1 out)⟩
          clear c1 hf hst M1 M2 M3
          generalize vaF N = K at *
          have ao : ∀ W : World, Below W.heap.size W (W.alloc (.cells #[.string N, .string V] 46)) := fun W => box_below W _
          go_wp2_with (first
            | (go_at_call 37; refine cW.mono ?_; rintro e w2 ⟨rfl, b2⟩; have s2 := s0.below b2; have y0 := s2.cell 0 _ rfl; have y1 := s2.cell 1 _ rfl; have ho2 := own_belowT ho1 b2; have hg2 := below_trans b01 (below_trans bx b2))
            | (at_builtin; refine wpList_append_row rfl _ _ 30 rfl w.heap.size 46 i4 _ 2 32 Tryd.underlying30 hi4 hz4 hs4 hb4 rfl (by decide) _ out.length _ rfl (own_belowT ho2 (ao w2)) w2.heap.size (stC (N, V)) rfl rfl (alloc_row w2 (stC (N, V)) 46) (st_one _) (by unfold maxLen; omega) (by omega) (by rw [size_al]; have := hg2.size; omega) ?_; intro v8 w8 o8 g8; have h8 := below_grown (below_trans hg2 (ao w2)) g8 (fun k hk => ((own_belowT ho2 (ao w2)).lt k hk).1)))
          go_roundw
          case rel => exact ⟨r2, out ++ [(N, V)], K, rfl, c2, c4, by simp; omega, by simpa [OwT] using o8, hm2, h8⟩
          case measure => simp only [lenOf]; omega
    · have hr0 : r = [] := List.eq_nil_of_length_eq_zero (by omega)
      obtain ⟨m1, m2, m3⟩ := hm.out
      have hR : Hid (vaDe b = (out, 0)) := by
        have h1 : vaX b [] none [] = some out := by rw [m3, hr0]; simp [vaX]
        show _ = _
        rw [vaDe_some h1, m2]
        rfl
      have HG := hid m2
      clear m1 m2 m3 hm hr0
      obtain ⟨qa, qq, rfl⟩ := rd_slice hr
      go_wp2_with fail
      go_ret2
      exact ⟨_, by rw [hR.out]; rfl, by rw [hR.out]; exact ho.read (va_gS (by decide) HG.out), hg⟩
end Go.Proofs.YtaiimfdcbdfbdaaDoor
