/-
  Parse of package path.
-/
import Derived.Test.YtmjgiaomijghoaaDoorPp1
import Derived.Test.YtmjgiaomijghoaaDoorRa3
namespace Go.Proofs.YtmjgiaomijghoaaDoor
open Go.ChangeShapes Go.WideShapes Go.ChangeAt Go.RowKit
set_option linter.unusedVariables false
set_option linter.unusedSimpArgs false

theorem spl_count (d : Int) : ∀ (l cur : List Int), (spl d cur l).length ≤ l.length + 1
  | [], cur => by simp [spl]
  | a :: l, cur => by
    unfold spl
    split
    · have := spl_count d l []
      simp only [List.length_cons]
      omega
    · have := spl_count d l (cur ++ [a])
      simp only [List.length_cons]
      omega
theorem map_drop_L (ps : List ByteArray) (k : Nat) (h : k < ps.length) : (ps.drop k).map L = L ps[k] :: (ps.drop (k + 1)).map L := by
  rw [List.drop_eq_getElem_cons h]
  rfl

set_option maxHeartbeats 4000000 in
set_option maxRecDepth 100000 in
theorem w_ppath (s : ByteArray) (w : World) (hs : s.size ≤ maxLen) (hT : Tab w) :
    Calls Tryd.prog 9 #[.string s] w fun e w' => ∃ v, e = .returned (.tuple #[v, .int .i64 (parF (L s)).2]) ∧ SlR 3 stpR w' v (parF (L s)).1 ∧ Below w.heap.size w w' := by
  have hs2 := hs
  unfold maxLen at hs2
  by_cases hlong : (256 : Int) < s.size
  · have e : parF (L s) = ([], 3) := by unfold parF; rw [if_pos (by rw [L_len]; omega)]
    rw [e]
    clear e
    go_enter Tryd.func9, Tryd.ntmps9
    go_wp2_with fail
    go_ret2
    exact ⟨_, rfl, SlR.nil, Below.refl _ _⟩
  · have cp := w_cp47 s w hs
    by_cases hd : (L s).head? = some 47
    · rw [decide_eq_true hd] at cp
      obtain ⟨r, hr⟩ : ∃ r, L s = 47 :: r := by
        cases h : L s with
        | nil => rw [h] at hd; simp at hd
        | cons a r => rw [h] at hd; simp at hd; exact ⟨r, by rw [hd]⟩
      have hrl : r.length + 1 = s.size := by rw [← L_len s, hr]; simp
      have hpar : parF (L s) = if r = [] then (([] : List Sp), (0 : Int)) else match stepL (spl 47 [] r) with | some x => (x, 0) | none => ([], 15) := by
        unfold parF
        rw [if_neg (by rw [L_len]; omega), hr]
        by_cases h : r = []
        · rw [if_pos (by rw [h]), if_pos h]
        · rw [if_neg (fun e => h (List.cons.inj e).2), if_neg h]
          rfl
      obtain ⟨A, E, hAE⟩ : ∃ A E, parF (L s) = (A, E) := ⟨_, _, rfl⟩
      have Hp := hid (hAE.symm.trans hpar)
      rw [hAE]
      show Calls _ _ _ _ fun e w' => ∃ v, e = .returned (.tuple #[v, .int .i64 E]) ∧ SlR 3 stpR w' v A ∧ _
      have hrd : (L s).drop 1 = r := by rw [hr]; rfl
      rw [hrd] at cp
      have Hd := hid hd
      clear hAE hpar hr hrd hd
      go_enter Tryd.func9, Tryd.ntmps9
      go_wp2_with (go_at_call 18; refine cp.mono ?_; rintro e w1 ⟨C, rfl, hC, b1⟩; refine Hid.out ?_)
      have hC := hC Hd.out
      have hCs : C.size ≤ 256 := by rw [← L_len, hC]; omega
      by_cases hemp : C.size = 0
      · have hs : C = ⟨#[]⟩ := by
          apply ByteArray.ext
          exact Array.eq_empty_of_size_eq_zero hemp
        subst hs
        have hre : r = [] := by rw [← hC]; rfl
        have e : Hid ((A, E) = ([], 0)) := by show _ = _; rw [Hp.out, if_pos hre]
        clear hC hre Hp cp
        refine hid ?_
        go_wp2_with fail
        go_ret2
        obtain ⟨rfl, rfl⟩ := Prod.mk.inj e.out
        exact ⟨_, rfl, SlR.nil, b1⟩
      · have hemp2 : C.toList.isEmpty = false := by
          rw [← decide_eq_emptyBytes]
          exact decide_eq_false (fun h => hemp (by rw [h]; rfl))
        have hre : ¬ r = [] := fun h => hemp (by rw [← L_len, hC, h]; rfl)
        have Hp2 : Hid ((A, E) = match stepL (spl 47 [] r) with | some x => (x, 0) | none => ([], 15)) := by show _ = _; rw [Hp.out, if_neg hre]
        obtain ⟨i0, hi0, hz0, hz1, hz2⟩ := info_parts infoStep
        have csp := w_split C w1 hCs
        rw [hC] at csp
        clear hre hC Hp cp hemp
        refine hid ?_
        go_wp2_with (go_at_call 19; refine csp.mono ?_; rintro e W ⟨V, ps, rfl, hV, hps, hpz, bW⟩; have hlen := slr_len hV uS7 (P := Tryd.prog); have hbW := below_trans b1 bW; have HPS := hid hps; have HPZ := hid hpz; clear hps hpz)
        have hpm := slr_max hV
        unfold maxLen at hpm
        have hpl : (ps.length : Int) ≤ 256 := by
          have e1 : ps.length = (spl 47 [] r).length := by rw [← HPS.out]; simp
          have e2 := spl_count 47 r []
          omega
        go_loopw [6, 26] (fun U I wx => ∃ (k : Nat) (xs : List Sp), (k : Int) ≤ ps.length ∧ I = .int .i64 k ∧ Hid (stepL (ps.map L) = (stepL ((ps.drop k).map L)).map (xs ++ ·)) ∧ (xs.length : Int) ≤ k ∧ OwnP W.heap.size wx U xs ∧ Below W.heap.size W wx) (fun _ I _ => (ps.length - intOf I).toNat)
        case atStart => exact ⟨0, [], by omega, rfl, hid (by rw [List.drop_zero]; cases stepL (ps.map L) <;> rfl), by simp, ownP_nil _ _, Below.refl _ _⟩
        case round =>
          obtain ⟨k, xs, hk, rfl, hin, hxl, ho, hb⟩ := hrel
          by_cases hlt : (k : Int) < ps.length
          · obtain ⟨ad, c, r1, c1, hc, hcs⟩ := slr_idx (hV.below hb strR_below) uS7 zS7 k (by omega) (by omega)
            have hc := (List.cons.inj hc).1
            subst hc
            simp only [Int.toNat_natCast] at c1 hcs
            have hms := map_drop_L ps k (by omega)
            have hpk := HPZ.out ps[k] (List.getElem_mem _)
            obtain ⟨P, hP⟩ : ∃ P, ps[k] = P := ⟨_, rfl⟩
            rw [hP] at c1 hms hpk
            have cs := w_pstep P wr (hT.below (below_trans hbW hb)) hpk
            cases hst : stepF (L P) with
            | none =>
              rw [hst] at cs
              have e : Hid ((A, E) = ([], 15)) := by
                show _ = _
                rw [Hp2.out, ← HPS.out, hin.out, hms, stepL_cons_none _ _ hst]
                rfl
              clear hst hms hP hcs
              go_wp2_with (go_at_call 20; refine cs.mono ?_; rintro e w2 ⟨⟨nm, ao, n, cap, ar, rfl⟩, b2⟩)
              go_ret2
              obtain ⟨rfl, rfl⟩ := Prod.mk.inj e.out
              exact ⟨_, rfl, SlR.nil, below_trans hbW (below_trans hb (below_trans b2 (box_below _ _)))⟩
            | some x =>
              rw [hst] at cs
              have hin2 : Hid (stepL (ps.map L) = (stepL ((ps.drop (k + 1)).map L)).map ((xs ++ [x]) ++ ·)) := by
                show _ = _
                rw [hin.out, hms, stepL_cons_some _ _ _ hst]
                cases stepL ((ps.drop (k + 1)).map L) <;> simp
              clear hst hms hP hcs
              go_wp2_with (go_at_call 20; refine cs.mono ?_; rintro e w2 ⟨⟨v, nm, ar, rfl, e1, e2, ov⟩, b2⟩; refine Hid.out ?_)
              obtain ⟨ao, cap, rfl⟩ := own_form ov
              have hnm : strOfNums x.1 = nm := by rw [← e1]; exact nums_LB nm
              have har : strOfNums x.2.2 = ar := by rw [← e2]; exact nums_LB ar
              have hb2 := below_trans hb b2
              have ov2 : OwnU W.heap.size w2 _ _ := own_le hb.size ov
              obtain ⟨rows, h1, h2, h3, h4⟩ := ownP_below ho b2
              have bx := below_trans (box_below w2 (.cells #[.string nm, .slice ao x.2.1.length cap, .string ar] 40)) (box_below _ (.cells #[.string nm, .slice ao x.2.1.length cap, .string ar] 40))
              have h3' := World.ownsRow.alloc (World.ownsRow.alloc h3 (.cells #[.string nm, .slice ao x.2.1.length cap, .string ar] 40)) (.cells #[.string nm, .slice ao x.2.1.length cap, .string ar] 40)
              have hx : stpO W.heap.size ((w2.alloc (.cells #[.string nm, .slice ao x.2.1.length cap, .string ar] 40)).alloc (.cells #[.string nm, .slice ao x.2.1.length cap, .string ar] 40)) [.string nm, .slice ao x.2.1.length cap, .string ar] x := ⟨_, by rw [hnm, har], own_below ov2 bx⟩
              have h4' := fun i h => stpO_below bx (h4 i h)
              have hb3 := below_trans hb2 bx
              have hone : ∀ u ∈ [Value.string nm, .slice ao x.2.1.length cap, .string ar], u.oneCell' = true := by
                intro u hu
                simp at hu
                rcases hu with rfl | rfl | rfl <;> rfl
              have hcl : ∀ j u, [Value.string nm, .slice ao x.2.1.length cap, .string ar][j]? = some u → ((w2.alloc (.cells #[.string nm, .slice ao x.2.1.length cap, .string ar] 40)).alloc (.cells #[.string nm, .slice ao x.2.1.length cap, .string ar] 40)).cell? ⟨w2.heap.size + 1, j, none⟩ = some u := by
                intro j u hj
                have := alloc_row (w2.alloc (.cells #[.string nm, .slice ao x.2.1.length cap, .string ar] 40)) [Value.string nm, .slice ao x.2.1.length cap, .string ar] 40 j u hj
                rwa [size_al] at this
              refine hid ?_
              go_wp2_with (at_builtin; refine wpList_append_row rfl _ _ 23 rfl W.heap.size 40 i0 _ 3 56 Tryd.underlying23 hi0 hz0 hz1 hz2 rfl (by decide) _ xs.length _ rfl h3' _ [.string nm, .slice ao x.2.1.length cap, .string ar] rfl rfl hcl hone (by unfold maxLen; omega) (by omega) hb3.size ?_; intro v4 w4 ho4 hg4)
              have hb4 := below_grown hb3 hg4 (fun k hk => (h3'.lt k hk).1)
              go_roundw
              case rel => exact ⟨k + 1, xs ++ [x], by omega, by go_num, hin2, by simp; omega, ownP_snoc h1 h2 h3' h4' rfl hx ho4 hg4, hb4⟩
              case measure => simp [intOf]; omega
          · have e : Hid ((A, E) = (xs, 0)) := by
              show _ = _
              rw [Hp2.out, ← HPS.out, hin.out, List.drop_of_length_le (by omega)]
              simp [stepL]
            go_wp2_with fail
            go_ret2
            obtain ⟨rfl, rfl⟩ := Prod.mk.inj e.out
            exact ⟨_, rfl, ownP_read ho, below_trans hbW hb⟩
    · rw [decide_eq_false hd] at cp
      have e : parF (L s) = ([], 15) := by
        unfold parF
        rw [if_neg (by rw [L_len]; omega), if_neg (fun h => hd (by rw [h]; rfl))]
        split
        · rename_i r' he
          rw [he] at hd
          simp at hd
        · rfl
      rw [e]
      clear e hd
      go_enter Tryd.func9, Tryd.ntmps9
      go_wp2_with (go_at_call 18; refine cp.mono ?_; rintro e w1 ⟨C, rfl, -, b1⟩)
      go_ret2
      exact ⟨_, rfl, SlR.nil, b1⟩
end Go.Proofs.YtmjgiaomijghoaaDoor
