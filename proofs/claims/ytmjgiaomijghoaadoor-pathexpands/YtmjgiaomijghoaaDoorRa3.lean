/-
  Parse of the document's answer for paths.
-/
import Derived.Test.YtmjgiaomijghoaaDoorRa2
namespace Go.Proofs.YtmjgiaomijghoaaDoor
open Go.ChangeShapes Go.WideShapes Go.ChangeAt Go.RowKit
set_option linter.unusedVariables false
set_option linter.unusedSimpArgs false

/-- a step's cells -/
def stpR (w : World) (cs : List Value) (x : Sp) : Prop := ∃ v, cs = [.string (strOfNums x.1), v, .string (strOfNums x.2.2)] ∧ Rd .u32 w v x.2.1
theorem stpR_below {w w' : World} (g : Below w.heap.size w w') (cs : List Value) (x : Sp) (h : stpR w cs x) : stpR w' cs x := by
  obtain ⟨v, h1, h2⟩ := h
  exact ⟨v, h1, h2.below g⟩
/-- the same of what the call has built: the unit address is a row of the call's own -/
def stpO (base : Nat) (w : World) (cs : List Value) (x : Sp) : Prop := ∃ v, cs = [.string (strOfNums x.1), v, .string (strOfNums x.2.2)] ∧ OwnU base w v x.2.1
theorem stpO_R {base : Nat} {w : World} {cs : List Value} {x : Sp} (h : stpO base w cs x) : stpR w cs x := by
  obtain ⟨v, h1, h2⟩ := h
  exact ⟨v, h1, (Rd_own h2).1⟩
theorem stpO_below {base : Nat} {w w' : World} (g : Below w.heap.size w w') {cs : List Value} {x : Sp} (h : stpO base w cs x) : stpO base w' cs x := by
  obtain ⟨v, h1, h2⟩ := h
  exact ⟨v, h1, own_below h2 g⟩
/-- two rows of unlike kinds lie apart: what grows one leaves the other -/
theorem own_grown {w w' : World} {b b' : Nat} {e e' : TypeId} {sz : Nat} {v v' : Value} {n n' : Nat} {cs cs' : List Value} (o : w.ownsRow b e 1 v n cs) (o' : w.ownsRow b' e' sz v' n' cs') (hne : e ≠ e') (g : w.grownBy w' v'.ownBlock) : w'.ownsRow b e 1 v n cs := by
  obtain ⟨hl, o⟩ := o
  refine ⟨hl, ?_⟩
  rcases o with o | ⟨k, cap, cur, rfl, hb, h1, o⟩
  · exact Or.inl o
  · refine Or.inr ⟨k, cap, cur, rfl, hb, ?_, o⟩
    have hk : k < w.heap.size := (Array.getElem?_eq_some_iff.1 h1).1
    have hap : v'.ownBlock ≠ some k := by
      obtain ⟨_, o'⟩ := o'
      rcases o' with ⟨rfl, _⟩ | ⟨k', cap', cur', rfl, _, h2, _⟩
      · simp [Value.ownBlock]
      · intro e0
        simp [Value.ownBlock] at e0
        subst e0
        rw [h1] at h2
        simp at h2
        exact hne h2.2
    rw [g.block k hk (Ne.symm hap)]
    exact h1
theorem stpO_grown {base b' : Nat} {w w' : World} {sz : Nat} {v' : Value} {n' : Nat} {cs' : List Value} (o' : w.ownsRow b' 40 sz v' n' cs') (g : w.grownBy w' v'.ownBlock) {cs : List Value} {x : Sp} (h : stpO base w cs x) : stpO base w' cs x := by
  obtain ⟨v, h1, h2⟩ := h
  exact ⟨v, h1, own_grown h2 o' (by decide) g⟩
/-- steps that the call has built: their rows, one behind the other -/
def OwnP (base : Nat) (w : World) (v : Value) (xs : List Sp) : Prop := ∃ rows : List (List Value), rows.length = xs.length ∧ (∀ r ∈ rows, r.length = 3) ∧ w.ownsRow base 40 3 v xs.length rows.flatten ∧ ∀ i (h : i < xs.length), stpO base w (rows.getD i []) xs[i]
theorem ownP_read {base : Nat} {w : World} {v : Value} {xs : List Sp} (h : OwnP base w v xs) : SlR 3 stpR w v xs := by
  obtain ⟨rows, h1, h2, h3, h4⟩ := h
  have h5 : SlR 3 (fun _ cs (r : List Value) => cs = r) w v rows := slr_rows (n := xs.length) (e := 40) (base := base) id h2 (by decide) (by simpa [List.flatMap_id] using h3) (fun _ _ => rfl)
  obtain ⟨rows', k1, k2, k3⟩ := h5
  have e : rows' = rows := by
    apply List.ext_getElem k2
    intro i hi hj
    have := k3 i hj
    rw [List.getD_eq_getElem?_getD, List.getElem?_eq_getElem hi] at this
    simpa using this
  subst e
  exact ⟨rows', k1, h1, fun i hi => stpO_R (h4 i hi)⟩
theorem ownP_below {base : Nat} {w w' : World} {v : Value} {xs : List Sp} (h : OwnP base w v xs) (g : Below w.heap.size w w') : OwnP base w' v xs := by
  obtain ⟨rows, h1, h2, ⟨hl, h3⟩, h4⟩ := h
  refine ⟨rows, h1, h2, ⟨hl, ?_⟩, fun i hi => stpO_below g (h4 i hi)⟩
  rcases h3 with h | ⟨b, cap, cur, rfl, hb, hg, hc⟩
  · exact Or.inl h
  · refine Or.inr ⟨b, cap, cur, rfl, hb, ?_, hc⟩
    rw [g.block b (Array.getElem?_eq_some_iff.1 hg).1]
    exact hg
theorem ownP_nil (base : Nat) (w : World) : OwnP base w (.slice none 0 0) [] := ⟨[], rfl, by simp, World.ownsRow_nil _ _ _ _, fun i hi => by simp at hi⟩

theorem spl_up (d : Int) (l : List Int) : spl d [] l = upTo d l :: (if (upTo d l).length < l.length then spl d [] (l.drop ((upTo d l).length + 1)) else []) := by
  by_cases h : (upTo d l).length < l.length
  · rw [if_pos h]
    conv => lhs; rw [upTo_split d l h]
    rw [spl_skip d _ _ (upTo_free d l), List.nil_append, spl, if_pos rfl]
  · rw [if_neg h]
    have e : upTo d l = l := by
      have h1 := upTo_take d l
      rw [List.take_of_length_le (by omega)] at h1
      exact h1.symm
    have h2 := spl_skip d l [] (by rw [← e]; exact upTo_free d l) []
    rw [List.append_nil, List.nil_append] at h2
    rw [h2, e]
    rfl
/-- the pieces that are left at place k (a bar, or the end) -/
def remL (l : List Int) (k : Nat) : List (List Int) := if k < l.length then spl 47 [] (l.drop (k + 1)) else []
theorem rem_step (l : List Int) (k : Nat) (h : k < l.length) : remL l k = upTo 47 (l.drop (k + 1)) :: remL l (pcF l (k + 1) 47) := by
  have hl := upTo_len 47 (l.drop (k + 1))
  rw [List.length_drop] at hl
  unfold remL
  rw [if_pos h, spl_up 47 (l.drop (k + 1))]
  congr 1
  unfold pcF
  by_cases h2 : (upTo 47 (l.drop (k + 1))).length < (l.drop (k + 1)).length
  · rw [if_pos h2, if_pos (by rw [List.length_drop] at h2; omega), List.drop_drop]
    congr 2
  · rw [if_neg h2, if_neg (by rw [List.length_drop] at h2; omega)]
theorem stepL_cons_none (p : List Int) (r : List (List Int)) (h : stepF p = none) : stepL (p :: r) = none := by rw [stepL, h]
theorem stepL_cons_some (p : List Int) (r : List (List Int)) (x : Sp) (h : stepF p = some x) : stepL (p :: r) = (stepL r).map (x :: ·) := by
  rw [stepL, h]
  cases stepL r <;> rfl
theorem infoStep : (Tryd.prog.info? 40).map (fun i => (i.zero, i.size, i.bytes)) = some (some (.agg #[.string ⟨#[]⟩, .slice none 0 0, .string ⟨#[]⟩]), 3, 56) := by kernel_rfl
theorem ownP_snoc {base : Nat} {w w' : World} {U v' : Value} {xs : List Sp} {x : Sp} {row : List Value} {rows : List (List Value)} (h1 : rows.length = xs.length) (h2 : ∀ r ∈ rows, r.length = 3) (h3 : w.ownsRow base 40 3 U xs.length rows.flatten) (h4 : ∀ i (h : i < xs.length), stpO base w (rows.getD i []) xs[i])
    (hr : row.length = 3) (hx : stpO base w row x) (o : w'.ownsRow base 40 3 v' (xs.length + 1) (rows.flatten ++ row)) (g : w.grownBy w' U.ownBlock) : OwnP base w' v' (xs ++ [x]) := by
  refine ⟨rows ++ [row], by simp [h1], fun r hm => ?_, by simpa using o, fun i hi => ?_⟩
  · rcases List.mem_append.1 hm with hm | hm
    · exact h2 r hm
    · simp at hm; subst hm; exact hr
  · by_cases hlt : i < xs.length
    · rw [List.getD_eq_getElem?_getD, List.getElem?_append_left (by omega), List.getElem_append_left hlt, ← List.getD_eq_getElem?_getD]
      exact stpO_grown h3 g (h4 i hlt)
    · have hi2 : i = xs.length := by simp at hi; omega
      subst hi2
      rw [List.getD_eq_getElem?_getD, List.getElem?_append_right (by omega), h1]
      simp
      exact stpO_grown h3 g hx

set_option maxHeartbeats 4000000 in
set_option maxRecDepth 100000 in
theorem w_rpath (s : ByteArray) (w : World) (hs : s.size ≤ maxLen) :
    Calls Tryd.prog 10 #[.string s] w fun e w' => ∃ v, e = .returned (.tuple #[v, .int .i64 (parF (L s)).2]) ∧ SlR 3 stpR w' v (parF (L s)).1 ∧ Below w.heap.size w w' := by
  have hs2 := hs
  unfold maxLen at hs2
  by_cases hlong : (256 : Int) < s.size
  · have e : parF (L s) = ([], 3) := by unfold parF; rw [if_pos (by rw [L_len]; omega)]
    rw [e]
    clear e
    go_enter Tryd.func10, Tryd.ntmps10
    go_wp2_with fail
    go_ret2
    exact ⟨_, rfl, SlR.nil, Below.refl _ _⟩
  · by_cases h1 : L s = [47]
    · have hse : s = ⟨#[47]⟩ := by rw [← nums_LB s, ← L_LB, h1]; decide +kernel
      subst hse
      have e : parF (L ⟨#[47]⟩) = ([], 0) := by decide +kernel
      rw [e]
      clear e h1
      go_enter Tryd.func10, Tryd.ntmps10
      go_wp2_with fail
      go_ret2
      exact ⟨_, rfl, SlR.nil, Below.refl _ _⟩
    · have hne : (s.toList == [47]) = false := by
        rw [beq_eq_false_iff_ne]
        intro e
        apply h1
        rw [ByteArray.toList_eq] at e
        simp [L, e]
      by_cases h0 : s.size = 0
      · have hs : s = ⟨#[]⟩ := by
          apply ByteArray.ext
          exact Array.eq_empty_of_size_eq_zero h0
        subst hs
        have e : parF (L ⟨#[]⟩) = ([], 15) := by decide +kernel
        rw [e]
        clear e h1 hne
        go_enter Tryd.func10, Tryd.ntmps10
        go_wp2_with fail
        go_ret2
        exact ⟨_, rfl, SlR.nil, Below.refl _ _⟩
      · have hemp : s.toList.isEmpty = false := by
          rw [← decide_eq_emptyBytes]
          exact decide_eq_false (fun h => h0 (by rw [h]; rfl))
        have hd := L_drop s 0 (by omega)
        rw [List.drop_zero] at hd
        obtain ⟨c, hc⟩ : ∃ c, (s[0].toNat : Int) = c := ⟨_, rfl⟩
        have hrun := fun w => run_at (w := w) s 0 (by omega) hs
        rw [hc] at hrun hd
        rw [show (((0 : Nat)) : Int) = 0 from rfl] at hrun
        by_cases h47 : c = 47
        · subst h47
          obtain ⟨i0, hi0, hz0, hz1, hz2⟩ := info_parts infoStep
          have hpar : parF (L s) = match stepL (remL (L s) 0) with | some x => (x, 0) | none => ([], 15) := by
            unfold parF remL
            rw [if_neg (by rw [L_len]; omega), if_neg h1, if_pos (by rw [L_len]; omega), hd]
            rfl
          obtain ⟨A, E, hAE⟩ : ∃ A E, parF (L s) = (A, E) := ⟨_, _, rfl⟩
          have HAE := hid hAE
          have Hp := hid (hAE.symm.trans hpar)
          rw [hAE]
          show Calls _ _ _ _ fun e w' => ∃ v, e = .returned (.tuple #[v, .int .i64 E]) ∧ SlR 3 stpR w' v A ∧ _
          clear hAE hpar h1 hc hd
          go_enter Tryd.func10, Tryd.ntmps10
          go_wp2_with fail
          go_loopw [4, 5] (fun U I wx => ∃ (k : Nat) (xs : List Sp), (k : Int) ≤ s.size ∧ I = .int .i64 k ∧ Hid (stepL (remL (L s) 0) = (stepL (remL (L s) k)).map (xs ++ ·)) ∧ (xs.length : Int) ≤ k ∧ OwnP w.heap.size wx U xs ∧ Below w.heap.size w wx) (fun _ I _ => (s.size - intOf I).toNat)
          case atStart => exact ⟨0, [], by omega, rfl, hid (by cases stepL (remL (L s) 0) <;> simp), by simp, ownP_nil _ _, Below.refl _ _⟩
          case round =>
            obtain ⟨k, xs, hk, rfl, hin, hxl, ho, hb⟩ := hrel
            by_cases hlt : (k : Int) < s.size
            · have hrs := rem_step (L s) k (by rw [L_len]; omega)
              have hk2 := pc_le (L s) (k + 1) 47 (by rw [L_len]; omega)
              have hk3 := pc_ge (L s) (k + 1) 47
              have cp := fun w => w_place s (k + 1) 47 w hs (by omega) (by decide) (by decide)
              rw [L_len] at hk2
              have hpl : pcF (L s) (k + 1) 47 = k + 1 + (upTo 47 ((L s).drop (k + 1))).length := rfl
              have hLx : L (s.extract (k + 1) (pcF (L s) (k + 1) 47)) = upTo 47 ((L s).drop (k + 1)) := by
                rw [L_extract s _ _ hk2, hpl, Nat.add_sub_cancel_left]
                exact upTo_take 47 _
              obtain ⟨q, hq⟩ : ∃ q, pcF (L s) (k + 1) 47 = q := ⟨_, rfl⟩
              rw [hq] at hrs hk2 hk3 cp hLx
              have hps : (s.extract (k + 1) q).size ≤ s.size := by rw [← L_len, L_extract s _ _ hk2, List.length_take, List.length_drop, L_len]; omega
              obtain ⟨P, hP⟩ : ∃ P, s.extract (k + 1) q = P := ⟨_, rfl⟩
              rw [hP] at hLx hps
              have z0 : (0 : Int) ≤ (k : Int) + 1 := by omega
              have z1 : (k : Int) + 1 ≤ q := by omega
              have z2 : (q : Int) ≤ s.size := by omega
              cases hst : stepF (upTo 47 ((L s).drop (k + 1))) with
              | none =>
                have cs := fun w => w_rstep_no P w (by omega) (by rw [hLx]; exact hst)
                have e : Hid ((A, E) = ([], 15)) := by
                  show _ = _
                  rw [Hp.out, hin.out, hrs, stepL_cons_none _ _ hst]
                  rfl
                clear hst hLx hrs hpl hq hps
                go_wp2_with (first
                  | (go_at_call 21; refine (cp _).mono ?_; rintro e w1 ⟨rfl, rfl⟩)
                  | (go_at_call 22; refine (cs _).mono ?_; rintro e w2 ⟨⟨nm, ao, n, cap, ar, rfl⟩, b2⟩))
                go_ret2
                obtain ⟨rfl, rfl⟩ := Prod.mk.inj e.out
                exact ⟨_, rfl, SlR.nil, below_trans hb (below_trans b2 (box_below _ _))⟩
              | some x =>
                have cs := fun w => w_rstep_ok P x w (by omega) (by rw [hLx]; exact hst)
                have hin2 : Hid (stepL (remL (L s) 0) = (stepL (remL (L s) q)).map ((xs ++ [x]) ++ ·)) := by
                  show _ = _
                  rw [hin.out, hrs, stepL_cons_some _ _ _ hst]
                  cases stepL (remL (L s) q) <;> simp
                clear hst hLx hrs hpl hq hps
                go_wp2_with (first
                  | (go_at_call 21; refine (cp _).mono ?_; rintro e w1 ⟨rfl, rfl⟩)
                  | (go_at_call 22; refine (cs _).mono ?_; rintro e w2 ⟨⟨v, nm, ar, rfl, e1, e2, ov⟩, b2⟩; refine Hid.out ?_))
                obtain ⟨ao, cap, rfl⟩ := own_form ov
                have hnm : strOfNums x.1 = nm := by rw [← e1]; exact nums_LB nm
                have har : strOfNums x.2.2 = ar := by rw [← e2]; exact nums_LB ar
                have hb2 := below_trans hb b2
                have ov2 : OwnU w.heap.size w2 _ _ := own_le hb.size ov
                obtain ⟨rows, h1, h2, h3, h4⟩ := ownP_below ho b2
                have bx := below_trans (box_below w2 (.cells #[.string nm, .slice ao x.2.1.length cap, .string ar] 40)) (box_below _ (.cells #[.string nm, .slice ao x.2.1.length cap, .string ar] 40))
                have h3' := World.ownsRow.alloc (World.ownsRow.alloc h3 (.cells #[.string nm, .slice ao x.2.1.length cap, .string ar] 40)) (.cells #[.string nm, .slice ao x.2.1.length cap, .string ar] 40)
                have hx : stpO w.heap.size ((w2.alloc (.cells #[.string nm, .slice ao x.2.1.length cap, .string ar] 40)).alloc (.cells #[.string nm, .slice ao x.2.1.length cap, .string ar] 40)) [.string nm, .slice ao x.2.1.length cap, .string ar] x := ⟨_, by rw [hnm, har], own_below ov2 bx⟩
                have h4' := fun i h => stpO_below bx (h4 i h)
                have hb3 := below_trans hb2 bx
                have hone : ∀ u ∈ [Value.string nm, .slice ao x.2.1.length cap, .string ar], u.oneCell' = true := by
                  intro u hu
                  simp at hu
                  rcases hu with rfl | rfl | rfl <;> rfl
                have hcl : ∀ j u, [Value.string nm, .slice ao x.2.1.length cap, .string ar][j]? = some u → ((w2.alloc (.cells #[.string nm, .slice ao x.2.1.length cap, .string ar] 40)).alloc (.cells #[.string nm, .slice ao x.2.1.length cap, .string ar] 40)).cell? ⟨w2.heap.size + 1, j, none⟩ = some u := by
                  intro j u hj
                  have := alloc_row (w2.alloc (.cells #[.string nm, .slice ao x.2.1.length cap, .string ar] 40)) [Value.string nm, .slice ao x.2.1.length cap, .string ar] 40 j u hj
                  rwa [size_al] at this
                refine hid ?_
                go_wp2_with (at_builtin; refine wpList_append_row rfl _ _ 23 rfl w.heap.size 40 i0 _ 3 56 Tryd.underlying23 hi0 hz0 hz1 hz2 rfl (by decide) _ xs.length _ rfl h3' _ [.string nm, .slice ao x.2.1.length cap, .string ar] rfl rfl hcl hone (by unfold maxLen; omega) (by omega) hb3.size ?_; intro v4 w4 ho4 hg4)
                have hb4 := below_grown hb3 hg4 (fun k hk => (h3'.lt k hk).1)
                go_roundw
                case rel => exact ⟨q, xs ++ [x], by omega, by go_num, hin2, by simp; omega, ownP_snoc h1 h2 h3' h4' rfl hx ho4 hg4, hb4⟩
                case measure => simp [intOf]; omega
            · have e : Hid ((A, E) = (xs, 0)) := by
                show _ = _
                have : remL (L s) k = [] := by unfold remL; rw [if_neg (by rw [L_len]; omega)]
                rw [Hp.out, hin.out, this]
                simp [stepL]
              go_wp2_with fail
              go_ret2
              obtain ⟨rfl, rfl⟩ := Prod.mk.inj e.out
              exact ⟨_, rfl, ownP_read ho, hb⟩
        · have e : parF (L s) = ([], 15) := by
            unfold parF
            rw [if_neg (by rw [L_len]; omega), if_neg h1, hd]
            split
            · rename_i r' he
              have := (List.cons.inj he).1
              exact absurd this h47
            · rfl
          rw [e]
          have hn : (c != 47) = true := by simpa using h47
          clear e h1 hd h47
          go_enter Tryd.func10, Tryd.ntmps10
          go_wp2_with fail
          go_ret2
          exact ⟨_, rfl, SlR.nil, Below.refl _ _⟩
end Go.Proofs.YtmjgiaomijghoaaDoor
