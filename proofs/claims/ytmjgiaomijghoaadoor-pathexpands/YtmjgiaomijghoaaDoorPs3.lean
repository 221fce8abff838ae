/-
  Unit addresses, parsed and shown, as package prop answers them.
-/
import Derived.Test.YtmjgiaomijghoaaDoorPs1
import Derived.Test.YtmjgiaomijghoaaDoorPlq
import Derived.Test.YtmjgiaomijghoaaDoorPlf
namespace Go.Proofs.YtmjgiaomijghoaaDoor
open Go.ChangeShapes Go.WideShapes Go.ChangeAt Go.RowKit
set_option linter.unusedVariables false
set_option linter.unusedSimpArgs false

theorem spl_none (l : List Int) (h : ∀ x ∈ l, ¬ x = 44) : spl 44 [] l = [l] := by
  have := spl_skip 44 l [] h []
  rw [List.append_nil, List.nil_append] at this
  rw [this]
  rfl
theorem spl_some (a b : List Int) (h : ∀ x ∈ a, ¬ x = 44) : spl 44 [] (a ++ 44 :: b) = a :: spl 44 [] b := by
  rw [spl_skip 44 a _ h, List.nil_append, spl, if_pos rfl]
/-- what is read is known: the pieces ahead, and what is left -/
def PU (l : List Int) (P : List (List Int)) (M : Bool) (r : List Int) : Prop := spl 44 [] l = P ++ (if M = true then spl 44 [] r else [])
theorem pu_bad {l : List Int} {P Q : List (List Int)} {p : List Int} (h : spl 44 [] l = P ++ p :: Q) (hp : pcOk p = false) : punF l = ([], 15) := by
  unfold punF
  rw [if_pos]
  rw [h, List.all_append, List.all_cons, hp]
  simp
theorem pu_long {l : List Int} {P : List (List Int)} (h : spl 44 [] l = P) (hp : P.all pcOk = true) (hl : 4 < P.length) : punF l = ([], 3) := by
  unfold punF
  rw [h, hp, if_neg (by decide), if_pos hl]
theorem pu_ok {l : List Int} {P : List (List Int)} (h : spl 44 [] l = P) (hp : P.all pcOk = true) (hl : ¬ 4 < P.length) : punF l = (P.map (num 16), 0) := by
  unfold punF
  rw [h, hp, if_neg (by decide), if_neg hl]
/-- the same call with its three answers told apart -/
theorem cutC_split {l : List Int} {A B : ByteArray} {f : Bool} (h : CutC l A B f) : spl 44 [] l = L A :: (if f = true then spl 44 [] (L B) else []) ∧ A.size ≤ l.length ∧ (f = true → A.size + 1 + B.size = l.length) := by
  rcases h with ⟨rfl, h1, h2⟩ | ⟨rfl, h1, h2⟩
  · refine ⟨?_, ?_, fun h => by cases h⟩
    · rw [spl_none l h2, h1]; rfl
    · rw [← h1, L_len]; exact Nat.le_refl _
  · refine ⟨?_, ?_, fun _ => ?_⟩
    · rw [h1, spl_some _ _ h2]; rfl
    · rw [h1, List.length_append, L_len]; omega
    · rw [h1, List.length_append, List.length_cons, L_len, L_len]; omega
def strOf : Value → Nat | .string s => s.size | _ => 0
def boolOf : Value → Bool | .bool b => b | _ => false

set_option maxHeartbeats 4000000 in
set_option maxRecDepth 100000 in
theorem w_ppunitO (s : ByteArray) (w : World) (hT : Tab w) (hs : s.size ≤ 35184372088000) :
    Calls Tryd.prog 40 #[.string s] w fun e w' => ∃ v1, e = .returned (.tuple #[v1, .int .i64 (punF (L s)).2]) ∧ w'.ownsRow w.heap.size 37 1 v1 (punF (L s)).1.length ((punF (L s)).1.map (Value.int .u32)) ∧ Below w.heap.size w w' := by
  obtain ⟨i0, hi, hz0, hz1, hz2⟩ := info_parts infoU32
  obtain ⟨A, E, hAE⟩ : ∃ A E, punF (L s) = (A, E) := ⟨_, _, rfl⟩
  have HAE := hid hAE
  rw [hAE]
  show Calls _ _ _ _ fun e w' => ∃ v, e = .returned (.tuple #[v, .int .i64 E]) ∧ w'.ownsRow w.heap.size 37 1 v A.length (A.map (Value.int .u32)) ∧ _
  clear hAE
  go_enter Tryd.func40, Tryd.ntmps40
  go_wp2_with fail
  go_loopw [0, 4, 5] (fun S U M wx => ∃ (t : ByteArray) (P : List (List Int)) (f : Bool), S = .string t ∧ M = .bool f ∧ Hid (PU (L s) P f (L t)) ∧ Hid (P.all pcOk = true) ∧ (f = true → P.length + t.size ≤ s.size) ∧ (P.length : Int) ≤ s.size + 1 ∧ wx.ownsRow w.heap.size 37 1 U (P.map (num 16)).length ((P.map (num 16)).map (Value.int .u32)) ∧ Below w.heap.size w wx) (fun S _ M _ => if boolOf M = true then strOf S + 1 else 0)
  case atStart => exact ⟨s, [], true, rfl, rfl, hid rfl, hid rfl, fun _ => by simp, by simp; omega, World.ownsRow_nil _ _ _ _, Below.refl _ _⟩
  case round =>
    obtain ⟨t, P, f, rfl, rfl, hP, hok, hlen, hln, ho, hb⟩ := hrel
    cases f
    · have hsp : spl 44 [] (L s) = P := by
        have := hP.out
        unfold PU at this
        simpa using this
      have hlo := rd_len (Rd_own ho).1 uU (P := Tryd.prog)
      have hPl : (P.map (num 16)).length = P.length := by simp
      by_cases h4 : (4 : Int) < P.length
      · have e := hid (pu_long hsp hok.out (by omega))
        have h4' : (4 : Int) < (P.map (num 16)).length := by rw [hPl]; exact h4
        obtain ⟨ys, hys⟩ : ∃ ys, P.map (num 16) = ys := ⟨_, rfl⟩
        rw [hys] at hlo h4'
        clear hsp hys ho hPl
        go_wp2_with fail
        go_ret2
        obtain ⟨rfl, rfl⟩ := Prod.mk.inj (HAE.out.symm.trans e.out)
        exact ⟨_, rfl, World.ownsRow_nil _ _ _ _, hb⟩
      · have e := hid (pu_ok hsp hok.out (by omega))
        have h4' : ¬ (4 : Int) < (P.map (num 16)).length := by rw [hPl]; exact h4
        have hr := ho
        obtain ⟨ys, hys⟩ : ∃ ys, P.map (num 16) = ys := ⟨_, rfl⟩
        rw [hys] at hlo h4' hr e
        clear hsp hys ho hPl h4
        go_wp2_with fail
        go_ret2
        obtain ⟨rfl, rfl⟩ := Prod.mk.inj (HAE.out.symm.trans e.out)
        exact ⟨_, rfl, hr, hb⟩
    · have hlen := hlen rfl
      have hsp : spl 44 [] (L s) = P ++ spl 44 [] (L t) := hP.out
      have hPl : (P.map (num 16)).length = P.length := by simp
      have Hsp := hid hsp
      obtain ⟨ys, hys⟩ : ∃ ys, P.map (num 16) = ys := ⟨_, rfl⟩
      have Hys := hid hys
      rw [hys] at ho hPl
      clear hsp hys hP
      go_wp2_with (go_at_call 38; refine (w_cut t _ (by unfold maxLen; omega)).mono ?_; rintro e w1 ⟨X, Y, g, rfl, hc, b1⟩; refine Hid.out ?_)
      obtain ⟨c1, c2, c3⟩ := cutC_split hc
      rw [L_len] at c2 c3
      have cu := w_unitn X w1 (by unfold maxLen; omega) (hT.below (below_trans hb b1))
      have hsp2 : Hid (spl 44 [] (L s) = P ++ L X :: (if g = true then spl 44 [] (L Y) else [])) := by show _ = _; rw [Hsp.out, c1]
      clear c1 hc Hsp
      have hb1 := below_trans hb b1
      have ho1 := own_below ho b1
      refine hid ?_
      cases hpk : pcOk (L X)
      · rw [hpk] at cu
        have e := hid (pu_bad hsp2.out hpk)
        clear hpk hsp2 hlen c2 c3 ho ho1
        go_wp2_with (go_at_call 58; refine cu.mono ?_; rintro e w2 ⟨n, rfl, -, b2⟩)
        go_ret2
        obtain ⟨rfl, rfl⟩ := Prod.mk.inj (HAE.out.symm.trans e.out)
        exact ⟨_, rfl, World.ownsRow_nil _ _ _ _, below_trans hb1 b2⟩
      · have hn := pc_num (L X) (LB_bytes X) hpk
        have hok2 : Hid ((P ++ [L X]).all pcOk = true) := by show _ = _; rw [List.all_append, hok.out]; simp [hpk]
        obtain ⟨n, hnn⟩ : ∃ n, num 16 (L X) = n := ⟨_, rfl⟩
        have cu2 : Calls Tryd.prog 58 #[.string X] w1 fun e w' => e = .returned (.tuple #[.int .u32 n, .bool true]) ∧ Below w1.heap.size w1 w' := by
          rw [hpk] at cu
          refine cu.mono ?_
          rintro e w' ⟨m, rfl, h, b⟩
          rw [h rfl, hnn]
          exact ⟨rfl, b⟩
        rw [hnn] at hn
        obtain ⟨n0, n1⟩ := hn
        have Hys2 : Hid ((P ++ [L X]).map (num 16) = ys ++ [n]) := by show _ = _; rw [List.map_append, Hys.out]; simp [hnn]
        have c4 : (if boolOf (.bool g) = true then strOf (.string Y) + 1 else 0) < t.size + 1 := by
          cases g
          · simp [boolOf]
          · have := c3 rfl
            simp [boolOf, strOf]
            omega
        have H4 := hid c4
        have H3 := hid c3
        clear hpk cu hnn ho c3 c4
        go_wp2_with (first
          | (go_at_call 58; refine cu2.mono ?_; rintro e w2 ⟨rfl, b2⟩; have ho2 := own_below ho1 b2; have hb2 := below_trans hb1 b2; have ho3 := World.ownsRow.alloc ho2 (.cells #[.int .u32 n] 37); have hb3 := hb2.alloc hb2.size (.cells #[.int .u32 n] 37))
          | (at_builtin; refine wpList_append_rd (k := .u32) rfl _ _ 38 rfl w.heap.size 37 i0 4 Tryd.underlying38 hi hz0 hz1 hz2 _ ys rfl ho3 _ [n] rfl (rd_one _ n 37) (by unfold maxLen; simp; omega) (by simp; omega) hb3.size ?_; intro v4 w4 ho4 hg4))
        have hb4 := below_grown hb3 hg4 (fun k hk => (ho3.lt k hk).1)
        go_roundw
        case rel =>
          refine ⟨Y, P ++ [L X], g, rfl, rfl, hid ?_, hok2, fun hg => ?_, by simp; omega, ?_, hb4⟩
          · unfold PU
            rw [hsp2.out]
            simp
          · have := H3.out hg
            simp
            omega
          · rw [Hys2.out]
            exact ho4
        case measure => exact H4.out

theorem w_ppunit (s : ByteArray) (w : World) (hT : Tab w) (hs : s.size ≤ 35184372088000) :
    Calls Tryd.prog 40 #[.string s] w fun e w' => ∃ v1, e = .returned (.tuple #[v1, .int .i64 (punF (L s)).2]) ∧ Rd .u32 w' v1 (punF (L s)).1 ∧ Below w.heap.size w w' := by
  refine (w_ppunitO s w hT hs).mono ?_
  rintro e w' ⟨v, rfl, h, b⟩
  exact ⟨v, rfl, (Rd_own h).1, b⟩

set_option maxHeartbeats 4000000 in
set_option maxRecDepth 100000 in
theorem w_psunit (v : Value) (xs : List Int) (w : World) (hT : Tab w) (h : Rd .u32 w v xs) (hC : cells xs) (hz : xs.length * 16 ≤ 140737488355328) :
    Calls Tryd.prog 44 #[v] w fun e w' => e = .returned (.string (strOfNums (shoF xs))) ∧ Below w.heap.size w w' := by
  have hlen := rd_len h uU (P := Tryd.prog)
  obtain ⟨i0, hi, hz0, hz1, hz2⟩ := info_parts infoU8
  obtain ⟨F, hF⟩ : ∃ F, strOfNums (shoF xs) = F := ⟨_, rfl⟩
  have HF := hid hF
  rw [hF]
  clear hF
  go_enter Tryd.func44, Tryd.ntmps44
  go_wp2_with fail
  go_loopw [3, 8] (fun U I wx => ∃ (k : Nat) (ys : List Int), (k : Int) ≤ xs.length ∧ I = .int .i64 k ∧ Hid (ys = shoF (xs.take k)) ∧ (ys.length : Int) ≤ 9 * k ∧ Own8 w.heap.size wx U ys ∧ Below w.heap.size w wx) (fun _ I _ => (xs.length - intOf I).toNat)
  case atStart => exact ⟨0, [], by omega, rfl, hid rfl, by simp, World.ownsRow_nil _ _ _ _, Below.refl _ _⟩
  case round =>
    obtain ⟨k, ys, hk, rfl, hys, hyl, ho, hb⟩ := hrel
    by_cases hlt : (k : Int) < xs.length
    · have hkk : k < xs.length := by omega
      obtain ⟨ad, g1, cw⟩ := rd_idx h uU zU k (by omega) hlt
      have hx := hC xs[k] (List.getElem_mem hkk)
      have hgk : xs.getD (k : Int).toNat 0 = xs[k] := by rw [Int.toNat_natCast, List.getD_eq_getElem?_getD, List.getElem?_eq_getElem hkk]; rfl
      rw [hgk] at cw
      have htk : xs.take (k + 1) = xs.take k ++ [xs[k]] := List.take_succ_eq_append_getElem hkk
      obtain ⟨x, hxx⟩ : ∃ x, xs[k] = x := ⟨_, rfl⟩
      rw [hxx] at cw hx htk
      obtain ⟨x0, x1⟩ := hx
      have c1 := below_cell hb cw
      have hsl := (sh16_len x x0 x1).2
      rcases Nat.eq_zero_or_pos k with hk0 | hk0
      · have hyn : ys = [] := List.eq_nil_of_length_eq_zero (by omega)
        subst hyn
        have hys2 : Hid ([] ++ sh 16 x = shoF (xs.take (k + 1))) := by show _ = _; rw [htk, hk0]; simp [shoF_one]
        have hkn : ¬ (0 : Int) < k := by omega
        clear hxx hgk htk hys hk0
        go_wp2_with (go_at_call 61; refine (w_sapp _ [] x w.heap.size _ (hT.below hb) ho hb.size x0 x1 (by simp)).mono ?_; rintro e w5 ⟨v5, rfl, ho5, hb5⟩)
        go_roundw
        case rel => exact ⟨k + 1, [] ++ sh 16 x, by omega, by go_num, hys2, by simp; omega, ho5, hb.trans hb5⟩
        case measure => simp [intOf]; omega
      · have hne : xs.take k ≠ [] := by
          have hl : (xs.take k).length = k := by rw [List.length_take]; omega
          intro h
          rw [h] at hl
          simp at hl
          omega
        have hys2 : Hid ((ys ++ [44]) ++ sh 16 x = shoF (xs.take (k + 1))) := by
          show _ = _
          rw [htk, shoF_snoc _ _ hne, hys.out]
          simp
        have hkp : (0 : Int) < k := by omega
        have ho3 := World.ownsRow.alloc ho (.cells #[.int .u8 44] 5)
        have hb3 := hb.alloc hb.size (.cells #[.int .u8 44] 5)
        clear hxx hgk htk hys hne ho
        go_wp2_with (first
          | (at_builtin; refine wpList_append_rd (k := .u8) rfl _ _ 51 rfl w.heap.size 5 i0 1 Tryd.underlying51 hi hz0 hz1 hz2 _ ys rfl ho3 _ [44] rfl (rd_one _ 44 5) (by unfold maxLen; simp; omega) (by simp; omega) hb3.size ?_; intro v4 w4 ho4 hg4; have hb4 := below_grown hb3 hg4 (fun k hk => (ho3.lt k hk).1))
          | (go_at_call 61; refine (w_sapp _ (ys ++ [44]) x w.heap.size _ (hT.below hb4) ho4 hb4.size x0 x1 (by simp; omega)).mono ?_; rintro e w5 ⟨v5, rfl, ho5, hb5⟩))
        go_roundw
        case rel => exact ⟨k + 1, (ys ++ [44]) ++ sh 16 x, by omega, by go_num, hys2, by simp; omega, ho5, hb4.trans hb5⟩
        case measure => simp [intOf]; omega
    · have hr := (Rd_own ho).1
      have cs := rd_strT hr
      have e : strOfNums ys = F := by rw [← HF.out, hys.out, List.take_of_length_le (by omega)]
      rw [e] at cs
      clear e
      go_wp2_with fail
      go_ret
      exact ⟨rfl, hb⟩
end Go.Proofs.YtmjgiaomijghoaaDoor
