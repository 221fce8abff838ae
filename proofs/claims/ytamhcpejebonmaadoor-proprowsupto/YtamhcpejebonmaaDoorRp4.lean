/-
  Ints and Texts of the document's answer for properties.
-/
import Derived.Test.YtamhcpejebonmaaDoorRp3
namespace Go.Proofs.YtamhcpejebonmaaDoor
open Go.ChangeShapes Go.WideShapes Go.ChangeAt Go.RowKit
set_option linter.unusedVariables false
set_option linter.unusedSimpArgs false

theorem int_step (l : List Int) (h : 4 ≤ l.length) : intL l = beV (l.take 4) :: intL (l.drop 4) := by
  match l, h with
  | a :: b :: c :: d :: r, _ => simp [intL]
theorem int_none (l : List Int) (h : l.length < 4) : intL l = [] := by
  match l, h with
  | [], _ => rfl
  | [_], _ => rfl
  | [_, _], _ => rfl
  | [_, _, _], _ => rfl
theorem beV_u32 (l : List Int) (h : l.length = 4) (hb : bytesL l) : 0 ≤ beV l ∧ beV l < 4294967296 := by
  match l, h with
  | [a, b, c, d], _ =>
    have h1 := hb a (by simp)
    have h2 := hb b (by simp)
    have h3 := hb c (by simp)
    have h4 := hb d (by simp)
    simp [beV]
    omega

set_option maxHeartbeats 1000000 in
set_option maxRecDepth 100000 in
theorem w_rints (v : Value) (xs : List Int) (w : World) (h : Rd .u8 w v xs) (hB : bytesL xs) (hz : xs.length ≤ 140737488355328) :
    Calls Tryd.prog 30 #[v] w fun e w' => ∃ v1, e = .returned (.tuple #[v1, .int .i64 (intF xs).2]) ∧ Rd .u32 w' v1 (intF xs).1 ∧ Below w.heap.size w w' := by
  have hlen := rd_len h uB (P := Tryd.prog)
  have htm : ((xs.length : Int)).tmod 4 = (xs.length : Int) % 4 := Int.tmod_eq_emod_of_nonneg (by omega)
  by_cases h4 : (xs.length : Int) % 4 = 0
  · have e : intF xs = (intL xs, 0) := by unfold intF; rw [if_pos (by omega)]
    rw [e]
    obtain ⟨A, hA⟩ : ∃ A, intL xs = A := ⟨_, rfl⟩
    show Calls _ _ _ _ fun e w' => ∃ v1, e = .returned (.tuple #[v1, .int .i64 0]) ∧ Rd .u32 w' v1 (intL xs) ∧ _
    rw [hA]
    have HA := hid hA
    obtain ⟨i0, hi, hz0, hz1, hz2⟩ := info_parts infoU32
    clear e hA
    go_enter Tryd.func30, Tryd.ntmps30
    go_wp2_with fail
    go_loopw [0, 4] (fun B U wx => ∃ (r ys : List Int), Rd .u8 w B r ∧ bytesL r ∧ (r.length : Int) % 4 = 0 ∧ Hid (ys ++ intL r = A) ∧ 4 * (ys.length : Int) + r.length = xs.length ∧ wx.ownsRow w.heap.size 31 1 U ys.length (ys.map (Value.int .u32)) ∧ Below w.heap.size w wx) (fun B _ _ => lenOf B)
    case atStart => exact ⟨xs, [], h, hB, h4, hid (by rw [List.nil_append]; exact HA.out), by simp, World.ownsRow_nil _ _ _ _, Below.refl _ _⟩
    case round =>
      obtain ⟨r, ys, hr, hrb, hr4, hin, hll, ho, hb⟩ := hrel
      have hlr := rd_len hr uB (P := Tryd.prog)
      by_cases hlt : (0 : Int) < r.length
      · have c1 := w_rdecint _ r w wr hr hb hrb (by omega)
        have e : deIF r = (beV (r.take 4), r.drop 4, 0) := by unfold deIF; rw [if_neg (by omega)]
        rw [e] at c1
        have hn := beV_u32 (r.take 4) (by simp; omega) (bytes_take hrb 4)
        have hin2 : Hid (ys ++ [beV (r.take 4)] ++ intL (r.drop 4) = A) := by
          show _ = _
          rw [← hin.out, int_step r (by omega), List.append_assoc]
          rfl
        have hdl : ((r.drop 4).length : Int) = r.length - 4 := by simp; omega
        have hdb := bytes_drop hrb 4
        obtain ⟨x, hx⟩ : ∃ x, beV (r.take 4) = x := ⟨_, rfl⟩
        obtain ⟨D, hD⟩ : ∃ D, r.drop 4 = D := ⟨_, rfl⟩
        simp only [hx, hD] at c1 hn hin2 hdl hdb
        obtain ⟨n0, n1⟩ := hn
        clear e hx hD
        have hrl := rd_lenOf hr
        go_wp2_with (first
          | (go_at_call 26; refine c1.mono ?_; rintro e w1 ⟨v1, rfl, r1, b1⟩; have ho1 := own_below ho b1; have ho2 := World.ownsRow.alloc ho1 (.cells #[.int .u32 x] 31); have hb1 := below_trans hb b1; have hb2 := hb1.alloc hb1.size (.cells #[.int .u32 x] 31))
          | (at_builtin; refine wpList_append_rd (k := .u32) rfl _ _ 24 rfl w.heap.size 31 i0 4 Tryd.underlying24 hi hz0 hz1 hz2 _ ys rfl ho2 _ [x] rfl (rd_one _ x 31) (by unfold maxLen; simp; omega) (by simp; omega) hb2.size ?_; intro v4 w4 ho4 hg4))
        have hb4 := below_grown hb2 hg4 (fun k hk => (ho2.lt k hk).1)
        have hvl := rd_lenOf r1
        go_roundw
        case rel => exact ⟨D, ys ++ [x], r1, hdb, by omega, hin2, by simp; omega, ho4, hb4⟩
        case measure => rw [hrl, hvl]; omega
      · have e : Hid (A = ys) := by
          show _ = _
          rw [← hin.out, int_none r (by omega), List.append_nil]
        go_wp2_with fail
        go_ret2
        rw [e.out]
        exact ⟨_, rfl, (Rd_own ho).1, hb⟩
  · have e : intF xs = ([], 15) := by unfold intF; rw [if_neg (by omega)]
    rw [e]
    have hne : ((xs.length : Int) % 4 != 0) = true := by simpa using h4
    clear e h4
    go_enter Tryd.func30, Tryd.ntmps30
    go_wp2_with fail
    go_ret2
    exact ⟨_, rfl, Rd_nil, Below.refl _ _⟩

theorem spl_tex : ∀ (l cur : List Int),
    (spl 0 cur l = [cur ++ l] ∧ texL cur l = if cur ++ l = [] then some [] else none) ∨
    ∃ a b q r, l = a ++ 0 :: b ∧ spl 0 cur l = (cur ++ a) :: q :: r ∧ texL cur l = (texL [] b).map ((cur ++ a) :: ·)
  | [], cur => Or.inl ⟨by simp [spl], by simp [texL]⟩
  | c :: l, cur => by
    by_cases hc : c = 0
    · subst hc
      have hl := spl_len 0 l []
      cases hq : spl 0 [] l with
      | nil => rw [hq] at hl; simp at hl
      | cons q r => exact Or.inr ⟨[], l, q, r, rfl, by rw [spl, if_pos rfl, hq, List.append_nil], by rw [texL, if_pos rfl, List.append_nil]⟩
    · rcases spl_tex l (cur ++ [c]) with ⟨h1, h2⟩ | ⟨a, b, q, r, h1, h2, h3⟩
      · refine Or.inl ⟨?_, ?_⟩
        · rw [spl, if_neg hc, h1]; simp
        · rw [texL, if_neg hc, h2]; simp
      · refine Or.inr ⟨c :: a, b, q, r, by rw [h1]; rfl, ?_, ?_⟩
        · rw [spl, if_neg hc, h2]; simp
        · rw [texL, if_neg hc, h3]; simp
/-- taking the first text off, and what is read of all -/
theorem deT_tex (l : List Int) (h : l ≠ []) : (deTF l = ([], [], 2) ∧ texL [] l = none) ∨ ∃ p D, deTF l = (p, D, 0) ∧ texL [] l = (texL [] D).map (p :: ·) ∧ l = p ++ 0 :: D := by
  rcases spl_tex l [] with ⟨h1, h2⟩ | ⟨a, b, q, r, h1, h2, h3⟩
  · refine Or.inl ⟨?_, ?_⟩
    · unfold deTF; rw [h1]
    · rw [h2, List.nil_append, if_neg h]
  · refine Or.inr ⟨a, b, ?_, by simpa using h3, h1⟩
    unfold deTF
    rw [h2, h1]
    simp
theorem bytes_of_app {a b : List Int} {c : Int} (h : bytesL (a ++ c :: b)) : bytesL a ∧ bytesL b :=
  ⟨fun x hx => h x (by simp [hx]), fun x hx => h x (by simp [hx])⟩

set_option maxHeartbeats 1000000 in
set_option maxRecDepth 100000 in
theorem w_rtexts (v : Value) (xs : List Int) (w : World) (h : Rd .u8 w v xs) (hB : bytesL xs) (hz : (xs.length + 1) * 16 ≤ 140737488355328) :
    Calls Tryd.prog 32 #[v] w fun e w' => ∃ v1, e = .returned (.tuple #[v1, .int .i64 (texsF xs).2]) ∧ SlR 1 strR w' v1 ((texsF xs).1.map strOfNums) ∧ Below w.heap.size w w' := by
  obtain ⟨A, E, hAE⟩ : ∃ A E, texsF xs = (A, E) := ⟨_, _, rfl⟩
  have HAE := hid hAE
  rw [hAE]
  show Calls _ _ _ _ fun e w' => ∃ v1, e = .returned (.tuple #[v1, .int .i64 E]) ∧ SlR 1 strR w' v1 (A.map strOfNums) ∧ _
  clear hAE
  obtain ⟨i0, hi, hz0, hz1, hz2⟩ := info_parts infoStr
  go_enter Tryd.func32, Tryd.ntmps32
  go_wp2_with fail
  go_loopw [0, 4] (fun B U wx => ∃ (r : List Int) (ys : List (List Int)), Rd .u8 w B r ∧ bytesL r ∧ Hid (texL [] xs = (texL [] r).map (ys ++ ·)) ∧ (ys.length : Int) + r.length ≤ xs.length ∧ Hid (∀ y ∈ ys, y.length ≤ xs.length) ∧ wx.ownsRow w.heap.size 9 1 U (ys.map (fun y => Value.string (strOfNums y))).length (ys.map (fun y => Value.string (strOfNums y))) ∧ Below w.heap.size w wx) (fun B _ _ => lenOf B)
  case atStart => exact ⟨xs, [], h, hB, hid (by cases texL [] xs <;> simp), by simp, hid (fun y hy => by simp at hy), World.ownsRow_nil _ _ _ _, Below.refl _ _⟩
  case round =>
    obtain ⟨r, ys, hr, hrb, hin, hll, hyl, ho, hb⟩ := hrel
    have hlr := rd_len hr uB (P := Tryd.prog)
    by_cases hlt : (0 : Int) < r.length
    · have c1 := w_rdectext _ r w wr hr hb hrb (by omega)
      rcases deT_tex r (by intro h; subst h; simp at hlt) with ⟨e1, e2⟩ | ⟨p, D, e1, e2, e3⟩
      · rw [e1] at c1
        have e : Hid (texsF xs = ([], 15)) := by
          show _ = _
          unfold texsF
          rw [hin.out, e2]
          rfl
        clear e1 e2
        go_wp2_with (go_at_call 28; refine c1.mono ?_; rintro e w1 ⟨v1, rfl, r1, b1⟩)
        go_ret2
        obtain ⟨rfl, rfl⟩ := Prod.mk.inj (HAE.out.symm.trans e.out)
        exact ⟨_, rfl, SlR.nil, below_trans hb b1⟩
      · rw [e1] at c1
        have hin2 : Hid (texL [] xs = (texL [] D).map ((ys ++ [p]) ++ ·)) := by
          show _ = _
          rw [hin.out, e2]
          cases texL [] D <;> simp
        have hpl : p.length + 1 + D.length = r.length := by rw [e3]; simp; omega
        rw [e3] at hrb
        obtain ⟨hpb, hdb⟩ := bytes_of_app hrb
        obtain ⟨T, hT⟩ : ∃ T, strOfNums p = T := ⟨_, rfl⟩
        have HT := hid hT
        simp only [hT] at c1
        have hrl := rd_lenOf hr
        have hcl : (ys.map (fun y => Value.string (strOfNums y))).length = ys.length := by simp
        obtain ⟨cs, hcs⟩ : ∃ cs, ys.map (fun y => Value.string (strOfNums y)) = cs := ⟨_, rfl⟩
        have Hcs := hid hcs
        rw [hcs] at ho hcl
        clear e1 e2 e3 hT hcs hrb
        go_wp2_with (first
          | (go_at_call 28; refine c1.mono ?_; rintro e w1 ⟨v1, rfl, r1, b1⟩; have ho1 := own_below ho b1; have ho2 := World.ownsRow.alloc ho1 (.cells #[.string T] 9); have hb1 := below_trans hb b1; have hb2 := hb1.alloc hb1.size (.cells #[.string T] 9))
          | (at_builtin; refine wpList_append_one rfl _ _ 49 rfl w.heap.size 9 i0 (.string ⟨#[]⟩) 16 Tryd.underlying49 hi hz0 hz1 hz2 rfl _ cs rfl ho2 _ (.string T) rfl (by rw [World.cell?_alloc_new]; rfl) rfl (by unfold maxLen; omega) (by omega) hb2.size ?_; intro v4 w4 ho4 hg4))
        have hb4 := below_grown hb2 hg4 (fun k hk => (ho2.lt k hk).1)
        have hvl := rd_lenOf r1
        go_roundw
        case rel =>
          refine ⟨D, ys ++ [p], r1, hdb, hin2, by simp; omega, hid (fun y hy => ?_), ?_, hb4⟩
          · rw [List.mem_append] at hy
            rcases hy with hy | hy
            · exact hyl.out y hy
            · simp at hy; subst hy; omega
          · rw [List.map_append, Hcs.out]
            simp only [List.map_cons, List.map_nil, HT.out]
            exact ho4
        case measure => rw [hrl, hvl]; omega
    · have hr0 : r = [] := List.eq_nil_of_length_eq_zero (by omega)
      have e : Hid (texsF xs = (ys, 0)) := by
        show _ = _
        unfold texsF
        rw [hin.out, hr0]
        simp [texL]
      clear hr0
      go_wp2_with fail
      go_ret2
      obtain ⟨rfl, rfl⟩ := Prod.mk.inj (HAE.out.symm.trans e.out)
      refine ⟨_, rfl, slr_own ho (by simp) (fun i hi => ?_), hb⟩
      have hi2 : i < A.length := by simpa using hi
      refine ⟨by simp, ?_⟩
      have := hyl.out A[i] (List.getElem_mem hi2)
      rw [List.getElem_map]
      have hsz : (strOfNums A[i]).size = A[i].length := toB_size A[i]
      rw [hsz]
      unfold maxLen
      omega
end Go.Proofs.YtamhcpejebonmaaDoor
