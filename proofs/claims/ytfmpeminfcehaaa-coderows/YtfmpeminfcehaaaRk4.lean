/-
  copyOpen and Copy of the document's answer for code.
-/
import Derived.Test.YtfmpeminfcehaaaDfm
import Derived.Test.YtfmpeminfcehaaaAbg
import Derived.Test.YtfmpeminfcehaaaOw4
import Derived.Deep.RegionHeld2
import Derived.Deep.RegionLaw
namespace Go.Proofs.Ytfmpeminfcehaaa
open Go.ChangeShapes Go.WideShapes Go.ChangeAt Go.RowKit
set_option linter.unusedVariables false
set_option linter.unusedSimpArgs false

theorem OwN.snoc {lo hi hi' : Nat} {w w' : World} {U v' : Value} {xs : List Opn} {x : Opn} {vo : Value} {rows : List (List Value)} (a1 : rows.length = xs.length) (a2 : ∀ r ∈ rows, r.length = 2) (a3 : w.ownsRow lo 58 2 U xs.length rows.flatten) (a4 : ∀ i (h : i < xs.length), opnO lo w (rows.getD i []) xs[i]) (a5 : SepK rows) (a7 : ∀ i, i < rows.length → LtB ((rows.getD i []).getD 1 (.slice none 0 0)) hi)
    (hx : w.ownsRow lo 3 1 vo x.2.length (x.2.map (Value.int .i64))) (hge : ∀ g, vo.ownBlock = some g → hi ≤ g) (o : w'.ownsRow lo 58 2 v' (xs.length + 1) (rows.flatten ++ [.int .i64 x.1, vo])) (g : w.grownBy w' U.ownBlock) (hv : LtB v' hi') (hvo : LtB vo hi') (hh : hi ≤ hi') : OwN lo hi' w' v' (xs ++ [x]) := by
  have k := Kept.own a3 g
  refine ⟨rows ++ [[.int .i64 x.1, vo]], by simp [a1], fun r hm => ?_, by simpa using o, fun i hi2 => ?_, sepK_snoc a5 (fun i q hi2 hq => ?_), hv, fun i hi2 => ?_⟩
  · rcases List.mem_append.1 hm with hm | hm
    · exact a2 r hm
    · simp at hm; subst hm; rfl
  · by_cases hlt : i < xs.length
    · rw [List.getD_eq_getElem?_getD, List.getElem?_append_left (by omega), List.getElem_append_left hlt, ← List.getD_eq_getElem?_getD]
      exact opnO_apt (by decide) _ _ _ _ k (a4 i hlt)
    · have hi3 : i = xs.length := by simp at hi2; omega
      subst hi3
      rw [List.getD_eq_getElem?_getD, List.getElem?_append_right (by omega), a1]
      simp
      exact ⟨vo, rfl, own_kept k (by decide) hx⟩
  · intro hq2
    have h1 := a7 i hi2 q hq
    have h2 := hge q hq2
    omega
  · by_cases hlt : i < rows.length
    · have e : (rows ++ [[Value.int .i64 x.1, vo]]).getD i [] = rows.getD i [] := by rw [List.getD_eq_getElem?_getD, List.getElem?_append_left hlt, ← List.getD_eq_getElem?_getD]
      rw [e]
      exact (a7 i hlt).le hh
    · have hi3 : i = rows.length := by simp at hi2; omega
      subst hi3
      have e : (rows ++ [[Value.int .i64 x.1, vo]]).getD rows.length [] = [Value.int .i64 x.1, vo] := by rw [List.getD_eq_getElem?_getD, List.getElem?_append_right (Nat.le_refl _)]; simp
      rw [e]
      exact hvo

theorem OwN.far {lo hi : Nat} {w w' : World} {v : Value} {l : List Opn} {g : Nat} (h : OwN lo hi w v l) (gr : w.grownBy w' (some g)) (hg : hi ≤ g) : OwN lo hi w' v l := by
  obtain ⟨rows, a1, a2, a3, a4, a5, a6, a7⟩ := h
  refine ⟨rows, a1, a2, grown_below gr a3 (fun k hk e => ?_), fun i hi2 => ?_, a5, a6, a7⟩
  · have := a6 k hk
    cases e
    omega
  · obtain ⟨vo, e1, o1⟩ := a4 i hi2
    refine ⟨vo, e1, grown_below gr o1 (fun k hk e => ?_)⟩
    have h7 := a7 i (by omega)
    rw [e1] at h7
    have := h7 k hk
    cases e
    omega

set_option maxHeartbeats 4000000 in
set_option maxRecDepth 100000 in
theorem w_r10copyOpen (v : Value) (l : List Opn) (w : World) (h : RdN w v l) (hz : l.length * 32 ≤ 190000000000000) (hs : ∀ x ∈ l, x.2.length * 8 ≤ 140737488355328) :
    Calls Try.prog 21 #[v] w fun e w' => ∃ v1, e = .returned v1 ∧ OwN w.heap.size w'.heap.size w' v1 l ∧ Below w.heap.size w w' := by
  obtain ⟨i8, hi8, hz6, hz5, hz4⟩ := info_parts infoJ10
  obtain ⟨i9, hi9, hz9, hz8, hz7⟩ := info_parts infoOn10
  have hla := slr_len h uK (P := Try.prog)
  have hm := slr_max h
  unfold maxLen at hm
  have H := hid h
  have HS := hid hs
  clear h hs
  go_enter Try.func21, Try.ntmps21
  go_wp2_with fail
  go_loopw [3, 4] (fun U I wx => ∃ i : Nat, (i : Int) ≤ l.length ∧ I = .int .i64 i ∧ OwN w.heap.size wx.heap.size wx U (l.take i) ∧ Below w.heap.size w wx) (fun U I _ => (l.length - intOf I).toNat)
  case atStart => exact ⟨0, by omega, rfl, OwN.nil _ _ _, Below.refl _ _⟩
  case round =>
    obtain ⟨i, hi, rfl, hN, hb⟩ := hrel
    by_cases hlt : (i : Int) < l.length
    · have hil : i < l.length := by omega
      obtain ⟨b1, o1, vo, i1, c0, c1, ro⟩ := opn_at (RdN.below H.out hb) i hil
      have hsz := HS.out _ (List.getElem_mem hil)
      obtain ⟨oa, oq, rfl⟩ := rd_slice ro
      obtain ⟨A, hA⟩ : ∃ A, l[i].1 = A := ⟨_, rfl⟩
      obtain ⟨N5, hN5⟩ : ∃ A, l[i].2.length = A := ⟨_, rfl⟩
      rw [hA] at c0
      rw [hN5] at c1 ro hsz
      have st := stands_new wr #[.int .i64 A, .slice none 0 0] 58
      have bx := box_below wr (.cells #[.int .i64 A, .slice none 0 0] 58)
      have hNx := hN.below bx
      have rox := ro.below bx
      have c1x := below_cell bx c1
      have hwb := Nat.le_trans hb.size bx.size
      go_upto_region 6 with fail
      generalize wr.alloc (.cells #[.int .i64 A, .slice none 0 0] 58) = w1 at st bx hNx rox c1x hwb ⊢
      have Z : Hid (∀ W, Below w1.heap.size w1 W → (W.cell? ⟨wr.heap.size, 0, none⟩ = some (.int .i64 A) ∧ W.cell? ⟨b1, o1 + 1, none⟩ = some (.slice oa N5 oq)) ∧ ∃ u, W.cell? ⟨wr.heap.size, 1, none⟩ = some u) := fun W q => ⟨⟨(st.below q).cell 0 _ rfl, below_cell q c1x⟩, _, (st.below q).cell 1 _ rfl⟩
      have hrd : Hid (Below w1.heap.size w1 w1.drew) := below_drewN (Below.refl _ _) 1
      have ROX := hid rox
      have ST := hid st
      have HN := hid hNx
      clear c0 c1 c1x ro rox st hNx
      have rod := hid (ROX.out.below hrd.out)
      have z1 := ST.out.cell 1 _ rfl
      have z2 := (Z.out _ (Below.refl _ _)).1.2
      go_region_law (refine step_append_rd (k := .i64) rfl (.tmp 19) (.tmp 24) 23 rfl w1.drew.heap.size 3 i8 8 Try.underlying23 hi8 hz6 hz5 hz4 (.slice none 0 0) [] (by simp [Act.eval, Act.put]) (World.ownsRow_nil _ _ _ _) (.slice oa N5 oq) l[i].2 (by simp [Act.eval, Act.put]) rod.out (by rw [List.length_nil, hN5]; unfold maxLen; omega) (by rw [List.length_nil, hN5]; omega) (Nat.le_refl _) ?_; intro v5 w5 ho5 hg5; rw [List.nil_append, hN5] at ho5; obtain ⟨oa2, oc2, rfl⟩ := own_form ho5; have B5 : Hid (Below w1.heap.size w1 w5) := below_grown hrd.out hg5 (fun k hk => by cases hk); have HO5 := hid ho5; have y1 := (ST.out.below B5.out).cell 1 _ rfl; have y2 := (ST.out.below B5.out).free 1; clear ho5 hg5)
      all_goals (
        have st5 := ST.out.below B5.out
        have kS := set_kept st5 1 (.slice oa2 N5 oc2)
        have stS : Stands _ wr.heap.size #[.int .i64 A, (.slice oa2 N5 oc2)] 58 := st5.set 1 (.slice oa2 N5 oc2)
        have bS := below_set (below_trans (below_trans hb bx) B5.out) wr.heap.size 1 (.slice oa2 N5 oc2) hb.size
        have aS : Ab w1.heap.size w5 (w5.setCell ⟨wr.heap.size, 1, none⟩ (.slice oa2 N5 oc2)) := ab_set _ _ _ _ (Array.getElem?_eq_some_iff.1 ST.out).1
        have hd1 : w1.heap.size ≤ w1.drew.heap.size := hrd.out.size
        have oS := own_ab aS (own_le hd1 HO5.out)
        have hNS : OwN w.heap.size wr.heap.size (w5.setCell ⟨wr.heap.size, 1, none⟩ (.slice oa2 N5 oc2)) u3 (l.take i) := HN.out.below B5.out |>.far (gb_set (gb_refl w5 (some wr.heap.size)) 1 (.slice oa2 N5 oc2)) (Nat.le_refl _)
        have hsz5 : w1.heap.size ≤ (w5.setCell ⟨wr.heap.size, 1, none⟩ (.slice oa2 N5 oc2)).heap.size := by have := B5.out.size; simp only [World.setCell, Array.size_modify]; exact this
        generalize w5.setCell ⟨wr.heap.size, 1, none⟩ (.slice oa2 N5 oc2) = w6 at kS stS bS aS oS hNS hsz5 ⊢
        have t0 := stS.cell 0 _ rfl
        have t1 := stS.cell 1 _ rfl
        have bX := box_below w6 (.cells #[.int .i64 A, .slice oa2 N5 oc2] 58)
        obtain ⟨rows, a1, a2, a3, a4, a5, a6, a7⟩ := hNS.below bX
        have hti : (l.take i).length = i := by rw [List.length_take]; omega
        have oX := own_belowN oS bX
        have hlo6 : w.heap.size ≤ w6.heap.size := bS.size
        have A1 := hid a1
        have A2 := hid a2
        have A4 := hid a4
        have A5 := hid a5
        have A7 := hid a7
        have OX := hid oX
        rw [hti] at a3
        have one : ∀ r ∈ [[Value.int .i64 A, .slice oa2 N5 oc2]], ∀ u ∈ r, u.oneCell' = true := fun r hr u hu => by rw [List.mem_singleton] at hr; subst hr; simp at hu; rcases hu with rfl | rfl <;> rfl
        clear a1 a2 a4 a5 a7 oX hNS kS aS st5 y1 y2
        go_wp2_with (at_builtin; refine wpList_append_rowsB rfl _ _ 24 rfl w.heap.size 58 i9 _ 2 32 Try.underlying24 hi9 hz9 hz8 hz7 rfl (by decide) _ i _ rfl a3 _ [[Value.int .i64 A, .slice oa2 N5 oc2]] rfl (slc_one w6 [Value.int .i64 A, .slice oa2 N5 oc2] 58 2 rfl) one (by unfold maxLen; simp only [List.length_singleton]; omega) (by simp only [List.length_singleton]; omega) (Nat.le_trans hlo6 bX.size) ?_; intro v9 w9 ho9 hg9; obtain ⟨a9, c9, rfl⟩ := own_form ho9)
        have hs9 := hg9.size
        have hs6 := bX.size
        have hN9 : OwN w.heap.size w9.heap.size w9 _ (l.take i ++ [l[i]]) := OwN.snoc (x := l[i]) A1.out A2.out (by rw [hti]; exact a3) A4.out A5.out A7.out (by rw [hN5]; exact own_le (Nat.le_trans hb.size bx.size) OX.out) (fun q hq => Nat.le_trans bx.size (OX.out.lt q hq).1) (by rw [hti, hA]; simpa using ho9) hg9 (own_ltB ho9) ((own_ltB OX.out).le (by omega)) (by have := bx.size; omega)
        rw [← List.take_succ_eq_append_getElem hil] at hN9
        have b9 := below_grown (below_trans bS bX) hg9 (fun q hq => (a3.lt q hq).1)
        go_roundw
        case rel => exact ⟨i + 1, by omega, by go_num, hN9, b9⟩
        case measure => simp [intOf]; omega)
    · have hfull : l.take i = l := List.take_of_length_le (by omega)
      rw [hfull] at hN
      go_wp2_with fail
      go_ret
      exact ⟨_, rfl, hN, hb⟩

/-- how much a draft holds -/
structure szD (d : Dft) : Prop where
  code : d.code.length * 16 ≤ 140737488355328
  origs : d.origs.length * 8 ≤ 140737488355328
  dests : d.dests.length * 8 ≤ 140737488355328
  loops : d.loops.length * 32 ≤ 190000000000000
  loopO : ∀ x ∈ d.loops, x.2.length * 8 ≤ 140737488355328
  cases : d.cases.length * 32 ≤ 190000000000000
  caseO : ∀ x ∈ d.cases, x.2.length * 8 ≤ 140737488355328
theorem op_rows10 {w : World} {l : List Opd} {rows : List (List Value)} (g2 : rows.length = l.length) (g3 : ∀ i (h : i < l.length), opR w (rows.getD i []) l[i]) : (∀ r ∈ rows, r.length = 2) ∧ ∀ r ∈ rows, ∀ u ∈ r, u.oneCell' = true := by
  have hr : ∀ r ∈ rows, ∃ a b, r = [.int .i64 a, .int .u32 b] := by
    intro r hr
    obtain ⟨i, hi, rfl⟩ := List.getElem_of_mem hr
    have := g3 i (by omega)
    rw [List.getD_eq_getElem?_getD, List.getElem?_eq_getElem hi] at this
    exact ⟨_, _, this⟩
  constructor
  · intro r h
    obtain ⟨a, b, rfl⟩ := hr r h
    rfl
  · intro r h u hu
    obtain ⟨a, b, rfl⟩ := hr r h
    simp at hu
    rcases hu with rfl | rfl <;> rfl

set_option maxHeartbeats 4000000 in
set_option maxRecDepth 100000 in
theorem w_r10copy (v : Dv) (d : Dft) (w : World) (h : RdD w v d) (z : szD d) :
    Calls Try.prog 9 #[.agg v.cs] w fun e w' => ∃ v1 b1 b2 b3, e = .returned (.agg v1.cs) ∧ OwD w.heap.size w' v1 d b1 b2 b3 ∧ Below w.heap.size w w' := by
  obtain ⟨i7, hi7, hy9, hy8, hy7⟩ := info_parts infoOp10
  obtain ⟨i8, hi8, hz6, hz5, hz4⟩ := info_parts infoJ10
  obtain ⟨vc, vo, vd, vl, vk⟩ := v
  obtain ⟨h1, h2, h3, h4, h5⟩ := h
  simp only at h1 h2 h3 h4 h5
  obtain ⟨ca, cq, rfl⟩ := slr_slice h1
  obtain ⟨oa, oq, rfl⟩ := rd_slice h2
  obtain ⟨da, dq, rfl⟩ := rd_slice h3
  obtain ⟨la, lq, rfl⟩ := slr_slice h4
  obtain ⟨ka, kq, rfl⟩ := slr_slice h5
  have cl := fun W (b : Below w.heap.size w W) => w_r10copyOpen _ _ W (RdN.below h4 b) z.loops z.loopO
  have ck := fun W (b : Below w.heap.size w W) => w_r10copyOpen _ _ W (RdN.below h5 b) z.cases z.caseO
  have zc := z.code
  have zo := z.origs
  have zd := z.dests
  obtain ⟨rows, r1, r2, r3⟩ := h1
  obtain ⟨r4, r5⟩ := op_rows10 r2 r3
  have s0 := ((stands_new w #[.slice ca d.code.length cq, .slice oa d.origs.length oq, .slice da d.dests.length dq, .slice la d.loops.length lq, .slice ka d.cases.length kq] 26).below (box_below _ (.cells #[.slice none 0 0, .slice none 0 0, .slice none 0 0, .slice none 0 0, .slice none 0 0] 26))).below (box_below _ (.cells #[.slice none 0 0, .slice none 0 0, .slice none 0 0, .slice none 0 0, .slice none 0 0] 26))
  have s1 := (stands_new (w.alloc (.cells #[.slice ca d.code.length cq, .slice oa d.origs.length oq, .slice da d.dests.length dq, .slice la d.loops.length lq, .slice ka d.cases.length kq] 26)) #[.slice none 0 0, .slice none 0 0, .slice none 0 0, .slice none 0 0, .slice none 0 0] 26).below (box_below _ (.cells #[.slice none 0 0, .slice none 0 0, .slice none 0 0, .slice none 0 0, .slice none 0 0] 26))
  have s2 := stands_new ((w.alloc (.cells #[.slice ca d.code.length cq, .slice oa d.origs.length oq, .slice da d.dests.length dq, .slice la d.loops.length lq, .slice ka d.cases.length kq] 26)).alloc (.cells #[.slice none 0 0, .slice none 0 0, .slice none 0 0, .slice none 0 0, .slice none 0 0] 26)) #[.slice none 0 0, .slice none 0 0, .slice none 0 0, .slice none 0 0, .slice none 0 0] 26
  rw [size_al] at s1
  rw [size_al, size_al] at s2
  have bw := below_trans (below_trans (box_below w (.cells #[.slice ca d.code.length cq, .slice oa d.origs.length oq, .slice da d.dests.length dq, .slice la d.loops.length lq, .slice ka d.cases.length kq] 26)) (box_below _ (.cells #[.slice none 0 0, .slice none 0 0, .slice none 0 0, .slice none 0 0, .slice none 0 0] 26))) (box_below _ (.cells #[.slice none 0 0, .slice none 0 0, .slice none 0 0, .slice none 0 0, .slice none 0 0] 26))
  simp only [Dv.cs]
  have CL := hid cl
  have CK := hid ck
  have R3 := hid r3
  have R4 := hid r4
  clear cl ck z r3 r4
  go_enter Try.func9, Try.ntmps9
  go_upto_region 2 with fail
  generalize ((w.alloc (.cells #[.slice ca d.code.length cq, .slice oa d.origs.length oq, .slice da d.dests.length dq, .slice la d.loops.length lq, .slice ka d.cases.length kq] 26)).alloc (.cells #[.slice none 0 0, .slice none 0 0, .slice none 0 0, .slice none 0 0, .slice none 0 0] 26)).alloc (.cells #[.slice none 0 0, .slice none 0 0, .slice none 0 0, .slice none 0 0, .slice none 0 0] 26) = W0 at s0 s1 s2 bw ⊢
  have hW0 : w.heap.size + 1 + 1 < W0.heap.size := (Array.getElem?_eq_some_iff.1 s2).1
  have f0 := s0.cell 0 _ rfl
  have g0 := s2.cell 0 _ rfl
  go_upto_region 3 with (at_builtin; refine wpList_append_rows rfl _ _ 22 rfl W0.heap.size 37 i7 _ 2 16 Try.underlying22 hi7 hy9 hy8 hy7 rfl (by decide) (.slice none 0 0) 0 [] rfl (World.ownsRow_nil _ _ _ _) _ rows rfl (r1.below bw) r5 (by unfold maxLen; omega) (by omega) (Nat.le_refl _) ?_; intro vA qA hoA hgA; rw [Nat.zero_add, r2] at hoA; obtain ⟨ca1, cq1, rfl⟩ := own_form hoA; have dA : Below W0.heap.size W0 qA := below_grown (Below.refl _ _) hgA (fun k hk => by cases hk); have y1 := (s2.below dA).cell 0 _ rfl; have y2 := (s2.below dA).free 0)
  have kA := set_kept (s2.below dA) 0 (.slice ca1 d.code.length cq1)
  have s2A : Stands _ (w.heap.size + 1 + 1) #[.slice ca1 d.code.length cq1, .slice none 0 0, .slice none 0 0, .slice none 0 0, .slice none 0 0] 26 := (s2.below dA).set 0 (.slice ca1 d.code.length cq1)
  have s0A := (s0.below dA).other (b' := w.heap.size + 1 + 1) 0 (.slice ca1 d.code.length cq1) (by omega)
  have s1A := (s1.below dA).other (b' := w.heap.size + 1 + 1) 0 (.slice ca1 d.code.length cq1) (by omega)
  have bA := below_set (below_trans bw dA) (w.heap.size + 1 + 1) 0 (.slice ca1 d.code.length cq1) (by omega)
  have oC := OwnR.kept (show OwC w.heap.size qA (.slice ca1 d.code.length cq1) d.code from ⟨rows, r2, R4.out, own_le bw.size (by simpa using hoA), fun i hi => R3.out i hi⟩) kA (by decide) opR_apt10
  have hqA : W0.heap.size ≤ (qA.setCell ⟨w.heap.size + 1 + 1, 0, none⟩ (.slice ca1 d.code.length cq1)).heap.size := by have := dA.size; simp only [World.setCell, Array.size_modify]; exact this
  generalize qA.setCell ⟨w.heap.size + 1 + 1, 0, none⟩ (.slice ca1 d.code.length cq1) = QA at kA s2A s0A s1A bA hqA oC ⊢
  clear y1 y2 f0 g0 hoA hgA dA s0 s2 kA r1 r5
  have f1 := s0A.cell 1 _ rfl
  have g1 := s2A.cell 1 _ rfl
  go_upto_region 4 with (at_builtin; refine wpList_append_rd (k := .i64) rfl _ _ 23 rfl QA.heap.size 3 i8 8 Try.underlying23 hi8 hz6 hz5 hz4 (.slice none 0 0) [] rfl (World.ownsRow_nil _ _ _ _) _ d.origs rfl (h2.below bA) (by rw [List.length_nil]; unfold maxLen; omega) (by rw [List.length_nil]; omega) (Nat.le_refl _) ?_; intro vX qB hoX hgX; rw [List.nil_append] at hoX; obtain ⟨oa1, oq1, rfl⟩ := own_form hoX; have dB : Below QA.heap.size QA qB := below_grown (Below.refl _ _) hgX (fun k hk => by cases hk); have y1 := (s2A.below dB).cell 1 _ rfl; have y2 := (s2A.below dB).free 1)
  have kB := set_kept (s2A.below dB) 1 (.slice oa1 d.origs.length oq1)
  have s2B : Stands _ (w.heap.size + 1 + 1) #[.slice ca1 d.code.length cq1, .slice oa1 d.origs.length oq1, .slice none 0 0, .slice none 0 0, .slice none 0 0] 26 := (s2A.below dB).set 1 (.slice oa1 d.origs.length oq1)
  have s0B := (s0A.below dB).other (b' := w.heap.size + 1 + 1) 1 (.slice oa1 d.origs.length oq1) (by omega)
  have s1B := (s1A.below dB).other (b' := w.heap.size + 1 + 1) 1 (.slice oa1 d.origs.length oq1) (by omega)
  have bB := below_set (below_trans bA dB) (w.heap.size + 1 + 1) 1 (.slice oa1 d.origs.length oq1) (by omega)
  have oCB := OwnR.kept (OwnR.below oC dB (fun _ _ q => q)) kB (by decide) opR_apt10
  have oO := own_kept kB (by decide) (own_le bA.size hoX)
  have lO := own_ltB hoX
  have hqB : QA.heap.size ≤ (qB.setCell ⟨w.heap.size + 1 + 1, 1, none⟩ (.slice oa1 d.origs.length oq1)).heap.size := by have := dB.size; simp only [World.setCell, Array.size_modify]; exact this
  generalize qB.setCell ⟨w.heap.size + 1 + 1, 1, none⟩ (.slice oa1 d.origs.length oq1) = QB at kB s2B s0B s1B bB hqB oCB oO lO ⊢
  have lO2 : LtB (.slice oa1 d.origs.length oq1) QB.heap.size := own_ltB oO
  clear y1 y2 f1 g1 hoX hgX dB s0A s2A s1A kB oC lO bA
  have f1 := s0B.cell 2 _ rfl
  have g1 := s2B.cell 2 _ rfl
  go_upto_region 5 with (at_builtin; refine wpList_append_rd (k := .i64) rfl _ _ 23 rfl QB.heap.size 3 i8 8 Try.underlying23 hi8 hz6 hz5 hz4 (.slice none 0 0) [] rfl (World.ownsRow_nil _ _ _ _) _ d.dests rfl (h3.below bB) (by rw [List.length_nil]; unfold maxLen; omega) (by rw [List.length_nil]; omega) (Nat.le_refl _) ?_; intro vX qC hoX hgX; rw [List.nil_append] at hoX; obtain ⟨da1, dq1, rfl⟩ := own_form hoX; have dC : Below QB.heap.size QB qC := below_grown (Below.refl _ _) hgX (fun k hk => by cases hk); have y1 := (s2B.below dC).cell 2 _ rfl; have y2 := (s2B.below dC).free 2)
  have kC := set_kept (s2B.below dC) 2 (.slice da1 d.dests.length dq1)
  have s2C : Stands _ (w.heap.size + 1 + 1) #[.slice ca1 d.code.length cq1, .slice oa1 d.origs.length oq1, .slice da1 d.dests.length dq1, .slice none 0 0, .slice none 0 0] 26 := (s2B.below dC).set 2 (.slice da1 d.dests.length dq1)
  have s0C := (s0B.below dC).other (b' := w.heap.size + 1 + 1) 2 (.slice da1 d.dests.length dq1) (by omega)
  have s1C := (s1B.below dC).other (b' := w.heap.size + 1 + 1) 2 (.slice da1 d.dests.length dq1) (by omega)
  have bC := below_set (below_trans bB dC) (w.heap.size + 1 + 1) 2 (.slice da1 d.dests.length dq1) (by omega)
  have oCC := OwnR.kept (OwnR.below oCB dC (fun _ _ q => q)) kC (by decide) opR_apt10
  have oOC := own_kept kC (by decide) (own_belowN oO dC)
  have oD := own_kept kC (by decide) hoX
  have hqC : QB.heap.size ≤ (qC.setCell ⟨w.heap.size + 1 + 1, 2, none⟩ (.slice da1 d.dests.length dq1)).heap.size := by have := dC.size; simp only [World.setCell, Array.size_modify]; exact this
  generalize qC.setCell ⟨w.heap.size + 1 + 1, 2, none⟩ (.slice da1 d.dests.length dq1) = QC at kC s2C s0C s1C bC hqC oCC oOC oD ⊢
  have lD2 : LtB (.slice da1 d.dests.length dq1) QC.heap.size := own_ltB oD
  clear y1 y2 f1 g1 hoX hgX dC s0B s2B s1B kC oCB oO bB
  have f1 := s0C.cell 3 _ rfl
  go_upto_region 6 with (go_at_call 21; refine (CL.out _ bC).mono ?_; rintro e qD ⟨vX, rfl, oX, dD⟩; obtain ⟨csX, rX⟩ := oX.own.row; obtain ⟨la1, lq1, rfl⟩ := own_form rX; have y1 := (s2C.below dD).cell 3 _ rfl; have y2 := (s2C.below dD).free 3)
  have kD := set_kept (s2C.below dD) 3 (.slice la1 d.loops.length lq1)
  have s2D : Stands _ (w.heap.size + 1 + 1) #[.slice ca1 d.code.length cq1, .slice oa1 d.origs.length oq1, .slice da1 d.dests.length dq1, .slice la1 d.loops.length lq1, .slice none 0 0] 26 := (s2C.below dD).set 3 (.slice la1 d.loops.length lq1)
  have s0D := (s0C.below dD).other (b' := w.heap.size + 1 + 1) 3 (.slice la1 d.loops.length lq1) (by omega)
  have s1D := (s1C.below dD).other (b' := w.heap.size + 1 + 1) 3 (.slice la1 d.loops.length lq1) (by omega)
  have bD := below_set (below_trans bC dD) (w.heap.size + 1 + 1) 3 (.slice la1 d.loops.length lq1) (by omega)
  have oCD := OwnR.kept (OwnR.below oCC dD (fun _ _ q => q)) kD (by decide) opR_apt10
  have oOD := own_kept kD (by decide) (own_belowN oOC dD)
  have oDD := own_kept kD (by decide) (own_belowN oD dD)
  have oL := (oX.kept kD (by decide) (by decide)).mono (Nat.le_refl _) kD.size
  have hqD : QC.heap.size ≤ (qD.setCell ⟨w.heap.size + 1 + 1, 3, none⟩ (.slice la1 d.loops.length lq1)).heap.size := by have := dD.size; simp only [World.setCell, Array.size_modify]; exact this
  generalize qD.setCell ⟨w.heap.size + 1 + 1, 3, none⟩ (.slice la1 d.loops.length lq1) = QD at kD s2D s0D s1D bD hqD oCD oOD oDD oL ⊢
  clear y1 y2 f1 oX rX dD s0C s2C s1C kD oCC oOC oD bC
  have f1 := s0D.cell 4 _ rfl
  go_upto_region 7 with (go_at_call 21; refine (CK.out _ bD).mono ?_; rintro e qE ⟨vX, rfl, oX, dE⟩; obtain ⟨csX, rX⟩ := oX.own.row; obtain ⟨ka1, kq1, rfl⟩ := own_form rX; have y1 := (s2D.below dE).cell 4 _ rfl; have y2 := (s2D.below dE).free 4)
  have kE := set_kept (s2D.below dE) 4 (.slice ka1 d.cases.length kq1)
  have s2E : Stands _ (w.heap.size + 1 + 1) #[.slice ca1 d.code.length cq1, .slice oa1 d.origs.length oq1, .slice da1 d.dests.length dq1, .slice la1 d.loops.length lq1, .slice ka1 d.cases.length kq1] 26 := (s2D.below dE).set 4 (.slice ka1 d.cases.length kq1)
  have s0E := (s0D.below dE).other (b' := w.heap.size + 1 + 1) 4 (.slice ka1 d.cases.length kq1) (by omega)
  have s1E := (s1D.below dE).other (b' := w.heap.size + 1 + 1) 4 (.slice ka1 d.cases.length kq1) (by omega)
  have bE := below_set (below_trans bD dE) (w.heap.size + 1 + 1) 4 (.slice ka1 d.cases.length kq1) (by omega)
  have oCE := OwnR.kept (OwnR.below oCD dE (fun _ _ q => q)) kE (by decide) opR_apt10
  have oOE := own_kept kE (by decide) (own_belowN oOD dE)
  have oDE := own_kept kE (by decide) (own_belowN oDD dE)
  have oLE := (oL.below dE).kept kE (by decide) (by decide)
  have oK := (oX.kept kE (by decide) (by decide)).mono (Nat.le_refl _) kE.size
  have hqE : QD.heap.size ≤ (qE.setCell ⟨w.heap.size + 1 + 1, 4, none⟩ (.slice ka1 d.cases.length kq1)).heap.size := by have := dE.size; simp only [World.setCell, Array.size_modify]; exact this
  generalize qE.setCell ⟨w.heap.size + 1 + 1, 4, none⟩ (.slice ka1 d.cases.length kq1) = QE at kE s2E s0E s1E bE hqE oCE oOE oDE oLE oK ⊢
  clear y1 y2 f1 oX rX dE s0D s2D s1D kE oCD oOD oDD oL bD
  have u0 := s2E.cell 0 _ rfl
  have u1 := s2E.cell 1 _ rfl
  have u2 := s2E.cell 2 _ rfl
  have u3 := s2E.cell 3 _ rfl
  have u4 := s2E.cell 4 _ rfl
  have y0 := s1E.cell 0 _ rfl
  have y1 := s1E.cell 1 _ rfl
  have y2 := s1E.cell 2 _ rfl
  have y3 := s1E.cell 3 _ rfl
  have y4 := s1E.cell 4 _ rfl
  have yf := s1E.free
  have oDF : OwD w.heap.size QE ⟨.slice ca1 d.code.length cq1, .slice oa1 d.origs.length oq1, .slice da1 d.dests.length dq1, .slice la1 d.loops.length lq1, .slice ka1 d.cases.length kq1⟩ d QB.heap.size QC.heap.size QD.heap.size := ⟨oCE, oOE, lO2, oDE, lD2, oLE, oK, Nat.le_trans (Nat.le_trans bw.size hqA) hqB, hqC, hqD, hqE⟩
  obtain ⟨k1, k2⟩ := set5q s1E (.slice ca1 d.code.length cq1) (.slice oa1 d.origs.length oq1) (.slice da1 d.dests.length dq1) (.slice la1 d.loops.length lq1) (.slice ka1 d.cases.length kq1)
  have K1 := hid k1
  have GM := hid (k2 (fun u => OwD w.heap.size u ⟨.slice ca1 d.code.length cq1, .slice oa1 d.origs.length oq1, .slice da1 d.dests.length dq1, .slice la1 d.loops.length lq1, .slice ka1 d.cases.length kq1⟩ d QB.heap.size QC.heap.size QD.heap.size) (fun u u' kk q => q.kept kk (by decide) (by decide) (by decide)) oDF)
  have J7 : Hid (Below w.heap.size w _) := below_set (below_set (below_set (below_set (below_set (bE) (w.heap.size + 1) 0 (.slice ca1 d.code.length cq1) (by omega)) (w.heap.size + 1) 1 (.slice oa1 d.origs.length oq1) (by omega)) (w.heap.size + 1) 2 (.slice da1 d.dests.length dq1) (by omega)) (w.heap.size + 1) 3 (.slice la1 d.loops.length lq1) (by omega)) (w.heap.size + 1) 4 (.slice ka1 d.cases.length kq1) (by omega)
  clear k1 k2 oDF oCE oOE oDE oLE oK s1E s2E s0E
  go_wp2_with fail
  (try simp only [Exit.inBlock, Exit.then])
  refine bodyPost_ret (results_cell_row rfl _ _ (w.heap.size + 1) 26 _ (0, 0) _ rfl K1.out Try.underlying26 rfl (show _ = some 5 by kernel_rfl)) rfl ?_
  exact ⟨⟨.slice ca1 d.code.length cq1, .slice oa1 d.origs.length oq1, .slice da1 d.dests.length dq1, .slice la1 d.loops.length lq1, .slice ka1 d.cases.length kq1⟩, _, _, _, rfl, GM.out, J7.out⟩
end Go.Proofs.Ytfmpeminfcehaaa
