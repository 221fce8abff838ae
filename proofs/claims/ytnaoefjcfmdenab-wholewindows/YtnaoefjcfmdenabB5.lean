/-
  Texts of one proof, laid one behind the other: Azo Lbd Bam Bka Cp Bkb Bkc Cpa8.
-/
import Derived.Test.YtnaoefjcfmdenabB4
import Derived.Lib.AppendZerosOnto
import Derived.Laws.StructEq
import Derived.Laws.CopyOwn
import Derived.Lib.BufferWrite
import Derived.Deep.OwnRows
namespace Go.Proofs.Ytnaoefjcfmdenab
open Go.ChangeShapes Go.WideShapes Go.ChangeAt Go.RowKit
set_option linter.unusedVariables false
set_option linter.unusedSimpArgs false

/-
  append(s, make([]T, k)...) onto a row of the call's own: k noughts behind it, where there is room and where there is none. No Go text in sight.
-/
theorem zero_cells1 (z : Value) (hz : z.cells.size = 1) (k : Nat) : Builtin.zeroCells z.cells k = (List.replicate k (z.cells[0]'(by omega))).toArray := by
  apply Array.ext
  · simp [Builtin.zeroCells, hz]
  · intro i h1 h2
    simp [Builtin.zeroCells, hz, Nat.mod_one]
theorem append_zeros_own {P : Program} {w : World} {k : IntKind} (base : Nat) (t tn e : TypeId) (i : TypeInfo) (bytes : Nat) (ht : P.underlying t = some (.slice e)) (htn : P.underlying tn = some (.int .i64)) (hi : P.info? e = some i) (hz : i.zero = some (.int k 0)) (hsize : i.size = 1) (hby : i.bytes = bytes)
    (v : Value) (ys : List Int) (hown : w.ownsRow base e 1 v ys.length (ys.map (Value.int k))) (hy : 0 < ys.length) (m : Nat) (hm : 0 < m) (h63 : ys.length + m ≤ maxLen) (hbytes : (ys.length + m) * bytes ≤ 140737488355328) (hbase : base ≤ w.heap.size) :
    ∃ v' w', (∀ ty, (Builtin.append_ #[t, tn] ty #[v, .int .i64 (m : Int)]).run P w = .ok v' w') ∧ w'.ownsRow base e 1 v' (ys ++ List.replicate m 0).length ((ys ++ List.replicate m 0).map (Value.int k)) ∧ w.grownBy w' v.ownBlock := by
  have hzc := zero_cells1 (.int k 0) rfl
  obtain ⟨hl, ho⟩ := hown
  rcases ho with ⟨_, h0⟩ | ⟨g, cap, cur, rfl, hb, hg, hc, hcm, hs, htk⟩
  · omega
  · have hs1 : cur.size = cap := by omega
    have htk1 : cur.toList.take ys.length = ys.map (Value.int k) := by rw [← htk, Nat.mul_one]
    have hmap : (ys ++ List.replicate m (0 : Int)).map (Value.int k) = ys.map (Value.int k) ++ List.replicate m (.int k 0) := by simp
    have hlen : (ys ++ List.replicate m (0 : Int)).length = ys.length + m := by simp
    unfold maxLen at h63 hcm
    by_cases hr : ys.length + m ≤ cap
    · have how : w.ownsRow base e 1 (.slice (some ⟨g, 0, none⟩) (ys.length + m) cap) (ys.length + m) (cur.toList.take (ys.length + m)) := ⟨by simp; omega, .inr ⟨g, cap, cur, rfl, hb, hg, hr, hcm, hs, by simp⟩⟩
      have hset := own_setCells (List.replicate m (Value.int k 0)) w _ ys.length how
      refine ⟨.slice (some ⟨g, 0, none⟩) (ys.length + m) cap, w.setCells g ys.length (List.replicate m (.int k 0)), fun ty => ?_, ?_, hset.2⟩
      · have hst := run_storeCells_cells (P := P) g ys.length (List.replicate m (Value.int k 0)) 0 w (fun j hj => ?_) (fun j hj => by simp [World.frozen?, hg]) (fun u hu => by simp only [List.mem_replicate] at hu; rw [hu.2]; rfl)
        · have hw : IntKind.i64.wrap (m : Int) = m := by rw [IntKind.wrap_i64]; omega
          have hneg : ¬ ((m : Int) < 0) := by omega
          have hsmall : m * i.bytes ≤ 140737488355328 := by
            rw [hby]
            exact Nat.le_trans (Nat.mul_le_mul_right _ (by omega)) hbytes
          have h48i : ¬ (281474976710656 < (m : Int) * (i.bytes : Int)) := by
            rw [← Int.natCast_mul]
            omega
          have hne : ¬ m = 0 := by omega
          have hadd : (⟨g, 0, none⟩ : Addr).add ys.length = ⟨g, ys.length, none⟩ := by unfold Addr.add; split <;> simp_all
          simp [Builtin.append_, run_underlying ht, run_underlying htn, sizeOf, typeInfo, zeroValue, hi, hz, hsize, asInt, asIntOf, hw, hneg, h48i, hr, hne, hzc, Value.cells, hadd]
          have hst2 : (storeCells ⟨g, ys.length, none⟩ (List.replicate m (Value.int k 0))).run P w = .ok () (w.setCells g ys.length (List.replicate m (.int k 0))) := hst
          rw [show Builtin.zeroCells #[Value.int k 0] m = (List.replicate m (Value.int k 0)).toArray from hzc m, hst2]
          rfl
        · rw [List.length_replicate] at hj
          have : ys.length + j < cur.size := by omega
          simp [World.cell?, hg, this]
      · rw [hlen, hmap]
        have hx := hset.1
        rw [setL_eq _ _ _ (by simp; omega)] at hx
        have e1 : (cur.toList.take (ys.length + m)).take ys.length = ys.map (Value.int k) := by rw [List.take_take, Nat.min_eq_left (by omega), htk1]
        have e2 : (cur.toList.take (ys.length + m)).drop (ys.length + (List.replicate m (Value.int k 0)).length) = [] := by rw [List.length_replicate]; exact List.drop_of_length_le (by simp; omega)
        rw [e1, e2, List.append_nil] at hx
        exact hx
    · have hold : (Builtin.firstCells i.size ys.length (.slice (some ⟨g, 0, none⟩) ys.length cap)).run P w.drew = .ok (ys.map (Value.int k)).toArray w.drew := by
        have := run_loadCells_list (P := P) w.drew ⟨g, 0, none⟩ (ys.map (Value.int k)) (fun j u hj => by
          have hadd : (⟨g, 0, none⟩ : Addr).add j = ⟨g, j, none⟩ := by unfold Addr.add; split <;> simp_all
          rw [hadd]
          have hj2 : j < ys.length := by
            rcases Nat.lt_or_ge j ys.length with hq | hq
            · exact hq
            · rw [List.getElem?_eq_none (by simpa using hq)] at hj
              cases hj
          rw [← htk1, List.getElem?_take, if_pos hj2] at hj
          show w.cell? ⟨g, j, none⟩ = _
          simp only [World.cell?, hg]
          simpa using hj)
        rw [List.length_map] at this
        simpa [Builtin.firstCells, hsize] using this
      have hfit := growslice_fits (need := ys.length + m) (old := cap) (bytes := bytes) (by omega) hbytes
      have hrun := fun ty => Lib.run_append_grow_zeros (P := P) w t tn ty e i (.int k 0) .i64 .i64 ht htn hi hz (some ⟨g, 0, none⟩) ys.length cap _ hold m hm (by omega) (by omega) (by omega)
        (by rw [hby]; exact Nat.le_trans (Nat.mul_le_mul_right _ (by omega)) (Nat.le_trans hbytes (by decide))) (by rw [hby]; exact hfit)
      have hG := grownCap_ge w (ys.length + m) cap e
      have hGm := grownCap_le_maxLen w (ys.length + m) cap e (by unfold maxLen; omega)
      refine ⟨_, _, hrun, ?_, ⟨rfl, rfl, rfl, by simp, fun q hq _ => Below.heap_alloc w.drew _ q hq⟩⟩
      rw [hlen, hmap]
      refine ⟨by simp, .inr ⟨w.heap.size, _, _, rfl, hbase, heap_alloc_new w.drew _, hG, hGm, ?_, ?_⟩⟩
      · simp only [Array.size_append, List.size_toArray, List.length_map, hzc, List.length_replicate]
        omega
      · rw [Nat.mul_one, hzc, hzc]
        simp only [Value.cells, Array.toList_append, List.append_assoc]
        rw [← List.append_assoc]
        exact List.take_left' (by simp)

/-
  The landed package label: Make.
-/
theorem pt_val (ps : List Int) (hl : ps.length = 16) (i : Nat) (hi : i < 8) (w : World) : (Instr.index 30 (.agg (ArA .u32 ps)) (.int .i64 (i : Int))).run Try.prog w = .ok (.agg #[.int .u32 (ps.getD (2 * i) 0), .int .u32 (ps.getD (2 * i + 1) 0)]) w := by
  have hx : (0 : Int) ≤ (i : Int) ∧ (i : Int) < ((8 : Nat) : Int) := by omega
  have hp := pt_part ps i (by omega) w
  unfold Instr.index
  simp [Sem.run_bind, run_underlying arrL, asIntOf, hx, Try.sizeOf29, hp]
  omega
theorem cx_all (B : Nat) (w' : World) : (Instr.sliceAt 43 (.pointer (some ⟨B, 0, none⟩)) none none none).run Try.prog w' = .ok (.slice (some ⟨B, 0, none⟩) 2 2) w' := by
  rw [run_sliceAt_array_all w' 43 ⟨B, 0, none⟩ arrC', elC, Try.sizeOf5, lenC]
  rfl
theorem cx_rd {w : World} {B : Nat} {S : List Int} {T : TypeId} (h : Stands w B (ArA .u8 S) T) (hl : S.length = 2) : Rd .u8 w (.slice (some ⟨B, 0, none⟩) 2 2) S := by
  refine Or.inr ⟨B, 0, 2, by rw [hl], by omega, by omega, by decide, fun i hi => ?_⟩
  rw [Nat.zero_add]
  exact h.cell i _ (ara_at i hi)

set_option maxHeartbeats 4000000 in
set_option maxRecDepth 100000 in
theorem w_pmake21 (ps : List Int) (w : World) (hl : ps.length = 16) (hu : u32L ps) :
    Calls Try.prog 4 #[.agg (ArA .u32 ps)] w fun e w' => ∃ v, e = .returned (.tuple #[v, .int .i64 (mkF ps).2]) ∧ Own8 w.heap.size w' v (mkF ps).1 ∧ Below w.heap.size w w' := by
  obtain ⟨i0, hi, hz0, hz1, hz2⟩ := info_parts infoU8
  have ba := arat_box .u32 w ps 30
  have bx := box_below w (.cells (ArA .u32 ps) 30)
  have HV := hid (fun (i : Nat) (hi : i < 8) (w' : World) => pt_val ps hl i hi w')
  obtain ⟨A0, hA0⟩ : ∃ A0, ArA .u32 ps = A0 := ⟨_, rfl⟩
  have szA : (Try.prog.info? 30).map (·.size) = some ps.length := by rw [hl]; exact szL
  rw [hA0] at ba bx HV ⊢
  go_enter Try.func4, Try.ntmps4
  go_upto_region 2 with fail
  generalize w.alloc (.cells A0 30) = W0 at ba bx ⊢
  refine wp_region_lit ?_
  refine wpList_load_ar rfl 30 (.tmp 1) rfl w.heap.size 0 rfl ps ba _ arrL rfl szA ?_
  rw [hA0]
  clear ba szA
  go_wp2_with fail
  go_loopw [4, 9] (fun V I wx => ∃ i : Nat, i ≤ 8 ∧ I = .int .i64 i ∧ Hid (lb64 (ps.take (2 * i)) = true) ∧ Own8 W0.heap.size wx V ((ps.take (2 * i)).flatMap (beB 4)) ∧ Below W0.heap.size W0 wx) (fun _ I _ => (8 - intOf I).toNat)
  case atStart => exact ⟨0, by omega, rfl, rfl, own8_nil _ _, Below.refl _ _⟩
  case round =>
    obtain ⟨i, hi8, rfl, hp, ho, hg⟩ := hrel
    by_cases hlt : (i : Int) < 8
    · have hnx := lb_step ps i (by omega)
      rw [hp.out, Bool.true_and] at hnx
      have hfl := hid (flat_take_be ps i (by omega))
      have hAl : ((ps.take (2 * i)).flatMap (beB 4)).length = 8 * i := by rw [flat_be_len, List.length_take]; omega
      have hAl : ((ps.take (2 * i)).flatMap (beB 4)).length ≤ 64 := by omega
      have ix := HV.out i (by omega)
      have uP := u32_get hu (2 * i)
      have uQ := u32_get hu (2 * i + 1)
      obtain ⟨A, hA⟩ : ∃ A, (ps.take (2 * i)).flatMap (beB 4) = A := ⟨_, rfl⟩
      obtain ⟨P, hP⟩ : ∃ P, ps.getD (2 * i) 0 = P := ⟨_, rfl⟩
      obtain ⟨Q, hQ⟩ : ∃ Q, ps.getD (2 * i + 1) 0 = Q := ⟨_, rfl⟩
      rw [hA, hP, hQ] at hfl
      rw [hA] at ho hAl
      rw [hP] at uP hnx ix
      rw [hQ] at uQ hnx ix
      have bk := box_below wr (.cells #[.int .u32 P, .int .u32 Q] 29)
      have sB := stands_new wr #[.int .u32 P, .int .u32 Q] 29
      have hne := fun k hk => (show some wr.heap.size ≠ some k by have := (ho.lt k hk).2; intro hh; injection hh; omega)
      have oA := own_below ho bk
      have gA := below_trans hg bk
      clear hA hP hQ
      go_upto_region 5 with fail
      generalize hW1 : wr.alloc (.cells #[.int .u32 P, .int .u32 Q] 29) = W1 at sB bk oA gA ⊢
      have k0 := sB.cell 0 _ rfl
      have k1 := sB.cell 1 _ rfl
      clear hW1 ho hg bk
      by_cases h0 : P ≤ 64
      · by_cases h1 : Q ≤ 64
        · rw [decide_eq_true h0, decide_eq_true h1] at hnx
          have HN := hid hnx
          have g0 : ¬ 64 < P := by omega
          have g1 : ¬ 64 < Q := by omega
          have c1 := fun W => w_pencint P W uP.1 uP.2
          have c2 := fun W => w_pencint Q W uQ.1 uQ.2
          have l1 := be4_len P
          have l2 := be4_len Q
          obtain ⟨E, hE⟩ : ∃ E, beB 4 P = E := ⟨_, rfl⟩
          obtain ⟨G, hG⟩ : ∃ G, beB 4 Q = G := ⟨_, rfl⟩
          rw [hE] at hfl l1
          rw [hG] at hfl l2
          simp only [hE] at c1
          simp only [hG] at c2
          clear hnx hE hG h0 h1
          go_upto_region 8 with (first
            | (go_at_call 10; refine (c1 _).mono ?_; rintro e w1 ⟨v1, rfl, r1, b1⟩; have oB : Own8 W0.heap.size w1 _ A := own_below oA b1; have gB := below_trans gA b1; have sC := sB.below b1)
            | (at_builtin; refine wpList_append_rd (k := .u8) rfl _ _ 23 rfl W0.heap.size 5 i0 1 Try.underlying23 hi hz0 hz1 hz2 _ A rfl oB v1 E rfl r1 (by unfold maxLen; first | omega | (simp only [List.length_append, List.length_cons, List.length_nil]; omega)) (by first | omega | (simp only [List.length_append, List.length_cons, List.length_nil]; omega)) gB.size ?_; intro v2 w2 o2 g2; have h2 := below_grown gB g2 (fun k hk => (oB.lt k hk).1)))
          have sD := sC.grown g2 (fun hh => (hne _ hh.symm) rfl)
          have k2 := sD.cell 1 _ rfl
          clear k0 k1 sB sC g2
          go_wp2_with (first
            | (go_at_call 10; refine (c2 _).mono ?_; rintro e w3 ⟨v3, rfl, r3, b3⟩; have oC : Own8 W0.heap.size w3 _ (A ++ E) := own_below o2 b3; have gC := below_trans h2 b3)
            | (at_builtin; refine wpList_append_rd (k := .u8) rfl _ _ 23 rfl W0.heap.size 5 i0 1 Try.underlying23 hi hz0 hz1 hz2 _ (A ++ E) rfl oC v3 G rfl r3 (by unfold maxLen; first | omega | (simp only [List.length_append, List.length_cons, List.length_nil]; omega)) (by first | omega | (simp only [List.length_append, List.length_cons, List.length_nil]; omega)) gC.size ?_; intro v4 w4 o4 g4; have h4 := below_grown gC g4 (fun k hk => (oC.lt k hk).1)))
          go_roundw
          case rel => exact ⟨i + 1, by omega, by go_num, HN.out, by rw [hfl.out]; exact o4, h4⟩
          case measure => simp [intOf]; omega
        · rw [decide_eq_false h1, Bool.and_false] at hnx
          have hm : Hid (mkF ps = ([], 1)) := by show _ = _; unfold mkF; rw [lb_false ps _ hnx]; rfl
          have g0 : ¬ 64 < P := by omega
          have g1 : 64 < Q := by omega
          clear hnx h0 h1
          go_wp2_with fail
          go_ret2
          rw [hm.out]
          exact ⟨_, rfl, own8_nil _ _, below_trans bx gA⟩
      · rw [decide_eq_false h0, Bool.false_and] at hnx
        have hm : Hid (mkF ps = ([], 1)) := by show _ = _; unfold mkF; rw [lb_false ps _ hnx]; rfl
        have g0 : 64 < P := by omega
        clear hnx h0
        go_wp2_with fail
        go_ret2
        rw [hm.out]
        exact ⟨_, rfl, own8_nil _ _, below_trans bx gA⟩
    · have hi8 : i = 8 := by omega
      subst hi8
      rw [List.take_of_length_le (by omega)] at hp ho
      have hm : Hid (mkF ps = (lbF ps, 0)) := by show _ = _; unfold mkF; rw [if_pos hp.out]
      have hFl := flat_be_len ps
      obtain ⟨F, hF⟩ : ∃ F, ps.flatMap (beB 4) = F := ⟨_, rfl⟩
      have hlb : Hid (lbF ps = (F ++ List.replicate 444 0 ++ [218, 190]) ++ [(xevF (F ++ List.replicate 444 0 ++ [218, 190]) (0, 0)).1, (xevF (F ++ List.replicate 444 0 ++ [218, 190]) (0, 0)).2]) := by
        show _ = _
        unfold lbF lbH
        rw [hF]
      have hbt : bytesL (F ++ List.replicate 444 0 ++ [218, 190]) := by
        have := lbH_bytes hu
        unfold lbH at this
        rw [hF] at this
        exact this
      rw [hF] at ho hFl
      have hFl : F.length = 64 := by omega
      obtain ⟨v1, w1, h1, o1, g1⟩ := append_zeros_own (P := Try.prog) (k := .u8) W0.heap.size 23 3 5 i0 1 Try.underlying23 Try.underlying3 hi hz0 hz1 hz2 _ F ho (by omega) 444 (by omega) (by unfold maxLen; omega) (by omega) hg.size
      have b1 := below_grown hg g1 (fun k hk => (ho.lt k hk).1)
      have hG : (F ++ List.replicate 444 (0 : Int)).length = 508 := by rw [List.length_append, List.length_replicate, hFl]
      obtain ⟨G, hGe⟩ : ∃ G, F ++ List.replicate 444 (0 : Int) = G := ⟨_, rfl⟩
      rw [hGe] at hlb hbt o1 hG
      have bk := box_below w1 (.cells #[.int .u8 218, .int .u8 190] 5)
      have oA : Own8 W0.heap.size (w1.alloc (.cells #[.int .u8 218, .int .u8 190] 5)) _ G := own_below o1 bk
      have gA := below_trans b1 bk
      have r1 := rd_lit (k := .u8) w1 [218, 190] 5 (by simp) (by simp [maxLen])
      simp only [List.map_cons, List.map_nil, List.length_cons, List.length_nil, Nat.zero_add, Nat.reduceAdd] at r1
      have hH : (G ++ [218, 190]).length = 510 := by simp [hG]
      obtain ⟨H, hHe⟩ : ∃ H, G ++ [(218 : Int), 190] = H := ⟨_, rfl⟩
      rw [hHe] at hlb hbt hH
      have hcr := cr_xev H 255 (by omega)
      rw [List.take_of_length_le (by omega), show 2 * 255 = H.length by omega] at hcr
      rw [← hcr] at hlb
      have cc := fun W v r => w_pcross21 v H W r hbt (by omega)
      have hcs := cra_size H H.length
      obtain ⟨X, Y, hXY⟩ : ∃ X Y, crF H H.length = (X, Y) := ⟨_, _, rfl⟩
      have hca : crA H H.length = ArA .u8 [X, Y] := by unfold crA; rw [hXY]
      rw [hXY] at hlb
      rw [hca] at cc
      rw [hca] at hcs
      obtain ⟨CA, hCA⟩ : ∃ CA, ArA .u8 [X, Y] = CA := ⟨_, rfl⟩
      rw [hCA] at cc hcs
      have HCA := hid hCA
      have HHe := hid hHe
      have co : CA.all (·.oneCell') = true := by rw [← hCA]; exact ara_one _ _
      have z := zeroC.1
      obtain ⟨Z, hZ⟩ : ∃ Z, ArA .u8 [0, 0] = Z := ⟨_, rfl⟩
      rw [hZ] at z
      have hrun := fun W : World => run_storeCells_new (P := Try.prog) W 43 Z CA (by rw [hcs]; exact zeroC.2) (by rw [hcs, ← hZ, ara_size]; rfl) co
      have cxa := fun B w' => cx_all B w'
      clear hcr hXY hca hCA hGe hHe hF hZ hp ho hg hlt co g1 hbt
      go_upto_region 11 with (at_builtin; refine Lib.wpList_append_run _ rfl _ _ _ _ rfl _ _ rfl rfl _ _ (h1 _) ?_)
      go_upto_region 12 with (at_builtin; refine wpList_append_rd (k := .u8) rfl _ _ 23 rfl W0.heap.size 5 i0 1 Try.underlying23 hi hz0 hz1 hz2 _ G rfl oA _ [218, 190] rfl r1 (by unfold maxLen; first | omega | (simp only [List.length_append, List.length_cons, List.length_nil]; omega)) (by first | omega | (simp only [List.length_append, List.length_cons, List.length_nil]; omega)) gA.size ?_; intro v2 w2 o2 g2; have h2 := below_grown gA g2 (fun k hk => (oA.lt k hk).1))
      rw [HHe.out] at o2
      clear r1 oA gA bk g2 h1 o1
      go_upto_region 13 with (go_at_call 11; refine (cc _ _ (Rd_own o2).1).mono ?_; rintro e w3 ⟨rfl, b3⟩; have h3 := hrun w3)
      have b4 := below_trans b3 (box_below w3 (.cells CA 43))
      have sC := stands_new w3 CA 43
      rw [← HCA.out] at sC
      have rC := cx_rd sC rfl
      have o4 := own_below o2 b4
      have h4 := below_trans h2 b4
      rw [HCA.out] at rC
      have ca := cxa w3.heap.size
      clear h3 hrun cxa sC b4
      go_wp2_with (at_builtin; refine wpList_append_rd (k := .u8) rfl _ _ 23 rfl W0.heap.size 5 i0 1 Try.underlying23 hi hz0 hz1 hz2 _ H rfl o4 _ [X, Y] rfl rC (by unfold maxLen; first | omega | (simp only [List.length_append, List.length_cons, List.length_nil]; omega)) (by first | omega | (simp only [List.length_append, List.length_cons, List.length_nil]; omega)) h4.size ?_; intro v5 w5 o5 g5; have h5 := below_grown h4 g5 (fun k hk => (o4.lt k hk).1))
      go_ret2
      rw [hm.out, hlb.out]
      exact ⟨_, rfl, own8_base o5 bx.size, below_trans bx h5⟩

/-
  Rows of what is done to sectors (api.Act) in memory: two cells each.
-/
def acC (p : Bool × Int) : List Value := [.bool p.1, .int .i64 p.2]
def acR (_ : World) (cs : List Value) (p : Bool × Int) : Prop := cs = acC p
theorem acR_below {w w' : World} (cs : List Value) (x : Bool × Int) (h : acR w cs x) : acR w' cs x := h
theorem uAc : Try.prog.underlying 63 = some (.slice (Try.prog.elem 63)) := by kernel_rfl
theorem eAc : Try.prog.elem 63 = 70 := by kernel_rfl
theorem zAc (w : World) : (sizeOf (Try.prog.elem 63)).run Try.prog w = .ok 2 w := by rw [eAc]; exact Try.sizeOf70 w
theorem infoAc : (Try.prog.info? 70).map (fun i => (i.zero, i.size, i.bytes)) = some (some (.agg #[.bool false, .int .i64 0]), 2, 16) := by kernel_rfl
theorem info_ac : ∃ i, Try.prog.info? 70 = some i ∧ i.zero = some (.agg #[.bool false, .int .i64 0]) ∧ i.size = 2 ∧ i.bytes = 16 := by
  obtain ⟨i, h1, h2⟩ := Option.map_eq_some_iff.1 infoAc
  injection h2 with h2 h3
  injection h3 with h3 h4
  exact ⟨i, h1, h2, h3, h4⟩
/-- an element of two cells: its address' rule, its cells, what it reads as -/
theorem slr_idx2 {α : Type} {P : Program} {R : World → List Value → α → Prop} {w : World} {v : Value} {xs : List α} (h : SlR 2 R w v xs) {t : TypeId} (ht : P.underlying t = some (.slice (P.elem t))) (hs : ∀ w, (sizeOf (P.elem t)).run P w = .ok 2 w) (i : Nat) (h1 : i < xs.length) :
    ∃ (b o : Nat) (c0 c1 : Value), (∀ w', (Instr.indexAt t v (.int .i64 (i : Int))).run P w' = .ok (.pointer (some ⟨b, o, none⟩)) w') ∧ w.cell? ⟨b, o, none⟩ = some c0 ∧ w.cell? ⟨b, o + 1, none⟩ = some c1 ∧ R w [c0, c1] xs[i] := by
  obtain ⟨rows, g1, g2, g3⟩ := h
  obtain ⟨ao, cap, rfl, hc, hn, hx⟩ := g1.form
  obtain ⟨hm, b, off, rfl, hcell⟩ := hx (by omega)
  obtain ⟨l1, l2⟩ := hcell i (by omega)
  have e0 := l2 0 (by omega)
  have e1 := l2 1 (by omega)
  have hr := g3 i h1
  match hrow : rows.getD i [], l1 with
  | [c0, c1], _ =>
    rw [hrow] at e0 e1 hr
    refine ⟨b, off + i * 2, c0, c1, fun w' => ?_, by simpa using e0, by simpa using e1, hr⟩
    rw [run_indexAt_slice (h := ht), if_pos ⟨by omega, by omega⟩, hs]
    simp only [Result.andThen, Int.toNat_natCast]
    congr 3
    unfold Addr.add
    split
    · rename_i hz; rw [hz]; rfl
    · rfl
theorem ac_at {w : World} {v : Value} {xs : List (Bool × Int)} (h : SlR 2 acR w v xs) (i : Nat) (h1 : i < xs.length) :
    ∃ (b o : Nat) (W : Bool) (S : Int), (∀ w', (Instr.indexAt 63 v (.int .i64 (i : Int))).run Try.prog w' = .ok (.pointer (some ⟨b, o, none⟩)) w') ∧ w.cell? ⟨b, o, none⟩ = some (.bool W) ∧ w.cell? ⟨b, o + 1, none⟩ = some (.int .i64 S) ∧ xs[i] = (W, S) := by
  obtain ⟨b, o, c0, c1, r, e0, e1, hR⟩ := slr_idx2 h uAc zAc i h1
  simp only [acR, acC, List.cons.injEq] at hR
  obtain ⟨rfl, rfl, _⟩ := hR
  exact ⟨b, o, _, _, r, e0, e1, rfl⟩
theorem ac_str : Try.prog.underlying 70 = some (.struct (Try.prog.fieldsOf 70)) := by kernel_rfl
theorem ac_held : Try.prog.stoodInHeld 70 = false := by kernel_rfl
theorem ac_guard : Try.prog.eqGuardType Try.prog.depth 70 = false := by kernel_rfl
theorem ac_neq (w : World) (a1 a2 : Bool) (v1 v2 : Int) : (binOp .neq 70 (.agg #[.bool a1, .int .i64 v1]) (.agg #[.bool a2, .int .i64 v2])).run Try.prog w = .ok (.bool (!(a1 == a2 && v1 == v2))) w := by
  rw [run_neq_struct, run_equalIn_agg w _ _ _ _ ac_str ac_held]
  cases h1 : (a1 == a2) <;> cases h2 : (v1 == v2)
  all_goals simp [go_sem, h1, h2]
def OwA (base : Nat) (w : World) (v : Value) (out : List (Bool × Int)) : Prop := w.ownsRow base 70 2 v out.length (out.flatMap acC)
theorem OwA.read {base : Nat} {w : World} {v : Value} {out : List (Bool × Int)} (h : OwA base w v out) : SlR 2 acR w v out :=
  slr_rows acC (fun _ _ => rfl) (by decide) h (fun _ _ => rfl)
theorem own_belowA {w w' : World} {base : Nat} {v : Value} {out : List (Bool × Int)} (h : OwA base w v out) (g : Below w.heap.size w w') : OwA base w' v out := by
  obtain ⟨hl, h⟩ := h
  refine ⟨hl, ?_⟩
  rcases h with h | ⟨b, cap, cur, rfl, hb, hg, hc, hm, hs, ht⟩
  · exact Or.inl h
  · refine Or.inr ⟨b, cap, cur, rfl, hb, ?_, hc, hm, hs, ht⟩
    rw [g.block b (Array.getElem?_eq_some_iff.1 hg).1]
    exact hg
theorem owa_nil (base : Nat) (w : World) : OwA base w (.slice none 0 0) [] := World.ownsRow_nil _ _ _ _
theorem ac_one (p : Bool × Int) : ∀ u ∈ acC p, u.oneCell' = true := by
  intro u hu
  simp [acC] at hu
  rcases hu with rfl | rfl <;> rfl

theorem dkK_thr (a n k : Int) : (dkK a n k = [] ∧ min (a + n) (512 * k + 512) ≤ max a (512 * k)) ∨ (dkK a n k = [(false, k), (true, k)] ∧ max a (512 * k) < min (a + n) (512 * k + 512) ∧ min (a + n) (512 * k + 512) - max a (512 * k) < 512) ∨
    (dkK a n k = [(true, k)] ∧ max a (512 * k) < min (a + n) (512 * k + 512) ∧ ¬ min (a + n) (512 * k + 512) - max a (512 * k) < 512) := by
  unfold dkK
  by_cases h1 : min (a + n) (512 * k + 512) ≤ max a (512 * k)
  · rw [if_pos h1]
    exact Or.inl ⟨rfl, h1⟩
  · rw [if_neg h1]
    by_cases h2 : min (a + n) (512 * k + 512) - max a (512 * k) < 512
    · rw [if_pos h2]
      exact Or.inr (Or.inl ⟨rfl, by omega, h2⟩)
    · rw [if_neg h2]
      exact Or.inr (Or.inr ⟨rfl, by omega, h2⟩)

/-
  What the landed package block plans and puts, as plain functions of lists: from place to place; one sector laid. No Go text in sight.
-/
theorem pl_start (a n : Int) : ∀ k : Nat, 512 * (k : Int) ≤ a → dkL a n k = []
  | 0, _ => rfl
  | k + 1, h => by
    rw [dkL, pl_start a n k (by omega)]
    rcases dkK_cases a n k with ⟨e, _⟩ | ⟨e, _⟩ | ⟨e, _⟩
    · rw [e]; rfl
    · omega
    · omega
theorem pl_stop (a n : Int) : ∀ (f k : Nat), k + f = 64 → (a + n ≤ 512 * (k : Int) ∨ n ≤ 0) → dkL a n 64 = dkL a n k
  | 0, k, hf, _ => by rw [show k = 64 by omega]
  | f + 1, k, hf, h => by
    rw [pl_stop a n f (k + 1) (by omega) (by omega), dkL]
    rcases dkK_cases a n k with ⟨e, _⟩ | ⟨e, _⟩ | ⟨e, _⟩
    · rw [e, List.append_nil]
    · omega
    · omega
/-- one sector from its place on -/
theorem pl_step (a n : Int) (k : Nat) (h1 : max a (512 * (k : Int)) < a + n) (h2 : a < 512 * (k : Int) + 512) :
    (min (512 * (k : Int) + 512) (a + n) - max a (512 * (k : Int)) < 512 ∧ dkL a n (k + 1) = dkL a n k ++ [(false, (k : Int)), (true, (k : Int))]) ∨
    (¬ min (512 * (k : Int) + 512) (a + n) - max a (512 * (k : Int)) < 512 ∧ dkL a n (k + 1) = dkL a n k ++ [(true, (k : Int))]) := by
  have e : dkK a n k = (if min (512 * (k : Int) + 512) (a + n) - max a (512 * (k : Int)) < 512 then [(false, (k : Int))] else []) ++ [(true, (k : Int))] := by
    unfold dkK
    rw [if_neg (by omega), Int.min_comm (a + n)]
  by_cases h : min (512 * (k : Int) + 512) (a + n) - max a (512 * (k : Int)) < 512
  · left
    rw [if_pos h] at e
    exact ⟨h, by rw [dkL, e]; rfl⟩
  · right
    rw [if_neg h] at e
    exact ⟨h, by rw [dkL, e]; rfl⟩
/-- the sector's bytes once what falls into it has been laid: the bytes begin in it -/
theorem lay_on (S b : List Int) (a k : Nat) (hS : S.length = 512) (h1 : 512 * k ≤ a) (h2 : a < 512 * k + 512) :
    S.take (a - 512 * k) ++ b.take (512 - (a - 512 * k)) ++ S.drop (a - 512 * k + (b.take (512 - (a - 512 * k))).length) = ovs S a b k 512 := by
  have hl : (b.take (512 - (a - 512 * k))).length = min (512 - (a - 512 * k)) b.length := List.length_take
  have hp := fun i => put_at S (b.take (512 - (a - 512 * k))) (a - 512 * k) i (by rw [hl, hS]; omega)
  apply ext_getDD
  · rw [ovs_len]; simp only [List.length_append, List.length_take, List.length_drop, hS]; omega
  · intro i hi
    have hi2 : i < 512 := by simp only [List.length_append, List.length_take, List.length_drop, hS] at hi; omega
    rw [hp, ovs_at _ _ _ _ _ _ hi2, hl, getD_takeD]
    by_cases hc : a ≤ 512 * k + i ∧ 512 * k + i < a + b.length
    · rw [if_pos (by omega), if_pos (by omega), if_pos (by omega)]
      congr 1
      omega
    · rw [if_neg (by omega), if_neg (by omega)]
/-- .. or ahead of it -/
theorem lay_off (S b : List Int) (a k : Nat) (hS : S.length = 512) (h1 : a < 512 * k) :
    S.take 0 ++ (b.drop (512 * k - a)).take 512 ++ S.drop (0 + ((b.drop (512 * k - a)).take 512).length) = ovs S a b k 512 := by
  have hl : ((b.drop (512 * k - a)).take 512).length = min 512 (b.length - (512 * k - a)) := by rw [List.length_take, List.length_drop]
  have hp := fun i => put_at S ((b.drop (512 * k - a)).take 512) 0 i (by rw [hl, hS]; omega)
  apply ext_getDD
  · rw [ovs_len]; simp only [List.length_append, List.length_take, List.length_drop, hS]; omega
  · intro i hi
    have hi2 : i < 512 := by simp only [List.length_append, List.length_take, List.length_drop, hS] at hi; omega
    rw [hp, ovs_at _ _ _ _ _ _ hi2, hl, getD_takeD, getD_dropD]
    by_cases hc : a ≤ 512 * k + i ∧ 512 * k + i < a + b.length
    · rw [if_pos (by omega), if_pos (by omega), if_pos (by omega)]
      congr 1
      omega
    · rw [if_neg (by omega), if_neg (by omega)]
/-- a sector loaded -/
theorem load_all (S x : List Int) (hS : S.length = 512) (hx : 512 ≤ x.length) : S.take 0 ++ x.take 512 ++ S.drop (0 + (x.take 512).length) = x.take 512 := by
  have hl : (x.take 512).length = 512 := by rw [List.length_take]; omega
  rw [hl, List.take_zero, List.drop_eq_nil_of_le (by omega)]
  simp
theorem load_at (D : List Int) (k : Nat) : ∀ i < 512, ((D.drop (512 * k)).take 512).getD i 0 = D.getD (512 * k + i) 0 := fun i hi => by
  rw [getD_takeD, if_pos hi, getD_dropD]
/-- a sector's bytes are got and put as the disk's bytes -/
theorem rd_get (d : List Int) (n : Int) (hB : dkB d = true) (hn : dkN d n = true) : dkRd d n = dkGt d (n * 512) 512 := by
  obtain ⟨l1, l2⟩ := dk_len hB
  have hn2 := hn
  unfold dkN at hn2
  rw [decide_eq_true_eq] at hn2
  unfold dkRd dkGt dkI
  rw [if_pos hB, if_pos hB, if_pos hn, if_pos (by rw [decide_eq_true_eq]; omega)]
  rw [show n * 512 = 512 * n by omega]
  rfl
theorem wr_put (d b : List Int) (n : Int) (hB : dkB d = true) (hb : b.length = 512) (hn : dkN d n = true) : dkWr d n b = dkPt d (n * 512) b := by
  obtain ⟨l1, l2⟩ := dk_len hB
  have hn2 := hn
  unfold dkN at hn2
  rw [decide_eq_true_eq] at hn2
  unfold dkWr dkPt dkI
  rw [hB, decide_eq_true hb, if_pos hn, if_pos (show (true && true) = true from rfl), if_pos (show true = true from rfl), if_pos (by rw [decide_eq_true_eq]; omega)]
  rw [show n * 512 = 512 * n by omega, show (512 * n + 512).toNat = (512 * n).toNat + b.length by omega]
theorem pt_ovl (d b : List Int) (a : Nat) (hB : dkB d = true) (hI : dkI d.length a b.length = true) : dkPt d a b = (ovl d a b 64, 0) := by
  obtain ⟨l1, l2⟩ := dk_len hB
  have hI2 := hI
  unfold dkI at hI2
  rw [decide_eq_true_eq] at hI2
  unfold dkPt
  rw [if_pos hB, if_pos hI, ovl_all _ _ _ _ (by omega) (by omega)]
  rfl
theorem pl_ovl (d b : List Int) (a : Nat) (hB : dkB d = true) (hI : dkI d.length a b.length = true) : dkP a b.length = (dkL (a : Int) b.length 64, 0) := by
  obtain ⟨l1, l2⟩ := dk_len hB
  unfold dkI at hI
  rw [decide_eq_true_eq] at hI
  unfold dkP
  rw [if_neg (by omega)]

/-
  Blocks of a call's own as lists of integers: cut with three indexes, written cell by cell, copied into. No Go text in sight.
-/
/-- block g holds the integers xs and no other cell -/
def Blk (k : IntKind) (e : TypeId) (w : World) (g : Nat) (xs : List Int) : Prop := w.heap[g]? = some (.cells (xs.map (Value.int k)).toArray e (0, 0))
theorem Blk.rd {k : IntKind} {e : TypeId} {w : World} {g : Nat} {xs : List Int} (h : Blk k e w g xs) (hm : xs.length ≤ maxLen) : Rd k w (.slice (some ⟨g, 0, none⟩) xs.length xs.length) xs := by
  rcases Nat.eq_zero_or_pos xs.length with h0 | h0
  · obtain rfl := List.eq_nil_of_length_eq_zero h0
    exact Or.inl ⟨_, _, rfl, (fun h => by cases h), rfl⟩
  · refine Or.inr ⟨g, 0, xs.length, rfl, h0, Nat.le_refl _, hm, fun i hi => ?_⟩
    unfold Blk at h
    simp [World.cell?, h, List.getD_eq_getElem?_getD, List.getElem?_eq_getElem hi]
theorem Blk.below {k : IntKind} {e : TypeId} {w w' : World} {g : Nat} {xs : List Int} (h : Blk k e w g xs) (hb : Below w.heap.size w w') : Blk k e w' g xs := by
  unfold Blk at h ⊢
  rw [hb.block g (Array.getElem?_eq_some_iff.1 h).1, h]
/-- the stretch of n cells of block g from place a on -/
def Plc (v : Value) (g a n : Nat) : Prop := ∃ dp, v = .slice dp n n ∧ (0 < n → dp = some ⟨g, a, none⟩)
theorem plc_all (g n : Nat) : Plc (.slice (some ⟨g, 0, none⟩) n n) g 0 n := ⟨_, rfl, fun _ => rfl⟩
theorem plc_len {P : Program} {v : Value} {g a n : Nat} (h : Plc v g a n) {t e : TypeId} (ht : P.underlying t = some (.slice e)) (ty : TypeId) (w' : World) :
    (Builtin.len_ #[t] ty #[v]).run P w' = .ok (.int .i64 n) w' := by
  obtain ⟨dp, rfl, _⟩ := h
  simp [Builtin.len_, run_underlying ht, goInt]
/-- a cell of such a stretch: its address, and what the block holds once it is written -/
theorem plc_set {P : Program} {k : IntKind} {w : World} {e : TypeId} {v : Value} {g a n : Nat} {xs : List Int} (h : Plc v g a n) (hg : Blk k e w g xs) {t : TypeId} (ht : P.underlying t = some (.slice (P.elem t))) (hs : ∀ w, (sizeOf (P.elem t)).run P w = .ok 1 w)
    (hl : a + n ≤ xs.length) (i : Int) (h0 : 0 ≤ i) (h1 : i < n) :
    ∃ ad : Addr, (∀ w', (Instr.indexAt t v (.int .i64 i)).run P w' = .ok (.pointer (some ad)) w') ∧ w.cell? ad = some (.int k (xs.getD (a + i.toNat) 0)) ∧ w.frozen? ad = false ∧ g ≤ ad.block ∧
      ∀ y, Blk k e (w.setCell ad (.int k y)) g (xs.set (a + i.toNat) y) := by
  obtain ⟨dp, rfl, hd⟩ := h
  obtain rfl := hd (by omega)
  unfold Blk at hg
  have hi : a + i.toNat < xs.length := by omega
  refine ⟨⟨g, a + i.toNat, none⟩, fun w' => ?_, ?_, ?_, Nat.le_refl _, fun y => ?_⟩
  · rw [run_indexAt_slice (h := ht), if_pos ⟨h0, h1⟩, hs]
    simp only [Result.andThen, Nat.mul_one]
    congr 3
    unfold Addr.add
    split
    · rename_i hz; rw [hz]; rfl
    · rfl
  · simp [World.cell?, hg, List.getD_eq_getElem?_getD, List.getElem?_eq_getElem hi]
  · simp [World.frozen?, hg]
  · unfold Blk
    rw [Lib.heap_setCell_same (i := a + i.toNat) hg]
    simp [List.map_set]

/-- what v[a : a+n : a+n] is -/
def cut3 (v : Value) (a n : Nat) : Value := match v with
  | .slice ao _ _ => .slice (if a + n = a then ao else ao.map (·.add (a * 1))) n n
  | x => x
theorem plc_cut3 (g L a n : Nat) : Plc (cut3 (.slice (some ⟨g, 0, none⟩) L L) a n) g a n := by
  refine ⟨_, rfl, fun h => ?_⟩
  rw [if_neg (by omega)]
  simp [Addr.add]
  intro h; rw [h]
theorem rd_cut3 {P : Program} {k : IntKind} {w : World} {v : Value} {xs : List Int} (h : Rd k w v xs) {t : TypeId} (ht : P.underlying t = some (.slice (P.elem t))) (hs : ∀ w, (sizeOf (P.elem t)).run P w = .ok 1 w) (a n : Int) (a0 : 0 ≤ a) (n0 : 0 ≤ n) (hl : a + n ≤ xs.length) :
    Rd k w (cut3 v a.toNat n.toNat) ((xs.drop a.toNat).take n.toNat) ∧ ∀ (kl kh km : IntKind) w', (Instr.slice t v (some (.int kl a)) (some (.int kh (a + n))) (some (.int km (a + n)))).run P w' = .ok (cut3 v a.toNat n.toNat) w' := by
  obtain ⟨ao, cap, rfl, hc, hn, hx⟩ := rd_form h
  have hle : ((xs.drop a.toNat).take n.toNat).length = n.toNat := by simp; omega
  refine ⟨?_, fun kl kh km w' => ?_⟩
  · rcases Nat.eq_zero_or_pos n.toNat with hz | hz
    · refine Or.inl ⟨ao, 0, by simp [cut3, hz], fun _ => rfl, by rw [hz]; simp⟩
    · obtain ⟨hm, b, off, rfl, hcell⟩ := hx (by omega)
      refine Or.inr ⟨b, off + a.toNat, n.toNat, ?_, by omega, by omega, by omega, fun i hi2 => ?_⟩
      · rw [hle]
        simp only [cut3]
        rw [if_neg (by omega)]
        simp [Addr.add]
      · rw [hle] at hi2
        have := hcell (a.toNat + i) (by omega)
        rw [show off + a.toNat + i = off + (a.toNat + i) by omega, this]
        simp only [List.getD_eq_getElem?_getD, List.getElem?_take, List.getElem?_drop]
        rw [if_pos hi2]
  · rw [run_slice_lhm w' t ao xs.length cap ht kl kh km a (a + n) (a + n) a0 (by omega) (by omega) (by omega), hs]
    simp only [Result.andThen, sliced, cut3]
    rw [show (a + n).toNat = a.toNat + n.toNat by omega, show a.toNat + n.toNat - a.toNat = n.toNat by omega]

/-- a block made: noughts -/
theorem blk_made {k : IntKind} (w : World) (e : TypeId) (n : Nat) : Blk k e (w.alloc (.cells (madeCells #[.int k 0] n) e)) w.heap.size (List.replicate n 0) := by
  unfold Blk
  rw [heap_alloc_new]
  congr 2
  apply Array.ext
  · simp [madeCells]
  · intro i h1 h2
    simp [madeCells, Nat.mod_one]

/-- copy(dst, src): dst a stretch of a known block, src any slice of as many integers or fewer -/
theorem run_copy_rd {P : Program} {k : IntKind} {w : World} (dT sT : TypeId) (elem : TypeId) (hu : P.underlying dT = some (.slice elem)) (hsz : (P.info? elem).map (·.size) = some 1)
    {vd vs : Value} {g off n : Nat} (hp : Plc vd g off n) {xs cur : List Int} (hr : Rd k w vs xs) (hle : xs.length ≤ n) (hg : Blk k elem w g cur) (hfit : off + n ≤ cur.length)
    {B : Nat} {w0 : World} (hb : Below B w0 w) (hBg : B ≤ g) :
    ∃ w', (∀ ty, (Builtin.copy_ #[dT, sT] ty #[vd, vs]).run P w = .ok (.int .i64 xs.length) w') ∧ Blk k elem w' g (cur.take off ++ xs ++ cur.drop (off + xs.length)) ∧ Below B w0 w' := by
  obtain ⟨dp, rfl, hdp⟩ := hp
  obtain ⟨ao, cap, rfl, hc, hn, hx⟩ := rd_form hr
  have hlen : (xs.map (Value.int k)).length = xs.length := by simp
  rcases Nat.eq_zero_or_pos xs.length with h0 | h0
  · have hx0 : xs = [] := List.eq_nil_of_length_eq_zero h0
    subst hx0
    refine ⟨w, fun ty => ?_, by simpa using hg, hb⟩
    have := run_copy_none (P := P) w dT sT ty elem dp ao n n 0 cap hu hsz (Nat.zero_min n)
    simpa [goInt] using this
  · obtain ⟨hm, b, o2, rfl, hcell⟩ := hx h0
    obtain rfl := hdp (by omega)
    unfold Blk at hg
    have hrun := fun ty => run_copy_row (P := P) w dT sT ty elem g off n n ⟨b, o2, none⟩ xs.length cap (cur.map (Value.int k)).toArray elem (xs.map (Value.int k)) hu hsz hg (by rw [hlen]; exact (Nat.min_eq_left hle).symm) ?_ (by simp; omega) ?_
    · rw [hlen] at hrun
      refine ⟨_, hrun, ?_, below_setRow hb hBg _⟩
      · unfold Blk
        rw [setRow_heap w g _ _ elem _ hg]
        congr 2
        simp
    · intro j v hj
      rw [List.getElem?_map] at hj
      cases hq : xs[j]? with
      | none => rw [hq] at hj; cases hj
      | some y =>
        rw [hq] at hj
        simp at hj
        subst hj
        have hj2 : j < xs.length := by
          rcases Nat.lt_or_ge j xs.length with h | h
          · exact h
          · rw [List.getElem?_eq_none h] at hq; cases hq
        have := hcell j hj2
        rw [List.getD_eq_getElem?_getD, hq] at this
        simp at this
        by_cases hz : j = 0
        · subst hz; simpa [Addr.add] using this
        · simpa [Addr.add, hz] using this
    · intro v hv
      simp only [List.mem_map] at hv
      obtain ⟨y, _, rfl⟩ := hv
      rfl
/-- copy into no slice -/
theorem run_copy_nowhere {P : Program} (w : World) (dT sT ty elem : TypeId) (hu : P.underlying dT = some (.slice elem)) (hsz : (P.info? elem).map (·.size) = some 1) (S : ByteArray) :
    (Builtin.copy_ #[dT, sT] ty #[.slice none 0 0, .string S]).run P w = .ok (.int .i64 0) w := by
  cases hq : P.info? elem with
  | none => simp [hq] at hsz
  | some i => simp [Builtin.copy_, run_underlying hu, Builtin.lenOf, Builtin.firstCells, sizeOf, typeInfo, hq, storeCells, goInt]
theorem run_copy_nowhere_rd {P : Program} {k : IntKind} {v : Value} {xs : List Int} {w : World} (h : Rd k w v xs) (w' : World) (dT sT ty elem : TypeId) (hu : P.underlying dT = some (.slice elem)) (hsz : (P.info? elem).map (·.size) = some 1) :
    (Builtin.copy_ #[dT, sT] ty #[.slice none 0 0, v]).run P w' = .ok (.int .i64 0) w' := by
  obtain ⟨ao, cap, rfl, _⟩ := rd_form h
  exact run_copy_none (P := P) w' dT sT ty elem none ao 0 0 xs.length cap hu hsz (Nat.min_zero _)
/-- copy(dst, s): the same of a text -/
theorem run_copy_str {P : Program} {w : World} (dT sT : TypeId) (elem : TypeId) (hu : P.underlying dT = some (.slice elem)) (hsz : (P.info? elem).map (·.size) = some 1)
    {vd : Value} {g off n : Nat} (hp : Plc vd g off n) (S : ByteArray) {cur : List Int} (hle : S.size ≤ n) (hg : Blk .u8 elem w g cur) (hfit : off + n ≤ cur.length)
    {B : Nat} {w0 : World} (hb : Below B w0 w) (hBg : B ≤ g) :
    ∃ w', (∀ ty, (Builtin.copy_ #[dT, sT] ty #[vd, .string S]).run P w = .ok (.int .i64 S.size) w') ∧ Blk .u8 elem w' g (cur.take off ++ LB S ++ cur.drop (off + S.size)) ∧ Below B w0 w' := by
  obtain ⟨dp, rfl, hdp⟩ := hp
  rcases Nat.eq_zero_or_pos S.size with h0 | h0
  · have hl : LB S = [] := List.eq_nil_of_length_eq_zero (by rw [LB_len]; exact h0)
    refine ⟨w, fun ty => ?_, by rw [hl, h0]; simpa using hg, hb⟩
    have hrun := Lib.run_copy_empty_string (P := P) w dT sT ty elem dp n n S hu (by rw [hsz]; rfl) h0
    rw [hrun, h0]
    rfl
  · obtain rfl := hdp (by omega)
    unfold Blk at hg
    refine ⟨_, fun ty => Lib.run_copy_row_string (P := P) w dT sT ty elem g off n n S _ elem hu hsz hg hle (by simp; omega), ?_, below_setRow hb hBg _⟩
    unfold Blk
    rw [setRow_heap w g _ _ elem _ hg]
    congr 2
    simp [Lib.byteCells, LB]

/-
  The landed package block: lies, has, Formed, Clone, Get, Read.
-/
set_option maxHeartbeats 1000000 in
theorem w_plies20 (a n L : Int) (w : World) (a0 : -9223372036854775808 ≤ a) (a1 : a < 9223372036854775808) (n0 : -9223372036854775808 ≤ n) (n1 : n < 9223372036854775808) (l0 : 0 ≤ L) (l1 : L ≤ 140737488351232) :
    Calls Try.prog 23 #[.int .i64 a, .int .i64 n, .int .i64 L] w fun e w' => e = .returned (.bool (dkI L a n)) ∧ w' = w := by
  unfold dkI
  by_cases h1 : 0 ≤ a
  · by_cases h2 : 0 ≤ n
    · have e : decide (0 ≤ a ∧ a ≤ L ∧ 0 ≤ n ∧ n ≤ L - a) = decide (n ≤ L - a) := by congr 1; apply propext; omega
      rw [e]
      clear e
      go_enter Try.func23, Try.ntmps23
      go_wp2_with fail
      go_ret
      exact ⟨rfl, rfl⟩
    · rw [decide_eq_false (by omega)]
      go_enter Try.func23, Try.ntmps23
      go_wp2_with fail
      go_ret
      exact ⟨rfl, rfl⟩
  · rw [decide_eq_false (by omega)]
    go_enter Try.func23, Try.ntmps23
    go_wp2_with fail
    go_ret
    exact ⟨rfl, rfl⟩

set_option maxHeartbeats 1000000 in
theorem w_phas20 (v : Value) (d : List Int) (n : Int) (w : World) (h : Rd .u8 w v d) (hz : d.length ≤ 140737488351232) (n0 : -9223372036854775808 ≤ n) (n1 : n < 9223372036854775808) :
    Calls Try.prog 18 #[v, .int .i64 n] w fun e w' => e = .returned (.bool (dkN d n)) ∧ w' = w := by
  have hlen := rd_len h uB (P := Try.prog)
  have t1 : (d.length : Int).tdiv 512 = (d.length : Int) / 512 := Int.tdiv_eq_ediv_of_nonneg (by omega)
  have cL := w_plies20 n 1 ((d.length : Int) / 512) w n0 n1 (by decide) (by decide) (by omega) (by omega)
  rw [show dkI ((d.length : Int) / 512) n 1 = dkN d n by unfold dkI dkN; congr 1; apply propext; omega] at cL
  go_enter Try.func18, Try.ntmps18
  go_wp2_with (go_at_call 23; refine cL.mono ?_; rintro e q ⟨rfl, hw⟩; obtain rfl := hw.symm)
  go_ret
  exact ⟨rfl, rfl⟩

set_option maxHeartbeats 1000000 in
theorem w_pform20 (v : Value) (d : List Int) (w : World) (h : Rd .u8 w v d) (hz : d.length ≤ 140737488351232) :
    Calls Try.prog 12 #[v] w fun e w' => e = .returned (.bool (dkB d)) ∧ w' = w := by
  have hlen := rd_len h uB (P := Try.prog)
  have t1 : (d.length : Int).tmod 512 = (d.length : Int) % 512 := Int.tmod_eq_emod_of_nonneg (by omega)
  by_cases h1 : (d.length : Int) ≤ 32768
  · have e : dkB d = ((d.length : Int) % 512 == 0) := by
      unfold dkB
      rw [decide_eq_true (show d.length ≤ 32768 by omega), Bool.and_true]
      by_cases h2 : d.length % 512 = 0
      · rw [decide_eq_true h2]; symm; rw [beq_iff_eq]; omega
      · rw [decide_eq_false h2]; symm; rw [beq_eq_false_iff_ne]; omega
    rw [e]
    clear e
    go_enter Try.func12, Try.ntmps12
    go_wp2_with fail
    go_ret
    exact ⟨rfl, rfl⟩
  · have e : dkB d = false := by unfold dkB; rw [decide_eq_false (show ¬ d.length ≤ 32768 by omega), Bool.and_false]
    rw [e]
    clear e
    go_enter Try.func12, Try.ntmps12
    go_wp2_with fail
    go_ret
    exact ⟨rfl, rfl⟩

set_option maxHeartbeats 1000000 in
set_option maxRecDepth 100000 in
theorem w_pclo20 (v : Value) (xs : List Int) (w : World) (h : Rd .u8 w v xs) (hz : xs.length ≤ 140737488355328) :
    Calls Try.prog 25 #[v] w fun e w' => ∃ v', e = .returned v' ∧ Own8 w.heap.size w' v' xs ∧ Below w.heap.size w w' := by
  obtain ⟨i0, hi, hz0, hz1, hz2⟩ := info_parts infoU8
  obtain ⟨ao, cap, rfl, hc, hn, hx⟩ := rd_form h
  cases ao with
  | none =>
    have hc0 := hn rfl
    have hl : xs = [] := List.eq_nil_of_length_eq_zero (by omega)
    subst hl
    subst hc0
    show Calls _ _ #[.slice none 0 0] _ _
    have q := Lib.run_eql_slice_nil (P := Try.prog) w 23 5 none 0 0 0 0 Try.underlying23
    go_enter Try.func25, Try.ntmps25
    go_wp2_with fail
    go_ret
    exact ⟨_, rfl, ⟨by simp, Or.inl ⟨rfl, rfl⟩⟩, Below.refl _ _⟩
  | some a =>
    have q := Lib.run_eql_slice_nil (P := Try.prog) w 23 5 (some a) xs.length cap 0 0 Try.underlying23
    have ha := h.below (box_below w (.cells #[] 5))
    go_enter Try.func25, Try.ntmps25
    go_wp2_with (at_builtin; refine wpList_append_rd (k := .u8) rfl _ _ 23 rfl w.heap.size 5 i0 1 Try.underlying23 hi hz0 hz1 hz2 _ [] rfl (World.ownsRow_made w #[] 0 (Nat.le_refl _) (Nat.zero_le _) rfl) _ xs rfl ha (by unfold maxLen; simp; omega) (by simp; omega) (by simp) ?_; intro v5 w5 ho5 hg5)
    go_ret
    refine ⟨v5, rfl, by simpa [Own8] using ho5, below_grown (box_below w _) hg5 (fun k hk => by simp [Value.ownBlock, Act.eval] at hk; omega)⟩

set_option maxHeartbeats 1000000 in
theorem w_pget20 (v : Value) (d : List Int) (a n : Int) (w : World) (h : Rd .u8 w v d) (hz : d.length ≤ 140737488351232) (a0 : -9223372036854775808 ≤ a) (a1 : a < 9223372036854775808) (n0 : -9223372036854775808 ≤ n) (n1 : n < 9223372036854775808) :
    Calls Try.prog 17 #[v, .int .i64 a, .int .i64 n] w fun e w' => ∃ v', e = .returned (.tuple #[v', .int .i64 (dkGt d a n).2]) ∧ Own8 w.heap.size w' v' (dkGt d a n).1 ∧ Below w.heap.size w w' := by
  have cF := w_pform20 v d w h hz
  have cI := w_plies20 a n d.length w a0 a1 n0 n1 (by omega) (by omega)
  have hlen := rd_len h uB (P := Try.prog)
  unfold dkGt
  cases hB : dkB d
  · rw [hB] at cF
    simp only [Bool.false_eq_true, if_false]
    clear cI hlen
    go_enter Try.func17, Try.ntmps17
    go_wp2_with (go_at_call 12; refine cF.mono ?_; rintro e q ⟨rfl, hw⟩; obtain rfl := hw.symm)
    go_ret2
    exact ⟨_, rfl, own8_nil _ _, Below.refl _ _⟩
  · rw [hB] at cF
    obtain ⟨l1, l2⟩ := dk_len hB
    simp only [if_true]
    cases hI : dkI d.length a n
    · rw [hI] at cI
      simp only [Bool.false_eq_true, if_false]
      clear hB l1 hI
      go_enter Try.func17, Try.ntmps17
      go_wp2_with (first
        | (go_at_call 12; refine cF.mono ?_; rintro e q ⟨rfl, hw⟩; obtain rfl := hw.symm)
        | (go_at_call 23; refine cI.mono ?_; rintro e q ⟨rfl, hw⟩; obtain rfl := hw.symm))
      go_ret2
      exact ⟨_, rfl, own8_nil _ _, Below.refl _ _⟩
    · rw [hI] at cI
      unfold dkI at hI
      rw [decide_eq_true_eq] at hI
      obtain ⟨i1, i2, i3, i4⟩ := hI
      simp only [if_true]
      obtain ⟨vb, rb, sb, -, -⟩ := rd_cutI h uB zB a (a + n) (by omega) (by omega) (by omega)
      rw [show (a + n - a).toNat = n.toNat by omega] at rb
      have cC := w_pclo20 vb _ w rb (by simp; omega)
      obtain ⟨B, hBe⟩ : ∃ B, (d.drop a.toNat).take n.toNat = B := ⟨_, rfl⟩
      rw [hBe] at cC rb ⊢
      clear hBe hB l1
      go_enter Try.func17, Try.ntmps17
      go_wp2_with (first
        | (go_at_call 12; refine cF.mono ?_; rintro e q ⟨rfl, hw⟩; obtain rfl := hw.symm)
        | (go_at_call 23; refine cI.mono ?_; rintro e q ⟨rfl, hw⟩; obtain rfl := hw.symm)
        | (go_at_call 25; refine cC.mono ?_; rintro e q2 ⟨v2, rfl, o2, b2⟩))
      go_ret2
      exact ⟨_, rfl, o2, b2⟩

set_option maxHeartbeats 1000000 in
theorem w_pread20 (v : Value) (d : List Int) (n : Int) (w : World) (h : Rd .u8 w v d) (hz : d.length ≤ 140737488351232) (n0 : -9223372036854775808 ≤ n) (n1 : n < 9223372036854775808) :
    Calls Try.prog 8 #[v, .int .i64 n] w fun e w' => ∃ v', e = .returned (.tuple #[v', .int .i64 (dkRd d n).2]) ∧ Own8 w.heap.size w' v' (dkRd d n).1 ∧ Below w.heap.size w w' := by
  have cF := w_pform20 v d w h hz
  have cH := w_phas20 v d n w h hz n0 n1
  cases hB : dkB d
  · rw [hB] at cF
    unfold dkRd
    rw [hB]
    simp only [Bool.false_eq_true, if_false]
    clear cH
    go_enter Try.func8, Try.ntmps8
    go_wp2_with (go_at_call 12; refine cF.mono ?_; rintro e q ⟨rfl, hw⟩; obtain rfl := hw.symm)
    go_ret2
    exact ⟨_, rfl, own8_nil _ _, Below.refl _ _⟩
  · rw [hB] at cF
    obtain ⟨l1, l2⟩ := dk_len hB
    cases hN : dkN d n
    · rw [hN] at cH
      unfold dkRd
      rw [hB, hN]
      simp only [if_true, Bool.false_eq_true, if_false]
      clear hB l1 hN
      go_enter Try.func8, Try.ntmps8
      go_wp2_with (first
        | (go_at_call 12; refine cF.mono ?_; rintro e q ⟨rfl, hw⟩; obtain rfl := hw.symm)
        | (go_at_call 18; refine cH.mono ?_; rintro e q ⟨rfl, hw⟩; obtain rfl := hw.symm))
      go_ret2
      exact ⟨_, rfl, own8_nil _ _, Below.refl _ _⟩
    · rw [hN] at cH
      have hn := hN
      unfold dkN at hn
      rw [decide_eq_true_eq] at hn
      obtain ⟨m0, m1⟩ := hn
      rw [rd_get d n hB hN]
      have cG := w_pget20 v d (n * 512) 512 w h hz (by omega) (by omega) (by decide) (by decide)
      obtain ⟨R, hR⟩ : ∃ R, dkGt d (n * 512) 512 = R := ⟨_, rfl⟩
      rw [hR] at cG ⊢
      clear hR hB l1 hN
      go_enter Try.func8, Try.ntmps8
      go_wp2_with (first
        | (go_at_call 12; refine cF.mono ?_; rintro e q ⟨rfl, hw⟩; obtain rfl := hw.symm)
        | (go_at_call 18; refine cH.mono ?_; rintro e q ⟨rfl, hw⟩; obtain rfl := hw.symm)
        | (go_at_call 17; refine cG.mono ?_; rintro e q2 ⟨v2, rfl, o2, b2⟩))
      go_ret2
      exact ⟨_, rfl, o2, b2⟩

/-
  The landed package block: Plan.
-/
set_option maxHeartbeats 4000000 in
set_option maxRecDepth 100000 in
theorem w_pplan20o (a n : Int) (w : World) (a0 : -9223372036854775808 ≤ a) (a1 : a < 9223372036854775808) (n0 : -9223372036854775808 ≤ n) (n1 : n < 9223372036854775808) :
    Calls Try.prog 24 #[.int .i64 a, .int .i64 n] w fun e w' => ∃ v', e = .returned (.tuple #[v', .int .i64 (dkP a n).2]) ∧ OwA w.heap.size w' v' (dkP a n).1 ∧ Below w.heap.size w w' := by
  have cI := w_plies20 a n 32768 w a0 a1 n0 n1 (by decide) (by decide)
  cases hI : dkI 32768 a n
  · rw [hI] at cI
    have h1 : a < 0 ∨ n < 0 ∨ 32768 < a ∨ 32768 - a < n := by
      unfold dkI at hI
      rw [decide_eq_false_iff_not] at hI
      omega
    rw [show dkP a n = ([], 1) by unfold dkP; rw [if_pos h1]]
    clear h1 hI
    go_enter Try.func24, Try.ntmps24
    go_wp2_with (go_at_call 23; refine cI.mono ?_; rintro e q ⟨rfl, hw⟩; obtain rfl := hw.symm)
    go_ret2
    exact ⟨_, rfl, owa_nil _ _, Below.refl _ _⟩
  · rw [hI] at cI
    unfold dkI at hI
    rw [decide_eq_true_eq] at hI
    obtain ⟨i1, i2, i3, i4⟩ := hI
    rw [show dkP a n = (dkL a n 64, 0) by unfold dkP; rw [if_neg (by omega)]]
    obtain ⟨i4', hi4, hz4, hs4, hb4⟩ := info_ac
    have bp := fun (W : World) (A : Bool) (V : Int) => box_below W (.cells #[.bool A, .int .i64 V] 70)
    have s0 := pl_start a n (a / 512).toNat (by omega)
    go_enter Try.func24, Try.ntmps24
    go_wp2_with (go_at_call 23; refine cI.mono ?_; rintro e q ⟨rfl, hw⟩; obtain rfl := hw.symm)
    go_loopw [0, 6] (fun AT O wx => ∃ k : Nat, k ≤ 64 ∧ AT = .int .i64 (min (max a (512 * (k : Int))) (a + n)) ∧ a < 512 * (k : Int) + 512 ∧ OwA w.heap.size wx O (dkL a n k) ∧ Below w.heap.size w wx) (fun AT _ _ => (32768 - intOf AT).toNat)
    case atStart => exact ⟨(a / 512).toNat, by omega, by congr 1; omega, by omega, by rw [s0]; exact owa_nil _ _, Below.refl _ _⟩
    case round =>
      obtain ⟨k, hk, rfl, hak, ho, hg⟩ := hrel
      by_cases hlt : max a (512 * (k : Int)) < a + n
      · have hst := pl_step a n k hlt hak
        have hbd := dkL_bd a n k
        obtain ⟨AT, hAT⟩ : ∃ AT, min (max a (512 * (k : Int))) (a + n) = AT := ⟨_, rfl⟩
        rw [hAT]
        obtain ⟨A1, A2, A3⟩ : AT < a + n ∧ 512 * (k : Int) ≤ AT ∧ AT < 512 * (k : Int) + 512 := by omega
        have A4 : max a (512 * (k : Int)) = AT := by omega
        rw [A4] at hst
        obtain ⟨NX, hNX⟩ : ∃ NX, min (512 * (k : Int) + 512) (a + n) = NX := ⟨_, rfl⟩
        rw [hNX] at hst
        have e8 : AT.tdiv 512 = (k : Int) := by rw [Int.tdiv_eq_ediv_of_nonneg (by omega)]; omega
        have e9 : min (((k : Int) + 1) * 512) (a + n) = NX := by rw [← hNX]; congr 1; omega
        have N1 : NX ≤ a + n := by omega
        have N2 : AT < NX := by omega
        have hn2 : Hid (NX = min (max a (512 * ((k + 1 : Nat) : Int))) (a + n) ∧ a < 512 * ((k + 1 : Nat) : Int) + 512 ∧ k + 1 ≤ 64) := hid ⟨by omega, by omega, by omega⟩
        clear hAT A4 hNX
        obtain ⟨R, hR⟩ : ∃ R, dkL a n k = R := ⟨_, rfl⟩
        rw [hR] at ho hbd hst
        clear hR
        rcases hst with ⟨hm, e⟩ | ⟨hm, e⟩
        · have hnx := hid e
          clear e
          have bk := bp wr false k
          have oo := own_belowA ho bk
          go_wp2_with (first
            | (at_builtin; refine wpList_append_row rfl _ _ 63 rfl w.heap.size 70 i4' _ 2 16 Try.underlying63 hi4 hz4 hs4 hb4 rfl (by decide) _ (R ++ [(false, (k : Int))]).length _ rfl oo8 w7.heap.size (acC (true, (k : Int))) rfl rfl (alloc_row w7 (acC (true, (k : Int))) 70) (ac_one _) (by unfold maxLen; first | omega | (rw [List.length_append]; simp; omega)) (by first | omega | (rw [List.length_append]; simp; omega)) (by rw [size_al]; have := h7.size; omega) ?_; intro v9 w9 o9 g9; have h9 := below_grown (below_trans h7 bk8) g9 (fun k hk => (oo8.lt k hk).1))
            | (at_builtin; refine wpList_append_row rfl _ _ 63 rfl w.heap.size 70 i4' _ 2 16 Try.underlying63 hi4 hz4 hs4 hb4 rfl (by decide) _ (R).length _ rfl oo wr.heap.size (acC (false, (k : Int))) rfl rfl (alloc_row wr (acC (false, (k : Int))) 70) (ac_one _) (by unfold maxLen; first | omega | (rw [List.length_append]; simp; omega)) (by first | omega | (rw [List.length_append]; simp; omega)) (by rw [size_al]; have := hg.size; omega) ?_; intro v7 w7 o7 g7; have h7 := below_grown (below_trans hg bk) g7 (fun k hk => (oo.lt k hk).1); have bk8 := bp w7 true k; have o8 : OwA w.heap.size w7 v7 (R ++ [(false, (k : Int))]) := (by simpa [OwA] using o7); have oo8 := own_belowA o8 bk8))
          go_roundw
          case rel => exact ⟨k + 1, hn2.out.2.2, by rw [← hn2.out.1, ← e9]; all_goals (congr 1; all_goals (split <;> omega)), hn2.out.2.1, by rw [hnx.out, show R ++ [(false, (k : Int)), (true, (k : Int))] = (R ++ [(false, (k : Int))]) ++ [(true, (k : Int))] by simp]; simpa [OwA] using o9, h9⟩
          case measure => simp [intOf]; omega
        · have hnx := hid e
          clear e
          have bk := bp wr true k
          have oo := own_belowA ho bk
          go_wp2_with (at_builtin; refine wpList_append_row rfl _ _ 63 rfl w.heap.size 70 i4' _ 2 16 Try.underlying63 hi4 hz4 hs4 hb4 rfl (by decide) _ (R).length _ rfl oo wr.heap.size (acC (true, (k : Int))) rfl rfl (alloc_row wr (acC (true, (k : Int))) 70) (ac_one _) (by unfold maxLen; first | omega | (rw [List.length_append]; simp; omega)) (by first | omega | (rw [List.length_append]; simp; omega)) (by rw [size_al]; have := hg.size; omega) ?_; intro v7 w7 o7 g7; have h7 := below_grown (below_trans hg bk) g7 (fun k hk => (oo.lt k hk).1))
          go_roundw
          case rel => exact ⟨k + 1, hn2.out.2.2, by rw [← hn2.out.1, ← e9]; all_goals (congr 1; all_goals (split <;> omega)), hn2.out.2.1, by rw [hnx.out]; simpa [OwA] using o7, h7⟩
          case measure => simp [intOf]; omega
      · have hst := pl_stop a n (64 - k) k (by omega) (by omega)
        have hge : min (max a (512 * (k : Int))) (a + n) = a + n := by omega
        rw [hge]
        clear hge hlt
        go_wp2_with fail
        go_ret2
        exact ⟨_, rfl, by rw [hst]; exact ho, hg⟩

/-
  copy into a block of integers of the call's own, any integers, any length of what is copied; which blocks stand. No Go text in sight.
-/
theorem copy_ar {P : Program} {k : IntKind} {w : World} {sl el : TypeId} (hu : P.underlying sl = some (.slice el)) (hsz : (P.info? el).map (·.size) = some 1) {dp : Option Addr} {g off n : Nat} (hdp : 0 < n → dp = some ⟨g, off, none⟩) {cur : List Int} {T : TypeId} (hg : Stands w g (ArA k cur) T) {vs : Value} {xs : List Int} (hr : Rd k w vs xs) (hfit : off + n ≤ cur.length) :
    ∃ w', (∀ ty, (Builtin.copy_ #[sl, sl] ty #[.slice dp n n, vs]).run P w = .ok (.int .i64 ((xs.length.min n : Nat) : Int)) w') ∧
      Stands w' g (ArA k (cur.take off ++ xs.take n ++ cur.drop (off + (xs.take n).length))) T ∧ (∀ (B : Nat) (w0 : World), Below B w0 w → B ≤ g → Below B w0 w') ∧ w'.heap.size = w.heap.size ∧ ∀ b, ¬ b = g → w'.heap[b]? = w.heap[b]? := by
  obtain ⟨ao, cap, rfl, hc, hnn, hx⟩ := rd_form hr
  rcases Nat.eq_zero_or_pos (xs.length.min n) with h0 | h0
  · have hx0 : xs.take n = [] := by
      rw [List.take_eq_nil_iff]
      rcases Nat.eq_zero_or_pos n with hn | hn
      · exact Or.inl hn
      · refine Or.inr (List.eq_nil_of_length_eq_zero ?_)
        have : min xs.length n = 0 := h0
        omega
    refine ⟨w, fun ty => ?_, by rw [hx0]; simpa using hg, fun _ _ h _ => h, rfl, fun _ _ => rfl⟩
    have := run_copy_none (P := P) w sl sl ty _ dp ao n n xs.length cap hu hsz h0
    rw [h0]
    simpa [goInt] using this
  · have hmin : 0 < min xs.length n := h0
    obtain ⟨hm, b, o2, rfl, hcell⟩ := hx (by omega)
    obtain rfl := hdp (by omega)
    unfold Stands at hg
    have hlen : ((xs.take n).map (Value.int k)).length = xs.length.min n := by rw [List.length_map, List.length_take]; exact Nat.min_comm _ _
    have hrun := fun ty => run_copy_row (P := P) w sl sl ty _ g off n n ⟨b, o2, none⟩ xs.length cap (ArA k cur) T ((xs.take n).map (Value.int k)) hu hsz hg hlen ?_ (by rw [ara_size, hlen]; have := Nat.min_le_right xs.length n; show off + min xs.length n ≤ _; omega) ?_
    · rw [hlen] at hrun
      refine ⟨_, hrun, ?_, fun B w0 hb hB => below_setRow hb hB _, by simp [World.setRow], fun q hq => ?_⟩
      · unfold Stands
        rw [setRow_heap w g _ _ T _ hg]
        congr 2
        rw [List.length_take, Nat.min_comm n]
        simp [ArA]
      · simp only [World.setRow]
        rw [Array.getElem?_modify, if_neg (fun h => hq h.symm)]
    · intro j v hj
      rw [List.getElem?_map, List.getElem?_take] at hj
      split at hj
      · rename_i hjn
        cases hq : xs[j]? with
        | none => rw [hq] at hj; cases hj
        | some y =>
          rw [hq] at hj
          simp at hj
          subst hj
          have hj2 : j < xs.length := by
            rcases Nat.lt_or_ge j xs.length with h | h
            · exact h
            · rw [List.getElem?_eq_none h] at hq; cases hq
          have := hcell j hj2
          rw [List.getD_eq_getElem?_getD, hq] at this
          simp at this
          by_cases hz : j = 0
          · subst hz; simpa [Addr.add] using this
          · simpa [Addr.add, hz] using this
      · cases hj
    · intro v hv
      simp only [List.mem_map] at hv
      obtain ⟨y, _, rfl⟩ := hv
      rfl

end Go.Proofs.Ytnaoefjcfmdenab
