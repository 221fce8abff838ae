/-
  Texts of one proof, laid one behind the other: Va8 Vap Tro Val Vlw.
-/
import Derived.Test.YtaiimfdcbdfbdabDoorB13
import Derived.Test.YtaiimfdcbdfbdabDoorRows
import Derived.SizedLaws
import Derived.ChangeSame
import Derived.Deep.OwnRows
namespace Go.Proofs.YtaiimfdcbdfbdabDoor
open Go.ChangeShapes Go.WideShapes Go.ChangeAt Go.RowKit
set_option linter.unusedVariables false
set_option linter.unusedSimpArgs false

/-
  Decode of the landed package vars.
-/
set_option maxRecDepth 100000

set_option maxHeartbeats 4000000 in
set_option maxRecDepth 100000 in
theorem w_pdecode19 (v : Value) (b : List Int) (w : World) (hT : Tab w) (h : Rd .u8 w v b) (hb : bytesL b) (hz : b.length ≤ 1048576) :
    Calls Tryd.prog 25 #[v] w fun e w' => ∃ v', e = .returned (.tuple #[v', .int .i64 (vaDe b).2]) ∧ SlR 2 stR w' v' (vaDe b).1 ∧ Below w.heap.size w w' := by
  obtain ⟨i4, hi4, hz4, hs4, hb4⟩ := info_st
  go_enter Tryd.func25, Tryd.ntmps25
  go_wp2_with fail
  go_loopw [0, 4, 5] (fun B O La wx => ∃ (r : List Int) (out : List Stt) (last : Int), La = .int .i64 last ∧ Rd .u8 w B r ∧ bytesL r ∧ r.length + out.length ≤ b.length ∧ OwT w.heap.size wx O out ∧ Hid (last = vaE (-1) out ∧ vaG (-1) out = true ∧ vaX b [] none [] = vaX r [] none out) ∧ Below w.heap.size w wx) (fun B _ _ _ => lenOf B)
  case atStart => exact ⟨b, [], -1, rfl, h, hb, by simp, owt_nil _ _, hid ⟨rfl, rfl, rfl⟩, Below.refl _ _⟩
  case round =>
    obtain ⟨r, out, last, rfl, hr, hbr, hle, ho, hm, hg⟩ := hrel
    have hrl := rd_len hr uB (P := Tryd.prog)
    have hlen0 := hle
    by_cases hlt : (0 : Int) < r.length
    · have hrz : r.length ≤ 1048576 := by omega
      have hne : Hid (¬ r = []) := by intro z; rw [z] at hlt; simp at hlt
      have cC := w_pcut19 _ r w wr hr hg hbr hrz
      obtain ⟨m1, m2, m3⟩ := hm.out
      have hbd := vaE_bd m2
      rw [← m1] at hbd
      obtain ⟨hd1, hd2⟩ := hbd
      have M1 := hid m1
      have M2 := hid m2
      have M3 := hid m3
      clear m1 m2 m3 hm hlen0
      obtain ⟨qa, qq, rfl⟩ := rd_slice hr
      go_upto_region 5 with (first | (go_at_call 44; refine cC.mono ?_; rintro e w1 ⟨N, V, v2, f, rfl, hc, b1⟩; have b01 := below_trans hg b1) | fail)
      have bx := box_below w1 (.cells #[.string N, .string V] 39)
      have s0 := stands_new w1 #[.string N, .string V] 39
      have ho1 := own_belowT ho (below_trans b1 bx)
      obtain ⟨n1, n2, hc⟩ := hc
      have hN : N.size ≤ maxLen := by unfold maxLen; omega
      have hV : V.size ≤ maxLen := by unfold maxLen; omega
      have cW := w_pfollow19 last N V _ (hT.below (below_trans b01 bx)) hd1 hd2 hV
      have hbd := va_lt N
      rcases hc with ⟨rfl, c1⟩ | ⟨rfl, r2, c1, c2, c3, c4⟩
      · have hR : Hid (vaDe b = ([], 15)) := vaDe_none (M3.out.trans (c1 hne.out out))
        clear c1
        go_wp2_with (go_at_call 45; refine cW.mono ?_; rintro e w2 ⟨rfl, b2⟩)
        go_ret2
        exact ⟨.slice none 0 0, by rw [hR.out]; rfl, by rw [hR.out]; exact (owt_nil 0 w2).read (fun p hp => by simp at hp), below_trans b01 (below_trans bx b2)⟩
      · obtain ⟨ra, rq, rfl⟩ := rd_slice c2
        cases hf : fwF last N V
        · rw [hf] at cW
          have hR : Hid (vaDe b = ([], 15)) := vaDe_bad (M3.out.trans (c1 out)) (by rw [← M1.out]; exact hf)
          clear c1 hf
          go_wp2_with (go_at_call 45; refine cW.mono ?_; rintro e w2 ⟨rfl, b2⟩)
          go_ret2
          exact ⟨.slice none 0 0, by rw [hR.out]; rfl, by rw [hR.out]; exact (owt_nil 0 w2).read (fun p hp => by simp at hp), below_trans b01 (below_trans bx b2)⟩
        · rw [hf] at cW
          simp only [cond_true] at cW
          have hst := va_step M2.out (by rw [← M1.out]; exact hf)
          have hm2 : Hid (vaF N = vaE (-1) (out ++ [(N, V)]) ∧ vaG (-1) (out ++ [(N, V)]) = true ∧ vaX b [] none [] = vaX r2 [] none (out ++ [(N, V)])) := ⟨hst.2.symm, hst.1, M3.out.trans (c1 out)⟩
          clear c1 hf hst M1 M2 M3
          generalize vaF N = K at *
          have ao : ∀ W : World, Below W.heap.size W (W.alloc (.cells #[.string N, .string V] 39)) := fun W => box_below W _
          go_wp2_with (first
            | (go_at_call 45; refine cW.mono ?_; rintro e w2 ⟨rfl, b2⟩; have s2 := s0.below b2; have y0 := s2.cell 0 _ rfl; have y1 := s2.cell 1 _ rfl; have ho2 := own_belowT ho1 b2; have hg2 := below_trans b01 (below_trans bx b2))
            | (at_builtin; refine wpList_append_row rfl _ _ 23 rfl w.heap.size 39 i4 _ 2 32 Tryd.underlying23 hi4 hz4 hs4 hb4 rfl (by decide) _ out.length _ rfl (own_belowT ho2 (ao w2)) w2.heap.size (stC (N, V)) rfl rfl (alloc_row w2 (stC (N, V)) 39) (st_one _) (by unfold maxLen; omega) (by omega) (by rw [size_al]; have := hg2.size; omega) ?_; intro v8 w8 o8 g8; have h8 := below_grown (below_trans hg2 (ao w2)) g8 (fun k hk => ((own_belowT ho2 (ao w2)).lt k hk).1)))
          go_roundw
          case rel => exact ⟨r2, out ++ [(N, V)], K, rfl, c2, c4, by simp; omega, by simpa [OwT] using o8, hm2, h8⟩
          case measure => simp only [lenOf]; omega
    · have hr0 : r = [] := List.eq_nil_of_length_eq_zero (by omega)
      obtain ⟨m1, m2, m3⟩ := hm.out
      have hR : Hid (vaDe b = (out, 0)) := by
        have h1 : vaX b [] none [] = some out := by rw [m3, hr0]; simp [vaX]
        show _ = _
        rw [vaDe_some h1, m2]
        rfl
      have HG := hid m2
      clear m1 m2 m3 hm hr0
      obtain ⟨qa, qq, rfl⟩ := rd_slice hr
      go_wp2_with fail
      go_ret2
      exact ⟨_, by rw [hR.out]; rfl, by rw [hR.out]; exact ho.read (va_gS (by decide) HG.out), hg⟩

/-
  The landed package vars, as the laws take it.
-/
set_option maxRecDepth 100000

/-
  What came in, read with its weight: slices of rows, slices of integers, structs of one-cell fields.
-/
set_option maxRecDepth 100000

theorem wf8 {n : Int} (h : (Lit.int .u32 n).wf = true) : 0 ≤ n ∧ n < 4294967296 := by
  simp [Lit.wf, IntKind.min, IntKind.max, IntKind.bits, IntKind.signed] at h
  omega
theorem all_weights {H : Type} {P : Program} {e : TypeId} {d : DataW H} {n : Nat} : ∀ {ds : List (DataW H)}, d ∈ ds → n ∈ d.weights P e → n ∈ DataW.weightsAll P e ds
  | x :: r, h, hn => by
    simp only [DataW.weightsAll, List.mem_append]
    rcases List.mem_cons.1 h with rfl | h
    · exact Or.inl hn
    · exact Or.inr (all_weights h hn)
/-- a slice's rows, each read as R says, each of which Q is true -/
theorem slr_trod {α H : Type} {enc : TypeId × Value → H} {W : World} {t e : TypeId} {cs : List Value} {y : DataW H × List MemPlace} {sz fuel : Nat} (R : World → List Value → α → Prop) (Q : α → Prop)
    (ht : Tryd.prog.underlying t = some (.slice e)) (hc : Tryd.prog.cellsOf e = sz) (hsz : 0 < sz) (h : DataW.trod enc Tryd.prog W 0 (fun _ => true) true fuel t cs = some y) (hw : ∀ n ∈ y.1.weights Tryd.prog t, n ≤ reachBytes)
    (hR : ∀ n cs z, DataW.trod enc Tryd.prog W 0 (fun _ => true) true n e cs = some z → (∀ m ∈ z.1.weights Tryd.prog e, m ≤ reachBytes) → ∃ x, R W cs x ∧ Q x) :
    ∃ a l c xs, cs = [.slice a l c] ∧ SlR sz R W (.slice a l c) xs ∧ (∀ x ∈ xs, Q x) ∧ xs.length * Tryd.prog.bytesOf e ≤ reachBytes := by
  have g' : ∃ x l c, cs = [.slice x l c] := by
    rcases DataW.trod_slice ht h with ⟨h0, _⟩ | ⟨x, l, c, _, _, _, _, h0, _⟩
    · exact ⟨none, 0, 0, h0⟩
    · exact ⟨some x, l, c, h0⟩
  obtain ⟨a, l, c, rfl⟩ := g'
  obtain ⟨d, ps⟩ := y
  obtain ⟨rows, h1, h2, h3⟩ := slc_open ht hc hsz h
  rcases h3 with ⟨rfl, rfl⟩ | ⟨ds, zs, rfl, hl, h3⟩
  · exact ⟨a, l, c, [], rfl, ⟨[], h1, rfl, fun i hi => by simp at hi⟩, fun x hx => by simp at hx, by simp⟩
  · have hwt : (ds.length + zs.length) * Tryd.prog.bytesOf e ≤ reachBytes := hw _ (by simp [DataW.weights, ht])
    obtain ⟨xs, hx1, hx2⟩ := choose_list (rows.zip ds) (fun (r : List Value × DataW H) (x : α) => R W r.1 x ∧ Q x) (fun r hr => by
      obtain ⟨i, hi, rfl⟩ := List.getElem_of_mem hr
      have hi2 : i < rows.length := by simp at hi; omega
      obtain ⟨n, y, g, g2⟩ := h3 i hi2
      rw [List.getD_eq_getElem?_getD, List.getElem?_eq_getElem hi2] at g
      obtain ⟨x, k1, k2⟩ := hR _ _ _ g (fun m hm => hw m (by
        simp only [DataW.weights, ht, List.mem_cons, List.mem_append]
        exact Or.inr (Or.inl (all_weights (List.mem_of_getElem? g2) hm))))
      refine ⟨x, ?_, k2⟩
      rw [List.getElem_zip]; exact k1)
    have hzl : (rows.zip ds).length = rows.length := by simp [hl]
    refine ⟨a, l, c, xs, rfl, ⟨rows, h1, by omega, fun i hi => ?_⟩, fun x hx => ?_, ?_⟩
    · have := (hx2 i (by omega) hi).1
      rw [List.getElem_zip] at this
      rw [List.getD_eq_getElem?_getD, List.getElem?_eq_getElem (by omega)]
      exact this
    · obtain ⟨i, hi, rfl⟩ := List.getElem_of_mem hx
      exact (hx2 i (by omega) hi).2
    · refine Nat.le_trans (Nat.mul_le_mul_right _ ?_) hwt
      omega
/-- a slice of integers -/
theorem rd_trod {H : Type} {enc : TypeId × Value → H} {W : World} {t e : TypeId} {k : IntKind} {cs : List Value} {y : DataW H × List MemPlace} {fuel : Nat}
    (ht : Tryd.prog.underlying t = some (.slice e)) (he : Tryd.prog.underlying e = some (.int k)) (hc : Tryd.prog.cellsOf e = 1) (h : DataW.trod enc Tryd.prog W 0 (fun _ => true) true fuel t cs = some y) (hw : ∀ n ∈ y.1.weights Tryd.prog t, n ≤ reachBytes) :
    ∃ a l c xs, cs = [.slice a l c] ∧ Rd k W (.slice a l c) xs ∧ (∀ n ∈ xs, (Lit.int k n).wf = true) ∧ xs.length * Tryd.prog.bytesOf e ≤ reachBytes := by
  have g' : ∃ x l c, cs = [.slice x l c] := by
    rcases DataW.trod_slice ht h with ⟨h0, _⟩ | ⟨x, l, c, _, _, _, _, h0, _⟩
    · exact ⟨none, 0, 0, h0⟩
    · exact ⟨some x, l, c, h0⟩
  obtain ⟨a, l, c, rfl⟩ := g'
  obtain ⟨d, ps⟩ := y
  obtain ⟨u, hu, hf, hd⟩ := rd_open (k := k) (d := d) (ps := ps) ht he hc ⟨_, h⟩
  refine ⟨a, l, c, u, rfl, hu, hf, ?_⟩
  rcases hd with rfl | ⟨ys, zs, rfl, hle⟩
  · simp
  · have hwt : (ys.length + zs.length) * Tryd.prog.bytesOf e ≤ reachBytes := hw _ (by simp [DataW.weights, ht])
    refine Nat.le_trans (Nat.mul_le_mul_right _ ?_) hwt
    omega
/-- a struct's fields, one after another: each field's cells are one, its weights are the struct's -/
theorem str_field {H : Type} {enc : TypeId × Value → H} {W : World} {t : TypeId} {fs : Array Field} {cs : List Value} {xs : List (DataW H × List MemPlace)} {n : Nat} (hu : Tryd.prog.underlying t = some (.struct fs))
    (hf : ∀ (i : Nat) f, fs[i]? = some f → DataW.trod enc Tryd.prog W 0 (fun _ => true) true n f.type ((cs.drop f.offset).take (Tryd.prog.cellsOf f.type)) = xs[i]?) {l : List (TypeId × Nat)} (hl : fs.toList.map (fun f => (f.type, f.offset)) = l) (hw : ∀ m ∈ (DataW.agg (xs.map (·.1))).weights Tryd.prog t, m ≤ reachBytes)
    (i : Nat) (a : TypeId) (o : Nat) (h : l[i]? = some (a, o)) (hc : Tryd.prog.cellsOf a = 1) (hi : i < xs.length) :
    DataW.trod enc Tryd.prog W 0 (fun _ => true) true n a ((cs.drop o).take 1) = some xs[i] ∧ ∀ m ∈ xs[i].1.weights Tryd.prog a, m ≤ reachBytes := by
  subst hl
  rw [List.getElem?_map] at h
  obtain ⟨f, g1, g2⟩ := Option.map_eq_some_iff.1 h
  obtain ⟨rfl, rfl⟩ := Prod.mk.inj g2
  have h1 := hf i f (by rw [← Array.getElem?_toList]; exact g1)
  rw [hc, List.getElem?_eq_getElem hi] at h1
  refine ⟨h1, fun m hm => hw m ?_⟩
  simp only [DataW.weights, hu]
  refine DataW.weights_mem_each (j := i) (t := f.type) (d := xs[i].1) ?_ ?_ m hm
  · rw [List.getElem?_map, g1]; rfl
  · rw [List.getElem?_map, List.getElem?_eq_getElem hi]; rfl
/-- a field of several cells -/
theorem str_fieldN {H : Type} {enc : TypeId × Value → H} {W : World} {t : TypeId} {fs : Array Field} {cs : List Value} {xs : List (DataW H × List MemPlace)} {n : Nat} (hu : Tryd.prog.underlying t = some (.struct fs))
    (hf : ∀ (i : Nat) f, fs[i]? = some f → DataW.trod enc Tryd.prog W 0 (fun _ => true) true n f.type ((cs.drop f.offset).take (Tryd.prog.cellsOf f.type)) = xs[i]?) {l : List (TypeId × Nat)} (hl : fs.toList.map (fun f => (f.type, f.offset)) = l) (hw : ∀ m ∈ (DataW.agg (xs.map (·.1))).weights Tryd.prog t, m ≤ reachBytes)
    (i : Nat) (a : TypeId) (o c : Nat) (h : l[i]? = some (a, o)) (hc : Tryd.prog.cellsOf a = c) (hi : i < xs.length) :
    DataW.trod enc Tryd.prog W 0 (fun _ => true) true n a ((cs.drop o).take c) = some xs[i] ∧ ∀ m ∈ xs[i].1.weights Tryd.prog a, m ≤ reachBytes := by
  subst hl
  rw [List.getElem?_map] at h
  obtain ⟨f, g1, g2⟩ := Option.map_eq_some_iff.1 h
  obtain ⟨rfl, rfl⟩ := Prod.mk.inj g2
  have h1 := hf i f (by rw [← Array.getElem?_toList]; exact g1)
  rw [hc, List.getElem?_eq_getElem hi] at h1
  refine ⟨h1, fun m hm => hw m ?_⟩
  simp only [DataW.weights, hu]
  refine DataW.weights_mem_each (j := i) (t := f.type) (d := xs[i].1) ?_ ?_ m hm
  · rw [List.getElem?_map, g1]; rfl
  · rw [List.getElem?_map, List.getElem?_eq_getElem hi]; rfl

/-
  The fixed fact of layer 19's statements, copied, settings that came in.
-/
set_option maxRecDepth 100000

theorem stFs : (Tryd.prog.fieldsOf 39).toList.map (fun f => (f.type, f.offset)) = [(9, 0), (9, 1)] := by kernel_rfl
set_option maxRecDepth 100000 in
theorem st_trod {H : Type} {enc : TypeId × Value → H} {W : World} (fuel : Nat) (cs : List Value) (y : DataW H × List MemPlace) (h : DataW.trod enc Tryd.prog W 0 (fun _ => true) true fuel 39 cs = some y) (hw : ∀ n ∈ y.1.weights Tryd.prog 39, n ≤ reachBytes) :
    ∃ x : Stt, stR W cs x ∧ gS x := by
  obtain ⟨xs, n, _, rfl, hl, hlen, hf⟩ := DataW.trod_struct st_str h
  rw [show Tryd.prog.cellsOf 39 = 2 by kernel_rfl] at hl
  rw [show (Tryd.prog.fieldsOf 39).size = 2 by kernel_rfl] at hlen
  match cs, hl with
  | [c0, c1], _ =>
    have g0 := str_field st_str hf stFs hw 0 9 0 rfl (by kernel_rfl) (by omega)
    have g1 := str_field st_str hf stFs hw 1 9 1 rfl (by kernel_rfl) (by omega)
    obtain ⟨k, k1, k2, k3⟩ := DataW.trod_string Tryd.underlying9 g0.1
    obtain ⟨u, u1, u2, u3⟩ := DataW.trod_string Tryd.underlying9 g1.1
    simp at k1 u1
    subst k1 u1
    exact ⟨(k, u), ⟨rfl, k3, u3⟩, k3, u3⟩
theorem sts_open {H : Type} {enc : TypeId × Value → H} {W : World} {a : Option Addr} {len cap : Nat} {d : DataW H} {ps : List MemPlace} (h : DataW.Trod enc Tryd.prog W 0 (fun _ => true) true 23 (.slice a len cap) d ps) (hw : ∀ n ∈ d.weights Tryd.prog 23, n ≤ reachBytes) :
    ∃ xs : List Stt, SlR 2 stR W (.slice a len cap) xs ∧ (∀ x ∈ xs, gS x) ∧ xs.length * 32 ≤ 140737488351232 := by
  obtain ⟨fuel, hf⟩ := h
  obtain ⟨a', l', c', xs, e, h1, h2, h3⟩ := slr_trod stR gS (e := 39) Tryd.underlying23 (show Tryd.prog.cellsOf 39 = 2 by kernel_rfl) (by omega) (show DataW.trod enc Tryd.prog W 0 (fun _ => true) true fuel 23 [.slice a len cap] = some (d, ps) from hf) hw (fun n cs z h1 h2 => st_trod n cs z h1 h2)
  simp only [List.cons.injEq, Value.slice.injEq, and_true] at e
  obtain ⟨rfl, rfl, rfl⟩ := e
  rw [show Tryd.prog.bytesOf 39 = 32 by kernel_rfl] at h3
  exact ⟨xs, h1, h2, h3⟩
theorem st_open {H : Type} {enc : TypeId × Value → H} {W : World} {base : Nat} {v : Value} {d : DataW H} {ps : List MemPlace} (hv : Value.okWide Tryd.prog W .any base 39 v) (h : DataW.Trod enc Tryd.prog W 0 (fun _ => true) true 39 v d ps) (hw : ∀ n ∈ d.weights Tryd.prog 39, n ≤ reachBytes) :
    ∃ a b : ByteArray, v = .agg #[.string a, .string b] ∧ a.size ≤ maxLen ∧ b.size ≤ maxLen := by
  obtain ⟨cs0, rfl, _, _⟩ : ∃ cs, v = .agg cs ∧ cs.size = Tryd.prog.cellsOf 39 ∧ Row.okWide Tryd.prog W .any base 39 cs := by
    simpa [Value.okWide, st_str] using hv
  obtain ⟨fuel, hf0⟩ := h
  have hf2 : DataW.trod enc Tryd.prog W 0 (fun _ => true) true fuel 39 cs0.toList = some (d, ps) := hf0
  obtain ⟨x, h1, h2⟩ := st_trod fuel cs0.toList (d, ps) hf2 hw
  obtain ⟨cs⟩ := cs0
  have h3 : cs = stC x := h1.1
  subst h3
  exact ⟨x.1, x.2, rfl, h2.1, h2.2⟩

theorem st_eql (w : World) (a1 v1 a2 v2 : ByteArray) : (binOp .eql 39 (.agg #[.string a1, .string v1]) (.agg #[.string a2, .string v2])).run Tryd.prog w = .ok (.bool (a1.toList == a2.toList && v1.toList == v2.toList)) w := by
  rw [run_eql_struct, run_equalIn_agg w _ _ _ _ st_str st_held]
  cases h1 : (a1.toList == a2.toList) <;> cases h2 : (v1.toList == v2.toList)
  all_goals simp [go_sem, h1, h2]
def vaBl : ByteArray := ⟨#[98, 111, 111, 116, 45, 108, 105, 109, 105, 116]⟩
theorem al_set : vaS [] vaBl ⟨#[48, 48, 55]⟩ = ([(vaBl, ⟨#[55]⟩)], 0) := by kernel_rfl
set_option maxHeartbeats 1000000 in
theorem w_alive19 (w : World) (hT : Tab w) : Calls Tryd.prog 7 #[] w fun e w' => e = .returned (.bool true) ∧ Below w.heap.size w w' := by
  have cS := fun w hT h => w_pset19 (.slice none 0 0) [] vaBl ⟨#[48, 48, 55]⟩ w hT h (by decide)
  rw [al_set] at cS
  have hnil := fun w : World => (owt_nil w.heap.size w).read (fun p hp => by cases hp)
  unfold vaBl at cS
  simp only at cS
  have he : ∀ w, (binOp .eql 39 (.agg #[.string ⟨#[98, 111, 111, 116, 45, 108, 105, 109, 105, 116]⟩, .string ⟨#[55]⟩]) (.agg #[.string ⟨#[98, 111, 111, 116, 45, 108, 105, 109, 105, 116]⟩, .string ⟨#[55]⟩])).run Tryd.prog w = .ok (.bool true) w := fun w => by
    rw [st_eql]
    simp
  have hgd := fun w x y => run_eqGuard_agg (P := Tryd.prog) w .eql 39 x y #[.string ⟨#[98, 111, 111, 116, 45, 108, 105, 109, 105, 116]⟩, .string ⟨#[55]⟩] #[.string ⟨#[98, 111, 111, 116, 45, 108, 105, 109, 105, 116]⟩, .string ⟨#[55]⟩] st_guard
  go_enter Tryd.func7, Tryd.ntmps7
  go_upto_region 2 with (go_at_call 16; refine (cS _ hT (hnil _)).mono ?_; rintro e w1 ⟨v1, rfl, r1, b1⟩)
  have hl1 : ∀ ty w', (Builtin.len_ #[23] ty #[v1]).run Tryd.prog w' = .ok (.int .i64 1) w' := slr_len r1 uSt (P := Tryd.prog)
  obtain ⟨zb, zo, A, V, z1, z2, z3, z4, _⟩ := st_at r1 0 (by decide)
  obtain ⟨rfl, rfl⟩ : ⟨#[98, 111, 111, 116, 45, 108, 105, 109, 105, 116]⟩ = A ∧ ⟨#[55]⟩ = V := Prod.mk.inj z4
  have z1' : ∀ w', (Instr.indexAt 23 v1 (.int .i64 0)).run Tryd.prog w' = .ok (.pointer (some ⟨zb, zo, none⟩)) w' := z1
  clear z1 z4 r1
  go_wp2_with fail
  go_ret
  exact ⟨rfl, b1⟩

/-
  What the laws of layer 19 ask of the plain functions.
-/
set_option maxRecDepth 100000

theorem vaS_right (l : List Stt) (nm s : ByteArray) : (vaS l nm s).2 = 0 → vaG (-1) (vaS l nm s).1 = true := by
  unfold vaS
  split
  · rename_i h
    split
    · rename_i hm
      intro _
      exact va_right h hm
    · rename_i hm
      intro h2
      exact absurd h2 hm
  · intro h2
    exact absurd h2 (by decide)
theorem vaS_none (l : List Stt) (nm s : ByteArray) : ¬ (vaS l nm s).2 = 0 → (vaS l nm s).1 = [] := by
  unfold vaS
  split
  · split
    · intro h; exact absurd rfl h
    · intro _; rfl
  · intro _; rfl
theorem vaS_gS (l : List Stt) (nm s : ByteArray) : ∀ p ∈ (vaS l nm s).1, gS p := by
  by_cases h : (vaS l nm s).2 = 0
  · exact va_gS (by decide) (vaS_right l nm s h)
  · rw [vaS_none l nm s h]
    intro p hp
    cases hp
theorem vaDe_gS {b : List Int} (hb : bytesL b) : ∀ p ∈ (vaDe b).1, gS p := by
  by_cases h : (vaDe b).2 = 0
  · exact va_gS (by decide) (va_de hb h).1
  · rw [va_den b h]
    intro p hp
    cases hp
theorem vaEn_bytes (l : List Stt) : bytesL (vaEn l).1 := by
  unfold vaEn
  split
  · split
    · intro x hx; cases hx
    · exact va_bytes l
  · intro x hx; cases hx
theorem vaEn_ok {l : List Stt} (h : (vaEn l).2 = 0) : vaG (-1) l = true ∧ (vaEn l).1 = vaB l ∧ (vaB l).length ≤ 248 := by
  unfold vaEn at h ⊢
  split at h
  · rename_i hg
    rw [if_pos hg]
    split at h
    · exact absurd h (by decide)
    · rename_i hl
      rw [if_neg hl]
      exact ⟨hg, rfl, by omega⟩
  · exact absurd h (by decide)
theorem vaEn_no {l : List Stt} (h : ¬ (vaEn l).2 = 0) : (vaEn l).1 = [] := by
  unfold vaEn at h ⊢
  split
  · split
    · rfl
    · rename_i hg hl
      rw [if_pos hg, if_neg hl] at h
      exact absurd rfl h
  · rfl
theorem vaEn_long {l : List Stt} {b : List Int} (h : vaG (-1) l = true) (hb : vaB l = b) (hl : 248 < b.length) : vaEn l = ([], 10) := by unfold vaEn; rw [if_pos h, hb, if_pos hl]
theorem vaEn_short {l : List Stt} {b : List Int} (h : vaG (-1) l = true) (hb : vaB l = b) (hl : ¬ 248 < b.length) : vaEn l = (b, 0) := by unfold vaEn; rw [if_pos h, hb, if_neg hl]
/-- behind a setting: the variable has the form of its value, every other one what it had -/
theorem va_keeps (l : List Stt) (nm s other : ByteArray) (h : (vaS l nm s).2 = 0) : vaGt (vaS l nm s).1 nm = ((vaM nm s).1, 0) ∧ (vaM nm s).2 = 0 ∧ (¬ other = nm → vaGt (vaS l nm s).1 other = vaGt l other) := by
  have hr := vaS_right l nm s h
  have hg : vaG (-1) l = true := by
    unfold vaS at h
    split at h
    · assumption
    · exact absurd h (by decide)
  have hm : (vaM nm s).2 = 0 := by
    unfold vaS at h
    rw [if_pos hg] at h
    split at h
    · assumption
    · rename_i h2; exact absurd h h2
  have e : (vaS l nm s).1 = vaP (vaU l nm (vaM nm s).1) 9 := by unfold vaS; rw [if_pos hg, if_pos hm]
  obtain ⟨h0, h1⟩ := va_ok hm
  refine ⟨?_, hm, fun ho => ?_⟩
  · unfold vaGt
    rw [if_pos hr, if_neg (by omega), e]
    obtain ⟨h2, h3⟩ := va_found h0
    have := va_got (vaU l nm (vaM nm s).1) _ h2
    rw [h3] at this
    rw [this]
    unfold vaU
    rw [if_pos h3]
  · unfold vaGt
    rw [if_pos hr, if_pos hg]
    by_cases hn : vaF other < 0
    · rw [if_pos hn, if_pos hn]
    · rw [if_neg hn, if_neg hn, e]
      obtain ⟨h2, h3⟩ := va_found (show 0 ≤ vaF other by omega)
      have := va_got (vaU l nm (vaM nm s).1) _ h2
      rw [h3] at this
      rw [this]
      unfold vaU
      rw [h3, if_neg ho]

end Go.Proofs.YtaiimfdcbdfbdabDoor
