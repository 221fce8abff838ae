/-
  The fixed fact of layer 19's statements, copied, settings that came in.
-/
import Derived.Test.YtaiimfdcbdfbdaaDoorRows
import Derived.Test.YtaiimfdcbdfbdaaDoorVap
import Derived.Test.YtaiimfdcbdfbdaaDoorTro
import Derived.Deep.OwnRows
namespace Go.Proofs.YtaiimfdcbdfbdaaDoor
open Go.ChangeShapes Go.WideShapes Go.ChangeAt Go.RowKit
set_option linter.unusedVariables false
set_option linter.unusedSimpArgs false

theorem stFs : (Tryd.prog.fieldsOf 46).toList.map (fun f => (f.type, f.offset)) = [(9, 0), (9, 1)] := by kernel_rfl
set_option maxRecDepth 100000 in
theorem st_trod {H : Type} {enc : TypeId × Value → H} {W : World} (fuel : Nat) (cs : List Value) (y : DataW H × List MemPlace) (h : DataW.trod enc Tryd.prog W 0 (fun _ => true) true fuel 46 cs = some y) (hw : ∀ n ∈ y.1.weights Tryd.prog 46, n ≤ reachBytes) :
    ∃ x : Stt, stR W cs x ∧ gS x := by
  obtain ⟨xs, n, _, rfl, hl, hlen, hf⟩ := DataW.trod_struct st_str h
  rw [show Tryd.prog.cellsOf 46 = 2 by kernel_rfl] at hl
  rw [show (Tryd.prog.fieldsOf 46).size = 2 by kernel_rfl] at hlen
  match cs, hl with
  | [c0, c1], _ =>
    have g0 := str_field st_str hf stFs hw 0 9 0 rfl (by kernel_rfl) (by omega)
    have g1 := str_field st_str hf stFs hw 1 9 1 rfl (by kernel_rfl) (by omega)
    obtain ⟨k, k1, k2, k3⟩ := DataW.trod_string Tryd.underlying9 g0.1
    obtain ⟨u, u1, u2, u3⟩ := DataW.trod_string Tryd.underlying9 g1.1
    simp at k1 u1
    subst k1 u1
    exact ⟨(k, u), ⟨rfl, k3, u3⟩, k3, u3⟩
theorem sts_open {H : Type} {enc : TypeId × Value → H} {W : World} {a : Option Addr} {len cap : Nat} {d : DataW H} {ps : List MemPlace} (h : DataW.Trod enc Tryd.prog W 0 (fun _ => true) true 30 (.slice a len cap) d ps) (hw : ∀ n ∈ d.weights Tryd.prog 30, n ≤ reachBytes) :
    ∃ xs : List Stt, SlR 2 stR W (.slice a len cap) xs ∧ (∀ x ∈ xs, gS x) ∧ xs.length * 32 ≤ 140737488351232 := by
  obtain ⟨fuel, hf⟩ := h
  obtain ⟨a', l', c', xs, e, h1, h2, h3⟩ := slr_trod stR gS (e := 46) Tryd.underlying30 (show Tryd.prog.cellsOf 46 = 2 by kernel_rfl) (by omega) (show DataW.trod enc Tryd.prog W 0 (fun _ => true) true fuel 30 [.slice a len cap] = some (d, ps) from hf) hw (fun n cs z h1 h2 => st_trod n cs z h1 h2)
  simp only [List.cons.injEq, Value.slice.injEq, and_true] at e
  obtain ⟨rfl, rfl, rfl⟩ := e
  rw [show Tryd.prog.bytesOf 46 = 32 by kernel_rfl] at h3
  exact ⟨xs, h1, h2, h3⟩
theorem st_open {H : Type} {enc : TypeId × Value → H} {W : World} {base : Nat} {v : Value} {d : DataW H} {ps : List MemPlace} (hv : Value.okWide Tryd.prog W .any base 46 v) (h : DataW.Trod enc Tryd.prog W 0 (fun _ => true) true 46 v d ps) (hw : ∀ n ∈ d.weights Tryd.prog 46, n ≤ reachBytes) :
    ∃ a b : ByteArray, v = .agg #[.string a, .string b] ∧ a.size ≤ maxLen ∧ b.size ≤ maxLen := by
  obtain ⟨cs0, rfl, _, _⟩ : ∃ cs, v = .agg cs ∧ cs.size = Tryd.prog.cellsOf 46 ∧ Row.okWide Tryd.prog W .any base 46 cs := by
    simpa [Value.okWide, st_str] using hv
  obtain ⟨fuel, hf0⟩ := h
  have hf2 : DataW.trod enc Tryd.prog W 0 (fun _ => true) true fuel 46 cs0.toList = some (d, ps) := hf0
  obtain ⟨x, h1, h2⟩ := st_trod fuel cs0.toList (d, ps) hf2 hw
  obtain ⟨cs⟩ := cs0
  have h3 : cs = stC x := h1.1
  subst h3
  exact ⟨x.1, x.2, rfl, h2.1, h2.2⟩

set_option maxHeartbeats 1000000 in
theorem w_copied19 (v : Value) (l : List Stt) (w : World) (h : SlR 2 stR w v l) (hz : l.length * 32 ≤ 140737488351232) :
    Calls Tryd.prog 16 #[v] w fun e w' => ∃ v', e = .returned v' ∧ SlR 2 stR w' v' l ∧ Below w.heap.size w w' := by
  obtain ⟨i4, hi4, hz4, hs4, hb4⟩ := info_st
  obtain ⟨rows, g1, g2, g3⟩ := h
  have hr : rows = l.map stC := by
    apply List.ext_getElem (by rw [List.length_map]; exact g2)
    intro i h1 h2
    rw [List.length_map] at h2
    have := (g3 i h2).1
    rw [List.getD_eq_getElem?_getD, List.getElem?_eq_getElem h1] at this
    rw [List.getElem_map]
    exact this
  have hgs : ∀ p ∈ l, gS p := by
    intro p hp
    obtain ⟨i, hi, rfl⟩ := List.getElem_of_mem hp
    exact (g3 i hi).2
  have h1 : ∀ r ∈ rows, ∀ u ∈ r, u.oneCell' = true := by
    intro r hr2
    rw [hr] at hr2
    obtain ⟨p, _, rfl⟩ := List.mem_map.1 hr2
    exact st_one p
  have hfl : rows.flatten = l.flatMap stC := by rw [hr]; rfl
  go_enter Tryd.func16, Tryd.ntmps16
  go_wp2_with (at_builtin; refine wpList_append_rows rfl _ _ 30 rfl w.heap.size 46 i4 _ 2 32 Tryd.underlying30 hi4 hz4 hs4 hb4 rfl (by decide) _ 0 [] rfl (World.ownsRow_nil _ _ _ _) _ rows rfl g1 h1 (by unfold maxLen; omega) (by omega) (Nat.le_refl _) ?_; intro v5 w5 ho5 hg5)
  go_ret
  have ho : OwT w.heap.size w5 v5 l := by
    unfold OwT
    simpa [hfl, g2] using ho5
  exact ⟨v5, rfl, ho.read hgs, below_grown (Below.refl _ _) hg5 (fun k hk => by simp [Value.ownBlock, Act.eval] at hk)⟩

theorem st_eql (w : World) (a1 v1 a2 v2 : ByteArray) : (binOp .eql 46 (.agg #[.string a1, .string v1]) (.agg #[.string a2, .string v2])).run Tryd.prog w = .ok (.bool (a1.toList == a2.toList && v1.toList == v2.toList)) w := by
  rw [run_eql_struct, run_equalIn_agg w _ _ _ _ st_str st_held]
  cases h1 : (a1.toList == a2.toList) <;> cases h2 : (v1.toList == v2.toList)
  all_goals simp [go_sem, h1, h2]
def vaBl : ByteArray := ⟨#[98, 111, 111, 116, 45, 108, 105, 109, 105, 116]⟩
theorem al_set : vaS [] vaBl ⟨#[48, 48, 55]⟩ = ([(vaBl, ⟨#[55]⟩)], 0) := by kernel_rfl
set_option maxHeartbeats 1000000 in
theorem w_alive19 (w : World) (hT : Tab w) : Calls Tryd.prog 9 #[] w fun e w' => e = .returned (.bool true) ∧ Below w.heap.size w w' := by
  have cS := fun w hT h => w_pset19 (.slice none 0 0) [] vaBl ⟨#[48, 48, 55]⟩ w hT h (by decide)
  rw [al_set] at cS
  have hnil := fun w : World => (owt_nil w.heap.size w).read (fun p hp => by cases hp)
  unfold vaBl at cS
  simp only at cS
  have he : ∀ w, (binOp .eql 46 (.agg #[.string ⟨#[98, 111, 111, 116, 45, 108, 105, 109, 105, 116]⟩, .string ⟨#[55]⟩]) (.agg #[.string ⟨#[98, 111, 111, 116, 45, 108, 105, 109, 105, 116]⟩, .string ⟨#[55]⟩])).run Tryd.prog w = .ok (.bool true) w := fun w => by
    rw [st_eql]
    simp
  have hgd := fun w x y => run_eqGuard_agg (P := Tryd.prog) w .eql 46 x y #[.string ⟨#[98, 111, 111, 116, 45, 108, 105, 109, 105, 116]⟩, .string ⟨#[55]⟩] #[.string ⟨#[98, 111, 111, 116, 45, 108, 105, 109, 105, 116]⟩, .string ⟨#[55]⟩] st_guard
  go_enter Tryd.func9, Tryd.ntmps9
  go_upto_region 2 with (go_at_call 17; refine (cS _ hT (hnil _)).mono ?_; rintro e w1 ⟨v1, rfl, r1, b1⟩)
  have hl1 : ∀ ty w', (Builtin.len_ #[30] ty #[v1]).run Tryd.prog w' = .ok (.int .i64 1) w' := slr_len r1 uSt (P := Tryd.prog)
  obtain ⟨zb, zo, A, V, z1, z2, z3, z4, _⟩ := st_at r1 0 (by decide)
  obtain ⟨rfl, rfl⟩ : ⟨#[98, 111, 111, 116, 45, 108, 105, 109, 105, 116]⟩ = A ∧ ⟨#[55]⟩ = V := Prod.mk.inj z4
  have z1' : ∀ w', (Instr.indexAt 30 v1 (.int .i64 0)).run Tryd.prog w' = .ok (.pointer (some ⟨zb, zo, none⟩)) w' := z1
  clear z1 z4 r1
  go_wp2_with fail
  go_ret
  exact ⟨rfl, b1⟩
end Go.Proofs.YtaiimfdcbdfbdaaDoor
