/-
  Texts of one proof, laid one behind the other: Stc Tf1 Rnq Rt3 Ps1 Tf2 Pnq Tf3 Tf4 Rt4 Ra4 Ra5 Rt5 Tf5 Rt6 Tf6 Rt7.
-/
import Derived.Test.YtkdaimagdmbnfabDoorB2
import Derived.Deep.RegionLaw
import Derived.Shelf.Abstract
import Derived.Laws.BitsAllLaws
import Derived.Deep.RegionHeld
import Derived.Deep.Cut
import Derived.Deep.CutRange
import Derived.Deep.DeepCutAuto
namespace Go.Proofs.YtkdaimagdmbnfabDoor
open Go.ChangeShapes Go.WideShapes Go.ChangeAt Go.RowKit
set_option linter.unusedVariables false
set_option linter.unusedSimpArgs false

/-
  A call of a Go function as one step of a region that draws its order.
-/
theorem step_call {P : Program} {ops : Array Oper} {w : World} {o : Oper} {a : Act} {K : Act → World → Prop} {Q : Exit → Act → World → Prop} {E : Prop} (hgd : o.guard = none) (f : Nat) (x : Operand) (t : TypeId)
    (hop : o.op = .call { callee := .value (.func f), args := #[x], argTypes := #[t] }) (hent : ∀ args w, (callFunc f args).run P w = .ok (.enter f args) w) (vx : Value) (hx : a.eval x = vx)
    (hc : Calls P f #[vx] w fun e w' => ∃ v, e = .returned v ∧ K (a.put o.dst v) w') :
    if Region.wanted o (yielded ops a.tmps) = true then Oper.wp P o a w K Q else E := by
  rw [if_pos (by simp [Region.wanted, hgd])]
  unfold Oper.wp
  have he : a.eval (.func f) = .func (.func f) #[] #[] := rfl
  simp [execOp, hop, resolve, invoke, hx, he, hent, Deferred.ofValue]
  rw [Oper.upon_enter]
  refine hc.mono ?_
  rintro e w' ⟨v, rfl, h⟩
  exact h

/-
  What package tree asks by closures: IndexFunc at devices and at properties, the closures that it is handed, child, called, meant, place.
-/
/-- a function value that answers a question about each of these devices, in every later world -/
def AskN (w : World) (g : Nat) (lb : Array Value) (p : Nd → Bool) (t : List Nd) : Prop :=
  ∀ (W : World) (nm : ByteArray) (vu vp vc : Value) (x : Nd), Below w.heap.size w W → x ∈ t → strOfNums x.1 = nm → Rd .u32 W vu x.2.1 → SlR 2 propR W vp x.2.2.2.1 → Rd .u32 W vc x.2.2.2.2 →
    Calls Tryd.prog g (#[.agg #[.string nm, vu, .int .i64 x.2.2.1, vp, vc]] ++ lb) W fun e w' => e = .returned (.bool (p x)) ∧ Below W.heap.size W w'
theorem AskN.later {w w' : World} {g : Nat} {lb : Array Value} {p : Nd → Bool} {t : List Nd} (h : AskN w g lb p t) (b : Below w.heap.size w w') : AskN w' g lb p t :=
  fun W nm vu vp vc x hb => h W nm vu vp vc x (below_trans b hb)
theorem AskN.part {w : World} {g : Nat} {lb : Array Value} {p : Nd → Bool} {t t' : List Nd} (h : AskN w g lb p t) (hs : ∀ x ∈ t', x ∈ t) : AskN w g lb p t' :=
  fun W nm vu vp vc x hb hx => h W nm vu vp vc x hb (hs x hx)
theorem idx_hit {α : Type} {t : List α} {p : α → Bool} {k : Nat} (hk : k < t.length) (h : p t[k] = true) (hn : ∀ j (hj : j < k), p (t[j]'(by omega)) = false) : t.findIdx? p = some k := by
  rw [List.findIdx?_eq_some_iff_getElem]
  exact ⟨hk, h, fun j hj => by simp [hn j hj]⟩
theorem idx_miss {α : Type} {t : List α} {p : α → Bool} (hn : ∀ j (hj : j < t.length), p t[j] = false) : t.findIdx? p = none := by
  rw [List.findIdx?_eq_none_iff]
  intro x hx
  obtain ⟨j, hj, rfl⟩ := List.getElem_of_mem hx
  exact hn j hj

set_option maxHeartbeats 1000000 in
set_option maxRecDepth 100000 in
theorem w_pindexN (v : Value) (t : List Nd) (g : Nat) (lb : Array Value) (p : Nd → Bool) (w : World) (eg : ∀ args w, (callFunc g args).run Tryd.prog w = .ok (.enter g args) w) (h : RdT w v t) (hp : AskN w g lb p t) :
    Calls Tryd.prog 37 #[v, .func (.func g) #[] lb] w fun e w' => e = .returned (.int .i64 (fdI (t.findIdx? p))) ∧ Below w.heap.size w w' := by
  have hl := slr_len h uN (P := Tryd.prog)
  have hm := slr_max h
  unfold maxLen at hm
  obtain ⟨R, hR⟩ : ∃ R, fdI (t.findIdx? p) = R := ⟨_, rfl⟩
  rw [hR]
  have HR := hid hR
  clear hR
  go_enter Tryd.func37, Tryd.ntmps37
  go_wp2_with fail
  go_loopw [8] (fun I wx => ∃ k : Nat, (k : Int) ≤ t.length ∧ I = .int .i64 k ∧ Hid (∀ j (hj : j < k) (hl : j < t.length), p t[j] = false) ∧ Below w.heap.size w wx) (fun I _ => (t.length - intOf I).toNat)
  case atStart => exact ⟨0, by omega, rfl, hid (fun j hj => by omega), Below.refl _ _⟩
  case round =>
    obtain ⟨k, hk, rfl, hq, hg⟩ := hrel
    by_cases hlt : (k : Int) < t.length
    · have hkl : k < t.length := by omega
      obtain ⟨b1, o1, N1, u1, p1, c1, r1, f0, f1, f2, f3, f4, e1, hu1, hp1, hc1⟩ := nod_at (h.below hg) k hkl
      have hc := hp wr N1 u1 p1 c1 t[k] hg (List.getElem_mem hkl) e1 hu1 hp1 hc1
      obtain ⟨X, hX⟩ : ∃ X, t[k].2.2.1 = X := ⟨_, rfl⟩
      rw [hX] at f2 hc
      obtain ⟨ua, uq, rfl⟩ := rd_slice hu1
      obtain ⟨pa, pq, rfl⟩ := slr_slice hp1
      obtain ⟨ca, cq, rfl⟩ := rd_slice hc1
      cases hpk : p t[k]
      · rw [hpk] at hc
        have hq2 : Hid (∀ j (hj : j < k + 1) (hl : j < t.length), p t[j] = false) := by
          show ∀ j _ _, _
          intro j hj hl
          by_cases hjk : j < k
          · exact hq.out j hjk hl
          · have : j = k := by omega
            subst this
            exact hpk
        clear hpk e1 hX hp
        go_wp2_with (go_at_fn g; refine hc.mono ?_; rintro e w1 ⟨rfl, b1⟩)
        go_roundw
        case rel => exact ⟨k + 1, by omega, by go_num, hq2, below_trans hg b1⟩
        case measure => simp [intOf]; omega
      · rw [hpk] at hc
        have hf : Hid (R = k) := by
          show _ = _
          rw [← HR.out, idx_hit hkl hpk (fun j hj => hq.out j hj (by omega))]
          rfl
        clear hpk e1 hX hp
        go_wp2_with (go_at_fn g; refine hc.mono ?_; rintro e w1 ⟨rfl, b1⟩)
        go_ret
        rw [hf.out]
        exact ⟨rfl, below_trans hg b1⟩
    · have hf : Hid (R = -1) := by
        show _ = _
        rw [← HR.out, idx_miss (fun j hj => hq.out j (by omega) hj)]
        rfl
      go_wp2_with fail
      go_ret
      rw [hf.out]
      exact ⟨rfl, hg⟩

set_option maxHeartbeats 1000000 in
set_option maxRecDepth 100000 in
theorem w_pplace1 (nm s : ByteArray) (vd : Value) (x : Pp) (B : Nat) (W : World) (e0 : strOfNums x.1 = nm) (hb : bytesL x.1) (hd : Rd .u8 W vd x.2) (hs : W.cell? ⟨B, 0, none⟩ = some (.string s)) :
    Calls Tryd.prog 47 #[.agg #[.string nm, vd], .pointer (some ⟨B, 0, none⟩)] W fun e w' => e = .returned (.bool (decide (x.1 = L s))) ∧ Below W.heap.size W w' := by
  have hq := str_eq8 nm s _ (L s) hb (LB_bytes s) e0 (nums_LB s)
  obtain ⟨da, dq, rfl⟩ := rd_slice hd
  have bx := box_below W (.cells #[.string nm, .slice da x.2.length dq] 33)
  have hs2 := below_cell bx hs
  have z0 := (stands_new W #[.string nm, .slice da x.2.length dq] 33).cell 0 _ rfl
  go_enter Tryd.func47, Tryd.ntmps47
  go_wp2_with fail
  go_ret
  exact ⟨rfl, bx⟩

set_option maxHeartbeats 1000000 in
set_option maxRecDepth 100000 in
theorem w_pindexP (v : Value) (l : List Pp) (s : ByteArray) (B : Nat) (w : World) (h : SlR 2 propR w v l) (bl : ∀ x ∈ l, bytesL x.1) (hs : w.cell? ⟨B, 0, none⟩ = some (.string s)) :
    Calls Tryd.prog 46 #[v, .func (.func 47) #[] #[.pointer (some ⟨B, 0, none⟩)]] w fun e w' => e = .returned (.int .i64 (fdI (pfF l (L s)))) ∧ Below w.heap.size w w' := by
  have eg : ∀ args w, (callFunc 47 args).run Tryd.prog w = .ok (.enter 47 args) w := enters_of Tryd.func47 (by kernel_rfl) rfl
  have hl := slr_len h uR (P := Tryd.prog)
  have hm := slr_max h
  unfold maxLen at hm
  obtain ⟨R, hR⟩ : ∃ R, fdI (pfF l (L s)) = R := ⟨_, rfl⟩
  rw [hR]
  have HR := hid hR
  clear hR
  go_enter Tryd.func46, Tryd.ntmps46
  go_wp2_with fail
  go_loopw [8] (fun I wx => ∃ k : Nat, (k : Int) ≤ l.length ∧ I = .int .i64 k ∧ Hid (∀ j (hj : j < k) (g : j < l.length), ¬ l[j].1 = L s) ∧ Below w.heap.size w wx) (fun I _ => (l.length - intOf I).toNat)
  case atStart => exact ⟨0, by omega, rfl, hid (fun j hj => by omega), Below.refl _ _⟩
  case round =>
    obtain ⟨k, hk, rfl, hp, hg⟩ := hrel
    by_cases hlt : (k : Int) < l.length
    · have hkl : k < l.length := by omega
      obtain ⟨b, o, nm, vd, r, f0, f1, e0, hd0⟩ := prp_at8 (h.below hg (propR_below hg)) k hkl
      have hc := w_pplace1 nm s vd l[k] B wr e0 (bl _ (List.getElem_mem hkl)) hd0 (below_cell hg hs)
      obtain ⟨da, dq, rfl⟩ := rd_slice hd0
      by_cases hx : l[k].1 = L s
      · have hf : Hid (R = k) := by
          show _ = _
          rw [← HR.out, pf_hit hkl hx (fun j hj => hp.out j hj (by omega))]
          rfl
        rw [decide_eq_true hx] at hc
        clear hx e0
        go_wp2_with (go_at_fn 47; refine hc.mono ?_; rintro e w1 ⟨rfl, b1⟩)
        go_ret
        rw [hf.out]
        exact ⟨rfl, below_trans hg b1⟩
      · rw [decide_eq_false hx] at hc
        have hp2 : Hid (∀ j (hj : j < k + 1) (g : j < l.length), ¬ l[j].1 = L s) := by
          show ∀ j _ _, _
          intro j hj g
          by_cases hjk : j < k
          · exact hp.out j hjk g
          · have : j = k := by omega
            subst this
            exact hx
        clear hx e0
        go_wp2_with (go_at_fn 47; refine hc.mono ?_; rintro e w1 ⟨rfl, b1⟩)
        go_roundw
        case rel => exact ⟨k + 1, by omega, by go_num, hp2, below_trans hg b1⟩
        case measure => simp [intOf]; omega
    · have hf : Hid (R = -1) := by
        show _ = _
        have : pfF l (L s) = none := by
          rw [pf_none]
          intro x hx
          obtain ⟨j, hj, rfl⟩ := List.getElem_of_mem hx
          exact hp.out j (by omega) hj
        rw [← HR.out, this]
        rfl
      go_wp2_with fail
      go_ret
      rw [hf.out]
      exact ⟨rfl, hg⟩

set_option maxHeartbeats 1000000 in
theorem w_pplace (v : Value) (l : List Pp) (s : ByteArray) (w : World) (h : SlR 2 propR w v l) (bl : ∀ x ∈ l, bytesL x.1) :
    Calls Tryd.prog 26 #[v, .string s] w fun e w' => e = .returned (.int .i64 (fdI (pfF l (L s)))) ∧ Below w.heap.size w w' := by
  have hmf : ∀ (fn : Fn) (first cap : Array Value) (w : World), (Instr.makeFunc fn first cap).run Tryd.prog w = .ok (.func fn first cap) w := fun _ _ _ _ => rfl
  have bx := box_below w (.cells #[.string s] 9)
  have z0 := (stands_new w #[.string s] 9).cell 0 _ rfl
  have hc := w_pindexP v l s w.heap.size _ (h.below bx (propR_below bx)) bl z0
  go_enter Tryd.func26, Tryd.ntmps26
  go_wp2_with (go_at_call 46; refine hc.mono ?_; rintro e w1 ⟨rfl, b1⟩)
  go_ret
  exact ⟨rfl, below_trans bx b1⟩

set_option maxHeartbeats 1000000 in
set_option maxRecDepth 100000 in
theorem w_pcalled1 (nm s : ByteArray) (vu vp vc vw : Value) (x : Nd) (un : List Int) (B B2 : Nat) (W : World) (e0 : strOfNums x.1 = nm) (hb : bytesL x.1) (hu : Rd .u32 W vu x.2.1) (hp : SlR 2 propR W vp x.2.2.2.1) (hc : Rd .u32 W vc x.2.2.2.2) (hs : W.cell? ⟨B, 0, none⟩ = some (.string s)) (hs2 : W.cell? ⟨B2, 0, none⟩ = some vw) (hw : Rd .u32 W vw un) :
    Calls Tryd.prog 41 #[.agg #[.string nm, vu, .int .i64 x.2.2.1, vp, vc], .pointer (some ⟨B, 0, none⟩), .pointer (some ⟨B2, 0, none⟩)] W fun e w' => e = .returned (.bool (decide (x.1 = L s) && decide (x.2.1 = un))) ∧ Below W.heap.size W w' := by
  have hq := str_eq8 nm s _ (L s) hb (LB_bytes s) e0 (nums_LB s)
  obtain ⟨ua, uq, rfl⟩ := rd_slice hu
  obtain ⟨pa, pq, rfl⟩ := slr_slice hp
  obtain ⟨ca, cq, rfl⟩ := rd_slice hc
  obtain ⟨wa, wq, rfl⟩ := rd_slice hw
  obtain ⟨X, hX⟩ : ∃ X, x.2.2.1 = X := ⟨_, rfl⟩
  rw [hX]
  have st := stands_new W #[.string nm, .slice ua x.2.1.length uq, .int .i64 X, .slice pa x.2.2.2.1.length pq, .slice ca x.2.2.2.2.length cq] 30
  have bx := box_below W (.cells #[.string nm, .slice ua x.2.1.length uq, .int .i64 X, .slice pa x.2.2.2.1.length pq, .slice ca x.2.2.2.2.length cq] 30)
  have z0 := st.cell 0 _ rfl
  have z1 := st.cell 1 _ rfl
  have l0 := below_cell bx hs
  have l1 := below_cell bx hs2
  by_cases h1 : x.1 = L s
  · rw [decide_eq_true h1] at hq ⊢
    have ce := w_pequal _ _ _ _ _ (hu.below bx) (hw.below bx)
    rw [Bool.true_and]
    obtain ⟨b, hb⟩ : ∃ b, decide (x.2.1 = un) = b := ⟨_, rfl⟩
    rw [hb] at ce ⊢
    clear h1 hb e0 hX
    go_enter Tryd.func41, Tryd.ntmps41
    go_wp2_with (go_at_call 42; refine ce.mono ?_; rintro e w1 ⟨rfl, d1⟩)
    go_ret
    exact ⟨rfl, below_trans bx (dr_below d1)⟩
  · rw [decide_eq_false h1] at hq ⊢
    clear h1 e0 hX
    go_enter Tryd.func41, Tryd.ntmps41
    go_wp2_with fail
    go_ret
    exact ⟨rfl, bx⟩

set_option maxHeartbeats 1000000 in
set_option maxRecDepth 100000 in
theorem w_pcalled (s : ByteArray) (vw : Value) (un : List Int) (t : List Nd) (w : World) (hw : Rd .u32 w vw un) (bt : ∀ x ∈ t, bytN x) :
    Calls Tryd.prog 23 #[.string s, vw] w fun e w' => ∃ lb, e = .returned (.func (.func 41) #[] lb) ∧ AskN w' 41 lb (fun x => decide (x.1 = L s) && decide (x.2.1 = un)) t ∧ Below w.heap.size w w' := by
  have hmf : ∀ (fn : Fn) (first cap : Array Value) (w : World), (Instr.makeFunc fn first cap).run Tryd.prog w = .ok (.func fn first cap) w := fun _ _ _ _ => rfl
  obtain ⟨wa, wq, rfl⟩ := rd_slice hw
  have b1 := box_below w (.cells #[.string s] 9)
  have b2 := box_below (w.alloc (.cells #[.string s] 9)) (.cells #[.slice wa un.length wq] 27)
  have z1 := ((stands_new w #[.string s] 9).below b2).cell 0 _ rfl
  have z2 := (stands_new (w.alloc (.cells #[.string s] 9)) #[.slice wa un.length wq] 27).cell 0 _ rfl
  rw [size_al] at z2
  have b3 := below_trans b1 b2
  have ha : AskN ((w.alloc (.cells #[.string s] 9)).alloc (.cells #[.slice wa un.length wq] 27)) 41 #[.pointer (some ⟨w.heap.size, 0, none⟩), .pointer (some ⟨w.heap.size + 1, 0, none⟩)] (fun x => decide (x.1 = L s) && decide (x.2.1 = un)) t := by
    intro W nm vu vp vc x hb hx e0 hu hp hc
    exact w_pcalled1 nm s vu vp vc _ x un _ _ W e0 (bt x hx).1 hu hp hc (below_cell hb z1) (below_cell hb z2) ((hw.below b3).below hb)
  clear z1 z2
  go_enter Tryd.func23, Tryd.ntmps23
  go_wp2_with fail
  go_ret
  exact ⟨_, rfl, ha, b3⟩

set_option maxHeartbeats 1000000 in
set_option maxRecDepth 100000 in
theorem w_pmeant1 (nm s : ByteArray) (vu vp vc : Value) (x : Nd) (B : Nat) (W : World) (e0 : strOfNums x.1 = nm) (hb : bytesL x.1) (hu : Rd .u32 W vu x.2.1) (hp : SlR 2 propR W vp x.2.2.2.1) (hc : Rd .u32 W vc x.2.2.2.2) (hs : W.cell? ⟨B, 0, none⟩ = some (.string s)) :
    Calls Tryd.prog 39 #[.agg #[.string nm, vu, .int .i64 x.2.2.1, vp, vc], .pointer (some ⟨B, 0, none⟩)] W fun e w' => e = .returned (.bool (decide (x.1 = L s))) ∧ Below W.heap.size W w' := by
  have hq := str_eq8 nm s _ (L s) hb (LB_bytes s) e0 (nums_LB s)
  obtain ⟨ua, uq, rfl⟩ := rd_slice hu
  obtain ⟨pa, pq, rfl⟩ := slr_slice hp
  obtain ⟨ca, cq, rfl⟩ := rd_slice hc
  obtain ⟨X, hX⟩ : ∃ X, x.2.2.1 = X := ⟨_, rfl⟩
  rw [hX]
  have st := stands_new W #[.string nm, .slice ua x.2.1.length uq, .int .i64 X, .slice pa x.2.2.2.1.length pq, .slice ca x.2.2.2.2.length cq] 30
  have bx := box_below W (.cells #[.string nm, .slice ua x.2.1.length uq, .int .i64 X, .slice pa x.2.2.2.1.length pq, .slice ca x.2.2.2.2.length cq] 30)
  have z0 := st.cell 0 _ rfl
  have l0 := below_cell bx hs
  clear hX e0
  go_enter Tryd.func39, Tryd.ntmps39
  go_wp2_with fail
  go_ret
  exact ⟨rfl, bx⟩

set_option maxHeartbeats 1000000 in
set_option maxRecDepth 100000 in
theorem w_pchild1 (nm : ByteArray) (vu vp vc : Value) (x : Nd) (P : Int) (g : Nat) (lb : Array Value) (q : Bool) (B B2 : Nat) (W : World) (eg : ∀ args w, (callFunc g args).run Tryd.prog w = .ok (.enter g args) w) (hu : Rd .u32 W vu x.2.1) (hp : SlR 2 propR W vp x.2.2.2.1) (hc : Rd .u32 W vc x.2.2.2.2) (hs : W.cell? ⟨B, 0, none⟩ = some (.int .i64 P)) (hs2 : W.cell? ⟨B2, 0, none⟩ = some (.func (.func g) #[] lb))
    (ha : ∀ W2, Below W.heap.size W W2 → Calls Tryd.prog g (#[.agg #[.string nm, vu, .int .i64 x.2.2.1, vp, vc]] ++ lb) W2 fun e w' => e = .returned (.bool q) ∧ Below W2.heap.size W2 w') :
    Calls Tryd.prog 38 #[.agg #[.string nm, vu, .int .i64 x.2.2.1, vp, vc], .pointer (some ⟨B, 0, none⟩), .pointer (some ⟨B2, 0, none⟩)] W fun e w' => e = .returned (.bool (decide (x.2.2.1 = P) && q)) ∧ Below W.heap.size W w' := by
  obtain ⟨ua, uq, rfl⟩ := rd_slice hu
  obtain ⟨pa, pq, rfl⟩ := slr_slice hp
  obtain ⟨ca, cq, rfl⟩ := rd_slice hc
  obtain ⟨X, hX⟩ : ∃ X, x.2.2.1 = X := ⟨_, rfl⟩
  rw [hX] at ha ⊢
  have st := stands_new W #[.string nm, .slice ua x.2.1.length uq, .int .i64 X, .slice pa x.2.2.2.1.length pq, .slice ca x.2.2.2.2.length cq] 30
  have bx := box_below W (.cells #[.string nm, .slice ua x.2.1.length uq, .int .i64 X, .slice pa x.2.2.2.1.length pq, .slice ca x.2.2.2.2.length cq] 30)
  have z0 := st.cell 0 _ rfl
  have z1 := st.cell 1 _ rfl
  have z2 := st.cell 2 _ rfl
  have z3 := st.cell 3 _ rfl
  have z4 := st.cell 4 _ rfl
  have l0 := below_cell bx hs
  have l1 := below_cell bx hs2
  have hca := ha _ bx
  by_cases h1 : X = P
  · have hq : (X == P) = true := by simpa using h1
    rw [decide_eq_true h1, Bool.true_and]
    clear h1 hX ha
    go_enter Tryd.func38, Tryd.ntmps38
    go_wp2_with (go_at_fn g; refine hca.mono ?_; rintro e w1 ⟨rfl, d1⟩)
    go_ret
    exact ⟨rfl, below_trans bx d1⟩
  · have hq : (X == P) = false := by simpa using h1
    rw [decide_eq_false h1, Bool.false_and]
    clear h1 hX ha hca
    go_enter Tryd.func38, Tryd.ntmps38
    go_wp2_with fail
    go_ret
    exact ⟨rfl, bx⟩

set_option maxHeartbeats 1000000 in
set_option maxRecDepth 100000 in
theorem w_pchild (v : Value) (t : List Nd) (P : Int) (g : Nat) (lb : Array Value) (p : Nd → Bool) (w : World) (eg : ∀ args w, (callFunc g args).run Tryd.prog w = .ok (.enter g args) w) (h : RdT w v t) (hp : AskN w g lb p t) :
    Calls Tryd.prog 20 #[v, .int .i64 P, .func (.func g) #[] lb] w fun e w' => e = .returned (.int .i64 (fdI (t.findIdx? (fun x => decide (x.2.2.1 = P) && p x)))) ∧ Below w.heap.size w w' := by
  have hmf : ∀ (fn : Fn) (first cap : Array Value) (w : World), (Instr.makeFunc fn first cap).run Tryd.prog w = .ok (.func fn first cap) w := fun _ _ _ _ => rfl
  have ec : ∀ args w, (callFunc 38 args).run Tryd.prog w = .ok (.enter 38 args) w := enters_of Tryd.func38 (by kernel_rfl) rfl
  obtain ⟨F, hF⟩ : ∃ F, 57 = F := ⟨_, rfl⟩
  have b1 := box_below w (.cells #[.int .i64 P] 3)
  have b2 := box_below (w.alloc (.cells #[.int .i64 P] 3)) (.cells #[.func (.func g) #[] lb] F)
  have z1 := ((stands_new w #[.int .i64 P] 3).below b2).cell 0 _ rfl
  have z2 := (stands_new (w.alloc (.cells #[.int .i64 P] 3)) #[.func (.func g) #[] lb] F).cell 0 _ rfl
  rw [size_al] at z2
  have b3 := below_trans b1 b2
  have ha : AskN ((w.alloc (.cells #[.int .i64 P] 3)).alloc (.cells #[.func (.func g) #[] lb] F)) 38 #[.pointer (some ⟨w.heap.size, 0, none⟩), .pointer (some ⟨w.heap.size + 1, 0, none⟩)] (fun x => decide (x.2.2.1 = P) && p x) t := by
    intro W nm vu vp vc x hb hx e0 hu hq hc
    exact w_pchild1 nm vu vp vc x P g lb (p x) _ _ W eg hu hq hc (below_cell hb z1) (below_cell hb z2) (fun W2 g2 => hp W2 nm vu vp vc x (below_trans (below_trans b3 hb) g2) hx e0 (hu.below g2) (hq.below g2 (propR_below g2)) (hc.below g2))
  have hc := w_pindexN v t _ _ _ _ ec (h.below b3) ha
  clear z1 z2 ha hp
  subst hF
  go_enter Tryd.func20, Tryd.ntmps20
  go_wp2_with (go_at_call 37; refine hc.mono ?_; rintro e w1 ⟨rfl, d1⟩)
  go_ret
  exact ⟨rfl, below_trans b3 d1⟩

/-
  Named of the document's answer for properties, that it only draws: for regions that draw their order.
-/
set_option maxHeartbeats 1000000 in
set_option maxRecDepth 100000 in
theorem w_rnamedQ (s : ByteArray) (w : World) (hs : s.size ≤ maxLen) :
    Calls Tryd.prog 33 #[.string s] w fun e w' => e = .returned (.bool (nmF (L s))) ∧ Dr w w' := by
  have hs2 := hs
  unfold maxLen at hs2
  have z0 := run_bad 0 (by omega)
  have z1 := run_bad 1 (by omega)
  have z2 := run_bad 2 (by omega)
  have z3 := run_bad 3 (by omega)
  have z4 := run_bad 4 (by omega)
  have z5 := run_bad 5 (by omega)
  simp only [List.getD_eq_getElem?_getD, List.getElem?_cons_zero, List.getElem?_cons_succ, Option.getD_some, Int.cast_ofNat_Int] at z0 z1 z2 z3 z4 z5
  by_cases h1 : 1 ≤ s.size ∧ s.size ≤ 31
  · obtain ⟨h1, h31⟩ := h1
    go_enter Tryd.func33, Tryd.ntmps33
    go_wp2_with fail
    go_loopw [3] (fun I wx => ∃ (k : Nat), (k : Int) ≤ s.size ∧ I = .int .i64 k ∧ Hid (((L s).take k).all nmC = true) ∧ Dr w wx) (fun I _ => (s.size - intOf I).toNat)
    case atStart => exact ⟨0, by omega, rfl, hid rfl, dr_refl _⟩
    case round =>
      obtain ⟨k, hk, rfl, ha, hb⟩ := hrel
      by_cases hlt : (k : Int) < s.size
      · have hkk : k < s.size := by omega
        obtain ⟨c, hc⟩ : ∃ c, (s[k].toNat : Int) = c := ⟨_, rfl⟩
        have hcb := L_bd s k hkk
        rw [hc] at hcb
        obtain ⟨c0, c1⟩ := hcb
        have hLd : Hid (L s = (L s).take k ++ c :: (L s).drop (k + 1)) := by
          show _ = _
          rw [← hc, ← L_drop s k hkk, List.take_append_drop]
        have hLt : Hid ((L s).take (k + 1) = (L s).take k ++ [c]) := by show _ = _; rw [← hc]; exact L_take s k hkk
        cases hcc : nmC c
        · have hf : Hid (nmF (L s) = false) := by show _ = _; rw [hLd.out]; exact nm_mid _ _ _ hcc
          have hcs : c < 33 ∨ 126 < c ∨ (65 ≤ c ∧ c ≤ 90) ∨ c = 47 ∨ c = 92 ∨ c = 58 ∨ c = 91 ∨ c = 93 ∨ c = 64 := by simp [nmC] at hcc; omega
          have hrun := run_at (w := wr) s k hkk hs
          rw [hc] at hrun
          clear hcc hLd hLt hc
          rcases hcs with h | h | h | h | h | h | h | h | h
          · go_wp2_with fail
            go_ret
            exact ⟨ret_b hf.out.symm, hb⟩
          · go_wp2_with fail
            go_ret
            exact ⟨ret_b hf.out.symm, hb⟩
          · obtain ⟨h, h'⟩ := h
            go_wp2_with fail
            go_ret
            exact ⟨ret_b hf.out.symm, hb⟩
          all_goals subst h
          all_goals go_wp2_with fail
          all_goals go_rounds 7
          all_goals go_ret
          all_goals exact ⟨ret_b hf.out.symm, hb⟩
        · have ha2 : Hid (((L s).take (k + 1)).all nmC = true) := by
            show _ = _
            rw [hLt.out, List.all_append, ha.out]
            simp [hcc]
          simp [nmC] at hcc
          have hrun := run_at (w := wr) s k hkk hs
          rw [hc] at hrun
          obtain ⟨q1, q2, q3, n1, n2, n3, n4, n5, n6⟩ := hcc
          clear hLd hLt hc
          rcases q3 with hq | hq
          all_goals go_wp2_with fail
          all_goals go_rounds 7
          all_goals go_roundw
          case rel => exact ⟨k + 1, by omega, by go_num, ha2, hb⟩
          case measure => simp [intOf]; omega
          case rel => exact ⟨k + 1, by omega, by go_num, ha2, hb⟩
          case measure => simp [intOf]; omega
      · have hf : Hid (nmF (L s) = true) := by
          show _ = _
          have := ha.out
          rw [List.take_of_length_le (by rw [L_len]; omega)] at this
          unfold nmF
          rw [this, L_len]
          simp
          omega
        go_wp2_with fail
        go_ret
        exact ⟨ret_b hf.out.symm, hb⟩
  · have hf : Hid (nmF (L s) = false) := by
      show _ = _
      unfold nmF
      rw [L_len]
      simp
      omega
    by_cases h0 : s.size < 1
    · go_enter Tryd.func33, Tryd.ntmps33
      go_wp2_with fail
      go_ret
      exact ⟨ret_b hf.out.symm, dr_refl _⟩
    · have h32 : (31 : Int) < s.size := by omega
      go_enter Tryd.func33, Tryd.ntmps33
      go_wp2_with fail
      go_ret
      exact ⟨ret_b hf.out.symm, dr_refl _⟩

/-
  Formed of the document's answer for trees.
-/
/-- the first ones of a slice -/
theorem slr_head {α : Type} {P : Program} {R : World → List Value → α → Prop} {w : World} {v : Value} {xs : List α} {sz : Nat} (h : SlR sz R w v xs) {t : TypeId} (ht : P.underlying t = some (.slice (P.elem t))) (hs : ∀ w, (sizeOf (P.elem t)).run P w = .ok sz w) (n : Nat) (hn : n ≤ xs.length) :
    ∃ v', (∀ w', (Instr.slice t v none (some (.int .i64 (n : Int))) none).run P w' = .ok v' w') ∧ SlR sz R w v' (xs.take n) := by
  obtain ⟨rows, h1, h2, h3⟩ := h
  obtain ⟨ao, cap, rfl, hc, hno, hx⟩ := h1.form
  refine ⟨sliced ao 0 n cap sz, fun w' => ?_, rows.take n, ?_, by simp [h2], fun i hi => ?_⟩
  · rw [run_slice_h w' t ao rows.length cap ht .i64 (n : Int) (by omega) (by omega), hs]
    simp [Result.andThen]
  · rcases Nat.eq_zero_or_pos n with h0 | h0
    · subst h0
      refine Or.inl ⟨if cap = 0 then ao else ao.map (·.add (0 * sz)), cap, by simp [sliced], ?_, by simp⟩
      intro he
      by_cases hc0 : cap = 0
      · exact hc0
      · rw [if_neg hc0] at he
        cases ao with
        | none => exact hno rfl
        | some a => cases he
    · obtain ⟨hm, b, off, rfl, hcell⟩ := hx (by omega)
      have hl : (rows.take n).length = n := by simp; omega
      refine Or.inr ⟨b, off, cap, ?_, by omega, by omega, hm, fun i hi => ?_⟩
      · rw [sliced, hl, if_neg (by omega)]
        simp [Addr.add]
      · rw [hl] at hi
        have e : (rows.take n).getD i [] = rows.getD i [] := by
          rw [List.getD_eq_getElem?_getD, List.getD_eq_getElem?_getD, List.getElem?_take, if_pos hi]
        rw [e]
        exact hcell i (by omega)
  · have hi2 : i < n := by simp at hi; omega
    have e : (rows.take n).getD i [] = rows.getD i [] := by
      rw [List.getD_eq_getElem?_getD, List.getD_eq_getElem?_getD, List.getElem?_take, if_pos hi2]
    rw [e, List.getElem_take]
    exact h3 i (by simp at hi; omega)
theorem frm_bad {t : List Nd} (i : Nat) (h : i < t.length) (hb : okN t i t[i] = false) : frmT t = false := by
  rw [Bool.eq_false_iff]
  intro hf
  obtain ⟨_, _, _, g⟩ := (frm_iff t).1 hf
  have := g i h
  rw [hb] at this
  cases this
theorem frm_len {t : List Nd} (h : t.length = 0 ∨ 32 < t.length) : frmT t = false := by
  rw [Bool.eq_false_iff]
  intro hf
  obtain ⟨g0, g1, _⟩ := (frm_iff t).1 hf
  omega
theorem frm_root {t : List Nd} (h : 0 < t.length) (hb : rootF t[0] = false) : frmT t = false := by
  rw [Bool.eq_false_iff]
  intro hf
  obtain ⟨_, _, g, _⟩ := (frm_iff t).1 hf
  rw [hb] at g
  cases g
theorem okN_A {t : List Nd} {i : Nat} {x : Nd} (h0 : ¬ i = 0) (h : okA t i x = false) : okN t i x = false := by
  unfold okN
  rw [h, decide_eq_false h0]
  rfl
theorem okN_16 {t : List Nd} {i : Nat} {x : Nd} (h : 16 < x.2.2.2.1.length ∨ 16 < x.2.2.2.2.length) : okN t i x = false := by
  rw [Bool.eq_false_iff]
  intro g
  unfold okN at g
  simp only [Bool.and_eq_true, decide_eq_true_eq] at g
  omega
theorem okN_R {t : List Nd} {i : Nat} {x : Nd} (h : okR x.2.2.2.1 = false) : okN t i x = false := by
  unfold okN
  rw [h]
  simp
theorem okR_bad {l : List Pp} (k : Nat) (h : k < l.length) (hb : okP l k l[k] = false) : okR l = false := by
  rw [Bool.eq_false_iff]
  intro g
  unfold okR at g
  rw [decide_eq_true_eq] at g
  have := g k h
  rw [hb] at this
  cases this
theorem okA_bad {t : List Nd} {i : Nat} {x : Nd} (h : nmF x.1 = false ∨ 4 < x.2.1.length ∨ x.2.2.1 < 0 ∨ (i : Int) ≤ x.2.2.1 ∨ twF (t.take i) x.2.2.1 x.1 x.2.1 = true) : okA t i x = false := by
  rw [Bool.eq_false_iff]
  intro g
  unfold okA at g
  simp only [Bool.and_eq_true, decide_eq_true_eq, Bool.not_eq_true'] at g
  obtain ⟨g1, g2, g3, g4, g5⟩ := g
  rcases h with h | h | h | h | h
  · rw [g1] at h; cases h
  · omega
  · omega
  · omega
  · rw [g5] at h; cases h
theorem okP_bad {l : List Pp} {k : Nat} {x : Pp} (h : nmF x.1 = false ∨ 256 < x.2.length ∨ (0 : Int) ≤ fdI (pfF (l.take k) x.1)) : okP l k x = false := by
  rw [Bool.eq_false_iff]
  intro g
  unfold okP at g
  simp only [Bool.and_eq_true, decide_eq_true_eq, Option.isNone_iff_eq_none] at g
  obtain ⟨g1, g2, g3⟩ := g
  rcases h with h | h | h
  · rw [g1] at h; cases h
  · omega
  · rw [g3] at h
    unfold fdI at h
    simp at h
theorem okP_good {l : List Pp} {k : Nat} {x : Pp} (h1 : nmF x.1 = true) (h2 : ¬ 256 < x.2.length) (h3 : ¬ (0 : Int) ≤ fdI (pfF (l.take k) x.1)) : okP l k x = true := by
  unfold okP
  simp only [Bool.and_eq_true, decide_eq_true_eq, Option.isNone_iff_eq_none]
  refine ⟨h1, by omega, ?_⟩
  cases hp : pfF (l.take k) x.1 with
  | none => rfl
  | some j =>
    rw [hp] at h3
    unfold fdI at h3
    simp at h3

/-
  Names, numbers, texts and rows of bytes, as package prop answers them.
-/
theorem barred : L ⟨#[47, 92, 58, 91, 93, 64]⟩ = [47, 92, 58, 91, 93, 64] := by decide +kernel
theorem atB_bar {c i : Int} (h : AtB (L ⟨#[47, 92, 58, 91, 93, 64]⟩) c i) (h0 : 33 ≤ c) (h1 : c ≤ 126) (h2 : ¬ (65 ≤ c ∧ c ≤ 90)) : decide (i < 0) = nmC c := by
  rw [barred] at h
  rcases h with ⟨rfl, h⟩ | ⟨k, rfl, hk, he, h⟩
  · have a := h 47 (by simp); have b := h 92 (by simp); have d := h 58 (by simp); have e := h 91 (by simp); have f := h 93 (by simp); have g := h 64 (by simp)
    unfold nmC
    simp
    omega
  · have hm : c ∈ ([47, 92, 58, 91, 93, 64] : List Int) := by rw [he]; simp
    have hc : c = 47 ∨ c = 92 ∨ c = 58 ∨ c = 91 ∨ c = 93 ∨ c = 64 := by simpa using hm
    have e : nmC c = false := by
      unfold nmC
      rw [decide_eq_false_iff_not]
      omega
    rw [e, decide_eq_false_iff_not]
    omega

set_option maxHeartbeats 1000000 in
set_option maxRecDepth 100000 in
theorem w_inn (c : Int) (w : World) (h0 : 0 ≤ c) (h1 : c < 256) : Calls Tryd.prog 52 #[.int .u8 c] w fun e w' => e = .returned (.bool (nmC c)) ∧ Below w.heap.size w w' := by
  rcases (show c < 33 ∨ 126 < c ∨ (65 ≤ c ∧ c ≤ 90) ∨ (33 ≤ c ∧ c < 65) ∨ (90 < c ∧ c ≤ 126) by omega) with h | h | ⟨h, g⟩ | ⟨h, g⟩ | ⟨h, g⟩
  · have e : nmC c = false := by unfold nmC; simp; omega
    rw [e]
    clear e
    go_enter Tryd.func52, Tryd.ntmps52
    go_wp2_with fail
    go_ret
    exact ⟨rfl, Below.refl _ _⟩
  · have e : nmC c = false := by unfold nmC; simp; omega
    rw [e]
    clear e
    go_enter Tryd.func52, Tryd.ntmps52
    go_wp2_with fail
    go_ret
    exact ⟨rfl, Below.refl _ _⟩
  · have e : nmC c = false := by unfold nmC; simp; omega
    rw [e]
    clear e
    go_enter Tryd.func52, Tryd.ntmps52
    go_wp2_with fail
    go_ret
    exact ⟨rfl, Below.refl _ _⟩
  · go_enter Tryd.func52, Tryd.ntmps52
    go_wp2_with (go_at_call 57; refine (w_sib _ c _ h0 h1).mono ?_; rintro e w1 ⟨i, rfl, hi, rfl⟩; have H := hid (atB_bar hi (by omega) (by omega) (by omega)); clear hi)
    go_ret
    exact ⟨ret_b (by first | exact H.out | (rw [← H.out, decide_eq_false (show ¬ c ≤ 90 by omega)]; rfl)), Below.refl _ _⟩
  · go_enter Tryd.func52, Tryd.ntmps52
    go_wp2_with (go_at_call 57; refine (w_sib _ c _ h0 h1).mono ?_; rintro e w1 ⟨i, rfl, hi, rfl⟩; have H := hid (atB_bar hi (by omega) (by omega) (by omega)); clear hi)
    go_ret
    exact ⟨ret_b (by first | exact H.out | (rw [← H.out, decide_eq_false (show ¬ c ≤ 90 by omega)]; rfl)), Below.refl _ _⟩

set_option maxHeartbeats 1000000 in
set_option maxRecDepth 100000 in
theorem w_pnamed (s : ByteArray) (w : World) (hs : s.size ≤ maxLen) :
    Calls Tryd.prog 40 #[.string s] w fun e w' => e = .returned (.bool (nmF (L s))) ∧ Below w.heap.size w w' := by
  have hs2 := hs
  unfold maxLen at hs2
  by_cases h0 : s.size = 0
  · have hs : s = ⟨#[]⟩ := by
      apply ByteArray.ext
      exact Array.eq_empty_of_size_eq_zero h0
    subst hs
    go_enter Tryd.func40, Tryd.ntmps40
    go_wp2_with fail
    go_ret
    exact ⟨rfl, Below.refl _ _⟩
  · have hemp : s.toList.isEmpty = false := by
      rw [← decide_eq_emptyBytes]
      exact decide_eq_false (fun h => h0 (by rw [h]; rfl))
    by_cases h31 : (31 : Int) < s.size
    · have e : nmF (L s) = false := by unfold nmF; rw [L_len, show decide (1 ≤ s.size ∧ s.size ≤ 31) = false by simp; omega]; rfl
      rw [e]
      clear e
      go_enter Tryd.func40, Tryd.ntmps40
      go_wp2_with fail
      go_ret
      exact ⟨rfl, Below.refl _ _⟩
    · go_enter Tryd.func40, Tryd.ntmps40
      go_wp2_with fail
      go_loopw [13] (fun I wx => ∃ (k : Nat), (k : Int) ≤ s.size ∧ I = .int .i64 k ∧ Hid (((L s).take k).all nmC = true) ∧ Below w.heap.size w wx) (fun I _ => (s.size - intOf I).toNat)
      case atStart => exact ⟨0, by omega, rfl, hid rfl, Below.refl _ _⟩
      case round =>
        obtain ⟨k, hk, rfl, ha, hb⟩ := hrel
        by_cases hlt : (k : Int) < s.size
        · have hkk : k < s.size := by omega
          obtain ⟨c, hc⟩ : ∃ c, (s[k].toNat : Int) = c := ⟨_, rfl⟩
          have hcb := L_bd s k hkk
          rw [hc] at hcb
          obtain ⟨c0, c1⟩ := hcb
          have hLd : Hid (L s = (L s).take k ++ c :: (L s).drop (k + 1)) := by
            show _ = _
            rw [← hc, ← L_drop s k hkk, List.take_append_drop]
          have hLt : Hid ((L s).take (k + 1) = (L s).take k ++ [c]) := by show _ = _; rw [← hc]; exact L_take s k hkk
          have hrun := run_at (w := wr) s k hkk hs
          rw [hc] at hrun
          have cn := w_inn c wr c0 c1
          cases hcc : nmC c
          · have hf : Hid (nmF (L s) = false) := by show _ = _; rw [hLd.out]; exact nm_mid _ _ _ hcc
            rw [hcc] at cn
            clear hcc hLd hLt hc
            go_wp2_with (go_at_call 52; refine cn.mono ?_; rintro e w1 ⟨rfl, b1⟩)
            go_ret
            exact ⟨ret_b hf.out.symm, below_trans hb b1⟩
          · have ha2 : Hid (((L s).take (k + 1)).all nmC = true) := by
              show _ = _
              rw [hLt.out, List.all_append, ha.out]
              simp [hcc]
            rw [hcc] at cn
            clear hcc hLd hLt hc
            go_wp2_with (go_at_call 52; refine cn.mono ?_; rintro e w1 ⟨rfl, b1⟩)
            go_roundw
            case rel => exact ⟨k + 1, by omega, by go_num, ha2, below_trans hb b1⟩
            case measure => simp [intOf]; omega
        · have hall := ha.out
          rw [List.take_of_length_le (by rw [L_len]; omega)] at hall
          have hf : Hid (nmF (L s) = true) := by show _ = _; unfold nmF; rw [hall, L_len]; simp; omega
          clear hall
          obtain rfl : k = s.size := by omega
          go_wp2_with fail
          go_ret
          exact ⟨ret_b hf.out.symm, hb⟩

/-- bytes of a text -/
theorem rd_conv (w : World) (s : ByteArray) (hs : s.size ≤ maxLen) : Rd .u8 (Lib.bytesWorld w 5 s) (.slice (some ⟨w.heap.size, 0, none⟩) s.size (grownCap w s.size 0 5)) (L s) := by
  rcases Nat.eq_zero_or_pos s.size with h0 | h0
  · refine Or.inl ⟨_, _, by rw [h0], (fun h => by cases h), List.eq_nil_of_length_eq_zero (by rw [L_len]; exact h0)⟩
  · refine Or.inr ⟨w.heap.size, 0, _, by rw [L_len], by rw [L_len]; exact h0, by rw [L_len]; exact grownCap_ge _ _ _ _, grownCap_le_maxLen _ _ _ _ hs, fun i hi => ?_⟩
    rw [L_len] at hi
    rw [Nat.zero_add, Lib.bytesWorld_cell w 5 s i hi, L_getD s i hi, List.getD_eq_getElem?_getD, List.getElem?_eq_getElem (by rw [L_len]; exact hi), L_get s i hi]
    rfl
theorem byt0 : bytesL [0] := by
  intro x hx
  simp at hx
  omega
/-- two slices of bytes in a list that is written out -/
theorem slr_two (w : World) (a b : Value) (xa xb : List Int) (T : TypeId) (ha : Rd .u8 w a xa) (hxa : bytesL xa) (hb : Rd .u8 w b xb) (hxb : bytesL xb) : SlR 1 bytR (w.alloc (.cells #[a, b] T)) (.slice (some ⟨w.heap.size, 0, none⟩) 2 2) [xa, xb] := by
  have hg := box_below w (.cells #[a, b] T)
  refine ⟨[[a], [b]], Or.inr ⟨w.heap.size, 0, 2, rfl, by simp, by simp, by decide, fun i hi => ?_⟩, rfl, fun i hi => ?_⟩
  · have : i = 0 ∨ i = 1 := by simp at hi; omega
    rcases this with rfl | rfl
    · refine ⟨rfl, fun j hj => ?_⟩
      obtain rfl : j = 0 := by omega
      rw [World.cell?_alloc_new]
      rfl
    · refine ⟨rfl, fun j hj => ?_⟩
      obtain rfl : j = 0 := by omega
      rw [World.cell?_alloc_new]
      rfl
  · have : i = 0 ∨ i = 1 := by simp at hi; omega
    rcases this with rfl | rfl
    · exact ⟨a, rfl, ha.below hg, hxa⟩
    · exact ⟨b, rfl, hb.below hg, hxb⟩
theorem atB_zero {l : List Int} {i : Int} (h : AtB l 0 i) : (i < 0 ∧ l.all (fun c => decide (¬ c = 0)) = true) ∨ (0 ≤ i ∧ l.all (fun c => decide (¬ c = 0)) = false) := by
  rcases h with ⟨rfl, h⟩ | ⟨k, rfl, hk, he, h⟩
  · refine Or.inl ⟨by decide, ?_⟩
    rw [List.all_eq_true]
    intro x hx
    simpa using h x hx
  · refine Or.inr ⟨by omega, ?_⟩
    rw [he]
    simp

/-
  Package tree's meant, addressed, isRoot, placed and propsFormed.
-/
theorem eg_called : ∀ args w, (callFunc 41 args).run Tryd.prog w = .ok (.enter 41 args) w := enters_of Tryd.func41 (by kernel_rfl) rfl
theorem eg_meant : ∀ args w, (callFunc 39 args).run Tryd.prog w = .ok (.enter 39 args) w := enters_of Tryd.func39 (by kernel_rfl) rfl

set_option maxHeartbeats 1000000 in
set_option maxRecDepth 100000 in
theorem w_pmeant (nm ar : ByteArray) (vu : Value) (x : Sp) (t : List Nd) (w : World) (e0 : strOfNums x.1 = nm) (bx : bytesL x.1) (hu : Rd .u32 w vu x.2.1) (bt : ∀ x ∈ t, bytN x) :
    Calls Tryd.prog 21 #[.agg #[.string nm, vu, .string ar]] w fun e w' => ∃ g lb, e = .returned (.func (.func g) #[] lb) ∧ (∀ args w, (callFunc g args).run Tryd.prog w = .ok (.enter g args) w) ∧ AskN w' g lb (fun y => decide (y.1 = x.1) && (decide (x.2.1 = []) || decide (y.2.1 = x.2.1))) t ∧ Below w.heap.size w w' := by
  have hmf : ∀ (fn : Fn) (first cap : Array Value) (w : World), (Instr.makeFunc fn first cap).run Tryd.prog w = .ok (.func fn first cap) w := fun _ _ _ _ => rfl
  have hl := rd_len hu uU (P := Tryd.prog)
  obtain ⟨ua, uq, rfl⟩ := rd_slice hu
  have st := stands_new w #[.string nm, .slice ua x.2.1.length uq, .string ar] 43
  have bw := box_below w (.cells #[.string nm, .slice ua x.2.1.length uq, .string ar] 43)
  have z0 := st.cell 0 _ rfl
  have z1 := st.cell 1 _ rfl
  have hL : L nm = x.1 := by rw [← e0]; exact LB_nums x.1 bx
  by_cases h0 : (0 : Int) < x.2.1.length
  · have hne : ¬ x.2.1 = [] := by intro h; rw [h] at h0; simp at h0
    have cc := w_pcalled nm _ x.2.1 t _ (hu.below bw) bt
    have hA : Hid (∀ W lb, AskN W 41 lb (fun y => decide (y.1 = L nm) && decide (y.2.1 = x.2.1)) t → AskN W 41 lb (fun y => decide (y.1 = x.1) && (decide (x.2.1 = []) || decide (y.2.1 = x.2.1))) t) := by
      show ∀ W lb, _
      intro W lb h
      rw [decide_eq_false hne]
      simpa only [hL, Bool.false_or] using h
    clear hne hL e0
    go_enter Tryd.func21, Tryd.ntmps21
    go_wp2_with (go_at_call 23; refine cc.mono ?_; rintro e w1 ⟨lb, rfl, ha, b1⟩)
    go_ret
    exact ⟨_, lb, rfl, eg_called, hA.out _ _ ha, below_trans bw b1⟩
  · have he : x.2.1 = [] := List.eq_nil_of_length_eq_zero (by omega)
    have ha : Hid (AskN (w.alloc (.cells #[.string nm, .slice ua x.2.1.length uq, .string ar] 43)) 39 #[.pointer (some ⟨w.heap.size, 0, none⟩)] (fun y => decide (y.1 = x.1) && (decide (x.2.1 = []) || decide (y.2.1 = x.2.1))) t) := by
      show AskN _ _ _ _ _
      rw [he]
      intro W nm2 vu2 vp2 vc2 y hb hy e2 hu2 hp2 hc2
      have := w_pmeant1 nm2 nm vu2 vp2 vc2 y _ W e2 (bt y hy).1 hu2 hp2 hc2 (below_cell hb (by rw [he] at z0; exact z0))
      rw [hL] at this
      simpa using this
    clear he hL e0
    go_enter Tryd.func21, Tryd.ntmps21
    go_wp2_with fail
    go_ret
    exact ⟨_, _, rfl, eg_meant, ha.out, bw⟩

set_option maxHeartbeats 1000000 in
theorem w_paddressed (s : ByteArray) (vu : Value) (un : List Int) (w : World) (hs : s.size ≤ maxLen) (hu : Rd .u32 w vu un) :
    Calls Tryd.prog 22 #[.string s, vu] w fun e w' => e = .returned (.bool (nmF (L s) && decide (un.length ≤ 4))) ∧ Below w.heap.size w w' := by
  have hl := rd_len hu uU (P := Tryd.prog)
  have cn := w_pnamed s w hs
  cases hnm : nmF (L s)
  · rw [hnm] at cn
    clear hnm
    go_enter Tryd.func22, Tryd.ntmps22
    go_wp2_with (go_at_call 40; refine cn.mono ?_; rintro e w1 ⟨rfl, b1⟩)
    go_ret
    exact ⟨rfl, b1⟩
  · rw [hnm] at cn
    have he : Hid (decide ((un.length : Int) ≤ 4) = (true && decide (un.length ≤ 4))) := by
      show _ = _
      rw [Bool.true_and]
      exact decide_eq_decide.2 ⟨fun h => by omega, fun h => by omega⟩
    clear hnm
    go_enter Tryd.func22, Tryd.ntmps22
    go_wp2_with (go_at_call 40; refine cn.mono ?_; rintro e w1 ⟨rfl, b1⟩)
    go_ret
    exact ⟨ret_b he.out, b1⟩

set_option maxHeartbeats 1000000 in
set_option maxRecDepth 100000 in
theorem w_pisroot (nm : ByteArray) (vu vp vc : Value) (x : Nd) (w : World) (e0 : strOfNums x.1 = nm) (bx : bytesL x.1) (hu : Rd .u32 w vu x.2.1) (hp : SlR 2 propR w vp x.2.2.2.1) (hc : Rd .u32 w vc x.2.2.2.2) :
    Calls Tryd.prog 34 #[.agg #[.string nm, vu, .int .i64 x.2.2.1, vp, vc]] w fun e w' => e = .returned (.bool (rootF x)) ∧ Below w.heap.size w w' := by
  have hq := str_eq8 nm ⟨#[]⟩ _ (L ⟨#[]⟩) bx (LB_bytes _) e0 (nums_LB _)
  have hl := rd_len hu uU (P := Tryd.prog)
  obtain ⟨ua, uq, rfl⟩ := rd_slice hu
  obtain ⟨pa, pq, rfl⟩ := slr_slice hp
  obtain ⟨ca, cq, rfl⟩ := rd_slice hc
  obtain ⟨X, hX⟩ : ∃ X, x.2.2.1 = X := ⟨_, rfl⟩
  have hr : rootF x = (decide (x.1 = L ⟨#[]⟩) && (decide (x.2.1 = []) && decide (X = -1))) := by unfold rootF; rw [hX]; rfl
  rw [hr, hX]
  have st := stands_new w #[.string nm, .slice ua x.2.1.length uq, .int .i64 X, .slice pa x.2.2.2.1.length pq, .slice ca x.2.2.2.2.length cq] 30
  have bw := box_below w (.cells #[.string nm, .slice ua x.2.1.length uq, .int .i64 X, .slice pa x.2.2.2.1.length pq, .slice ca x.2.2.2.2.length cq] 30)
  have z0 := st.cell 0 _ rfl
  have z1 := st.cell 1 _ rfl
  have z2 := st.cell 2 _ rfl
  by_cases h1 : x.1 = L ⟨#[]⟩
  · rw [decide_eq_true h1] at hq ⊢
    have hnm : nm = ⟨#[]⟩ := by rw [← e0, h1]; exact nums_LB _
    clear e0
    subst hnm
    by_cases h2 : x.2.1 = []
    · have h2b : ((x.2.1.length : Int) == 0) = true := by rw [h2]; rfl
      rw [decide_eq_true h2]
      obtain ⟨n, hn⟩ : ∃ n, x.2.1.length = n := ⟨_, rfl⟩
      rw [hn] at hl z0 z1 z2 h2b st bw ⊢
      clear h1 h2 hX hr hn hq
      go_enter Tryd.func34, Tryd.ntmps34
      go_wp2_with fail
      go_ret
      exact ⟨ret_b (by by_cases h : X = -1 <;> simp [h]), bw⟩
    · have h2b : ((x.2.1.length : Int) == 0) = false := by simp; exact h2
      rw [decide_eq_false h2]
      obtain ⟨n, hn⟩ : ∃ n, x.2.1.length = n := ⟨_, rfl⟩
      rw [hn] at hl z0 z1 z2 h2b st bw ⊢
      clear h1 h2 hX hr hn hq
      go_enter Tryd.func34, Tryd.ntmps34
      go_wp2_with fail
      go_ret
      exact ⟨rfl, bw⟩
  · rw [decide_eq_false h1] at hq ⊢
    have hE : ¬ nm.toList = [] := by intro h; rw [h] at hq; exact absurd hq (by decide +kernel)
    clear h1 e0 hX hr hq
    go_enter Tryd.func34, Tryd.ntmps34
    go_wp2_with fail
    go_ret
    exact ⟨rfl, bw⟩

/-- such a child is there, or is not -/
theorem tw_idx (t : List Nd) (p : Int) (nm un : List Int) : twF t p nm un = (t.findIdx? (fun x => decide (x.2.2.1 = p) && (decide (x.1 = nm) && decide (x.2.1 = un)))).isSome := by
  unfold twF
  rw [List.findIdx?_isSome]
theorem fdI_none (o : Option Nat) : (fdI o == -1) = !o.isSome := by
  cases o with
  | none => rfl
  | some k =>
    simp only [fdI, Option.isSome_some, Bool.not_true]
    simp
theorem fdI_some (o : Option Nat) : (fdI o != -1) = o.isSome := by
  unfold bne
  rw [fdI_none, Bool.not_not]

set_option maxHeartbeats 2000000 in
set_option maxRecDepth 100000 in
theorem w_pplaced (v : Value) (t : List Nd) (nm : ByteArray) (vu vp vc : Value) (x : Nd) (w : World) (h : RdT w v t) (bt : ∀ x ∈ t, bytN x) (e0 : strOfNums x.1 = nm) (bx : bytesL x.1) (lx : x.1.length ≤ maxLen) (hu : Rd .u32 w vu x.2.1) (hp : SlR 2 propR w vp x.2.2.2.1) (hc : Rd .u32 w vc x.2.2.2.2) :
    Calls Tryd.prog 35 #[v, .agg #[.string nm, vu, .int .i64 x.2.2.1, vp, vc]] w fun e w' => e = .returned (.bool (nmF x.1 && (decide (x.2.1.length ≤ 4) && (decide (0 ≤ x.2.2.1) && (decide (x.2.2.1 < t.length) && !twF t x.2.2.1 x.1 x.2.1))))) ∧ Below w.heap.size w w' := by
  have hl := slr_len h uN (P := Tryd.prog)
  have hL : L nm = x.1 := by rw [← e0]; exact LB_nums x.1 bx
  have hsz : nm.size ≤ maxLen := by have := LB_len nm; rw [show LB nm = x.1 from hL] at this; omega
  obtain ⟨X, hX⟩ : ∃ X, x.2.2.1 = X := ⟨_, rfl⟩
  rw [hX]
  obtain ⟨ua, uq, rfl⟩ := rd_slice hu
  obtain ⟨pa, pq, rfl⟩ := slr_slice hp
  obtain ⟨ca, cq, rfl⟩ := rd_slice hc
  have st := stands_new w #[.string nm, .slice ua x.2.1.length uq, .int .i64 X, .slice pa x.2.2.2.1.length pq, .slice ca x.2.2.2.2.length cq] 30
  have bw := box_below w (.cells #[.string nm, .slice ua x.2.1.length uq, .int .i64 X, .slice pa x.2.2.2.1.length pq, .slice ca x.2.2.2.2.length cq] 30)
  have ca1 := w_paddressed nm _ x.2.1 _ hsz (hu.below bw)
  rw [hL] at ca1
  have z0 := st.cell 0 _ rfl
  have z1 := st.cell 1 _ rfl
  have z2 := st.cell 2 _ rfl
  cases hA : nmF x.1 && decide (x.2.1.length ≤ 4)
  · have hR : Hid ((nmF x.1 && (decide (x.2.1.length ≤ 4) && (decide (0 ≤ X) && (decide (X < t.length) && !twF t X x.1 x.2.1)))) = false) := by show _ = _; rw [← Bool.and_assoc, hA, Bool.false_and]
    rw [hA] at ca1
    clear hA hL e0 hX
    go_enter Tryd.func35, Tryd.ntmps35
    go_wp2_with (go_at_call 22; refine ca1.mono ?_; rintro e w1 ⟨rfl, b1⟩)
    go_ret
    exact ⟨ret_b hR.out.symm, below_trans bw b1⟩
  · rw [hA] at ca1
    have hR : Hid ((nmF x.1 && (decide (x.2.1.length ≤ 4) && (decide (0 ≤ X) && (decide (X < t.length) && !twF t X x.1 x.2.1)))) = (decide (0 ≤ X) && (decide (X < t.length) && !twF t X x.1 x.2.1))) := by show _ = _; rw [← Bool.and_assoc, hA, Bool.true_and]
    clear hA
    by_cases h0 : X < 0
    · have hR2 : Hid ((decide (0 ≤ X) && (decide (X < t.length) && !twF t X x.1 x.2.1)) = false) := by show _ = _; rw [decide_eq_false (by omega), Bool.false_and]
      clear hL e0 hX
      go_enter Tryd.func35, Tryd.ntmps35
      go_wp2_with (go_at_call 22; refine ca1.mono ?_; rintro e w1 ⟨rfl, b1⟩; have st1 := st.below b1; have y0 := st1.cell 0 _ rfl; have y1 := st1.cell 1 _ rfl; have y2 := st1.cell 2 _ rfl)
      go_ret
      exact ⟨ret_b (by rw [hR.out, hR2.out]), below_trans bw b1⟩
    · by_cases h1 : (t.length : Int) ≤ X
      · have hR2 : Hid ((decide (0 ≤ X) && (decide (X < t.length) && !twF t X x.1 x.2.1)) = false) := by show _ = _; rw [decide_eq_false (show ¬ X < t.length by omega), Bool.false_and, Bool.and_false]
        clear hL e0 hX
        go_enter Tryd.func35, Tryd.ntmps35
        go_wp2_with (go_at_call 22; refine ca1.mono ?_; rintro e w1 ⟨rfl, b1⟩; have st1 := st.below b1; have y0 := st1.cell 0 _ rfl; have y1 := st1.cell 1 _ rfl; have y2 := st1.cell 2 _ rfl)
        go_ret
        exact ⟨ret_b (by rw [hR.out, hR2.out]), below_trans bw b1⟩
      · have hR2 : Hid ((decide (0 ≤ X) && (decide (X < t.length) && !twF t X x.1 x.2.1)) = !twF t X x.1 x.2.1) := by show _ = _; rw [decide_eq_true (show 0 ≤ X by omega), decide_eq_true (show X < t.length by omega), Bool.true_and, Bool.true_and]
        have cc := fun W (g : Below w.heap.size w W) => w_pcalled nm _ x.2.1 t W (hu.below g) bt
        have ck := fun W lb (g : Below w.heap.size w W) ha => w_pchild v t X _ lb (fun y : Nd => decide (y.1 = x.1) && decide (y.2.1 = x.2.1)) W eg_called (h.below g) ha
        rw [hL] at cc
        have CC := hid cc
        have CK := hid ck
        have hT := hid (tw_idx t X x.1 x.2.1)
        clear hL e0 hX cc ck
        go_enter Tryd.func35, Tryd.ntmps35
        go_wp2_with (go_at_call 22; refine ca1.mono ?_; rintro e w1 ⟨rfl, b1⟩; have st1 := st.below b1; have y0 := st1.cell 0 _ rfl; have y1 := st1.cell 1 _ rfl; have y2 := st1.cell 2 _ rfl)
        have Z : Hid (∀ W, Below w1.heap.size w1 W → W.cell? ⟨w.heap.size, 0, none⟩ = some (.string nm) ∧ W.cell? ⟨w.heap.size, 1, none⟩ = some (.slice ua x.2.1.length uq) ∧ W.cell? ⟨w.heap.size, 2, none⟩ = some (.int .i64 X)) := fun W g => ⟨below_cell g y0, below_cell g y1, below_cell g y2⟩
        have HB := hid (below_trans bw b1)
        have hbd : Hid (Below w.heap.size w w1.drew) := below_drewN HB.out 1
        have hrd : Hid (Below w1.heap.size w1 w1.drew) := below_drewN (Below.refl _ _) 1
        clear y0 y1 y2 z0 z1 z2 st st1 bw b1 ca1
        go_region_held (fun W => W.cell? ⟨w.heap.size, 0, none⟩ = some (.string nm) ∧ W.cell? ⟨w.heap.size, 1, none⟩ = some (.slice ua x.2.1.length uq) ∧ W.cell? ⟨w.heap.size, 2, none⟩ = some (.int .i64 X)) (first | with_reducible exact Z.out _ hrd.out | with_reducible exact Z.out _ R2.out | with_reducible exact Z.out _ R3.out)
          (first
            | (go_at_call 23; refine (CC.out _ (by with_reducible exact hbd.out)).mono ?_; rintro e w2 ⟨lb, rfl, ha, b2⟩; have A2 := hid ha; have G2 : Hid (Below w.heap.size w w2) := below_trans hbd.out b2; have R2 : Hid (Below w1.heap.size w1 w2) := below_trans hrd.out b2; clear ha b2)
            | (go_at_call 20; refine (CK.out _ lb (by with_reducible exact G2.out) A2.out).mono ?_; rintro e w3 ⟨rfl, b3⟩; have G3 : Hid (Below w.heap.size w w3) := below_trans G2.out b3; have R3 : Hid (Below w1.heap.size w1 w3) := below_trans R2.out b3; clear b3))
        go_wp2_with fail
        go_ret
        refine ⟨ret_b ?_, G3.out⟩
        rw [hR.out, hR2.out, hT.out]
        exact fdI_none _

/-
  Named of package prop, that it only draws: for regions that draw their order.
-/
theorem dr_trans {a b c : World} (h : Dr a b) (g : Dr b c) : Dr a c := by
  obtain ⟨m, rfl⟩ := h
  obtain ⟨n, rfl⟩ := g
  exact ⟨m + n, by rw [World.drewN_drewN]⟩

set_option maxHeartbeats 1000000 in
set_option maxRecDepth 100000 in
theorem w_innQ (c : Int) (w : World) (h0 : 0 ≤ c) (h1 : c < 256) : Calls Tryd.prog 52 #[.int .u8 c] w fun e w' => e = .returned (.bool (nmC c)) ∧ Dr w w' := by
  rcases (show c < 33 ∨ 126 < c ∨ (65 ≤ c ∧ c ≤ 90) ∨ (33 ≤ c ∧ c < 65) ∨ (90 < c ∧ c ≤ 126) by omega) with h | h | ⟨h, g⟩ | ⟨h, g⟩ | ⟨h, g⟩
  · have e : nmC c = false := by unfold nmC; simp; omega
    rw [e]
    clear e
    go_enter Tryd.func52, Tryd.ntmps52
    go_wp2_with fail
    go_ret
    exact ⟨rfl, dr_refl _⟩
  · have e : nmC c = false := by unfold nmC; simp; omega
    rw [e]
    clear e
    go_enter Tryd.func52, Tryd.ntmps52
    go_wp2_with fail
    go_ret
    exact ⟨rfl, dr_refl _⟩
  · have e : nmC c = false := by unfold nmC; simp; omega
    rw [e]
    clear e
    go_enter Tryd.func52, Tryd.ntmps52
    go_wp2_with fail
    go_ret
    exact ⟨rfl, dr_refl _⟩
  · go_enter Tryd.func52, Tryd.ntmps52
    go_wp2_with (go_at_call 57; refine (w_sib _ c _ h0 h1).mono ?_; rintro e w1 ⟨i, rfl, hi, rfl⟩; have H := hid (atB_bar hi (by omega) (by omega) (by omega)); clear hi)
    go_ret
    exact ⟨ret_b (by first | exact H.out | (rw [← H.out, decide_eq_false (show ¬ c ≤ 90 by omega)]; rfl)), dr_refl _⟩
  · go_enter Tryd.func52, Tryd.ntmps52
    go_wp2_with (go_at_call 57; refine (w_sib _ c _ h0 h1).mono ?_; rintro e w1 ⟨i, rfl, hi, rfl⟩; have H := hid (atB_bar hi (by omega) (by omega) (by omega)); clear hi)
    go_ret
    exact ⟨ret_b (by first | exact H.out | (rw [← H.out, decide_eq_false (show ¬ c ≤ 90 by omega)]; rfl)), dr_refl _⟩

set_option maxHeartbeats 1000000 in
set_option maxRecDepth 100000 in
theorem w_pnamedQ (s : ByteArray) (w : World) (hs : s.size ≤ maxLen) :
    Calls Tryd.prog 40 #[.string s] w fun e w' => e = .returned (.bool (nmF (L s))) ∧ Dr w w' := by
  have hs2 := hs
  unfold maxLen at hs2
  by_cases h0 : s.size = 0
  · have hs : s = ⟨#[]⟩ := by
      apply ByteArray.ext
      exact Array.eq_empty_of_size_eq_zero h0
    subst hs
    go_enter Tryd.func40, Tryd.ntmps40
    go_wp2_with fail
    go_ret
    exact ⟨rfl, dr_refl _⟩
  · have hemp : s.toList.isEmpty = false := by
      rw [← decide_eq_emptyBytes]
      exact decide_eq_false (fun h => h0 (by rw [h]; rfl))
    by_cases h31 : (31 : Int) < s.size
    · have e : nmF (L s) = false := by unfold nmF; rw [L_len, show decide (1 ≤ s.size ∧ s.size ≤ 31) = false by simp; omega]; rfl
      rw [e]
      clear e
      go_enter Tryd.func40, Tryd.ntmps40
      go_wp2_with fail
      go_ret
      exact ⟨rfl, dr_refl _⟩
    · go_enter Tryd.func40, Tryd.ntmps40
      go_wp2_with fail
      go_loopw [13] (fun I wx => ∃ (k : Nat), (k : Int) ≤ s.size ∧ I = .int .i64 k ∧ Hid (((L s).take k).all nmC = true) ∧ Dr w wx) (fun I _ => (s.size - intOf I).toNat)
      case atStart => exact ⟨0, by omega, rfl, hid rfl, dr_refl _⟩
      case round =>
        obtain ⟨k, hk, rfl, ha, hb⟩ := hrel
        by_cases hlt : (k : Int) < s.size
        · have hkk : k < s.size := by omega
          obtain ⟨c, hc⟩ : ∃ c, (s[k].toNat : Int) = c := ⟨_, rfl⟩
          have hcb := L_bd s k hkk
          rw [hc] at hcb
          obtain ⟨c0, c1⟩ := hcb
          have hLd : Hid (L s = (L s).take k ++ c :: (L s).drop (k + 1)) := by
            show _ = _
            rw [← hc, ← L_drop s k hkk, List.take_append_drop]
          have hLt : Hid ((L s).take (k + 1) = (L s).take k ++ [c]) := by show _ = _; rw [← hc]; exact L_take s k hkk
          have hrun := run_at (w := wr) s k hkk hs
          rw [hc] at hrun
          have cn := w_innQ c wr c0 c1
          cases hcc : nmC c
          · have hf : Hid (nmF (L s) = false) := by show _ = _; rw [hLd.out]; exact nm_mid _ _ _ hcc
            rw [hcc] at cn
            clear hcc hLd hLt hc
            go_wp2_with (go_at_call 52; refine cn.mono ?_; rintro e w1 ⟨rfl, b1⟩)
            go_ret
            exact ⟨ret_b hf.out.symm, dr_trans hb b1⟩
          · have ha2 : Hid (((L s).take (k + 1)).all nmC = true) := by
              show _ = _
              rw [hLt.out, List.all_append, ha.out]
              simp [hcc]
            rw [hcc] at cn
            clear hcc hLd hLt hc
            go_wp2_with (go_at_call 52; refine cn.mono ?_; rintro e w1 ⟨rfl, b1⟩)
            go_roundw
            case rel => exact ⟨k + 1, by omega, by go_num, ha2, dr_trans hb b1⟩
            case measure => simp [intOf]; omega
        · have hall := ha.out
          rw [List.take_of_length_le (by rw [L_len]; omega)] at hall
          have hf : Hid (nmF (L s) = true) := by show _ = _; unfold nmF; rw [hall, L_len]; simp; omega
          clear hall
          obtain rfl : k = s.size := by omega
          go_wp2_with fail
          go_ret
          exact ⟨ret_b hf.out.symm, hb⟩

/-
  Package tree's propsFormed, Formed, device and find.
-/
theorem fdI_ge (o : Option Nat) : (fdI o != -1) = decide ((0 : Int) ≤ fdI o) := by
  cases o with
  | none => rfl
  | some k =>
    have h0 : (0 : Int) ≤ fdI (some k) := Int.natCast_nonneg k
    rw [decide_eq_true h0, fdI_some]
    rfl

set_option maxHeartbeats 2000000 in
set_option maxRecDepth 100000 in
theorem w_ppropsformed (v : Value) (l : List Pp) (w : World) (h : SlR 2 propR w v l) (bl : ∀ x ∈ l, bytesL x.1) (ll : ∀ x ∈ l, x.1.length ≤ maxLen) :
    Calls Tryd.prog 36 #[v] w fun e w' => e = .returned (.bool (decide (l.length ≤ 16) && okR l)) ∧ Below w.heap.size w w' := by
  have hl := slr_len h uR (P := Tryd.prog)
  by_cases h16 : (16 : Int) < l.length
  · have hf : Hid ((decide (l.length ≤ 16) && okR l) = false) := by show _ = _; rw [decide_eq_false (by omega), Bool.false_and]
    go_enter Tryd.func36, Tryd.ntmps36
    go_wp2_with fail
    go_ret
    exact ⟨ret_b hf.out.symm, Below.refl _ _⟩
  · have he : (decide (l.length ≤ 16) && okR l) = okR l := by rw [decide_eq_true (by omega), Bool.true_and]
    rw [he]
    clear he
    go_enter Tryd.func36, Tryd.ntmps36
    go_wp2_with fail
    go_loopw [10] (fun I wx => ∃ k : Nat, (k : Int) ≤ l.length ∧ I = .int .i64 k ∧ Hid (∀ j (g : j < k) (hj : j < l.length), okP l j l[j] = true) ∧ Below w.heap.size w wx) (fun I _ => (l.length - intOf I).toNat)
    case atStart => exact ⟨0, by omega, rfl, hid (fun j g => by omega), Below.refl _ _⟩
    case round =>
      obtain ⟨k, hk, rfl, hok, hb⟩ := hrel
      by_cases hlt : (k : Int) < l.length
      · have hkl : k < l.length := by omega
        obtain ⟨b0, o0, nm, vd, r0, f0, f1, e0, hd0⟩ := prp_at8 (h.below hb (propR_below hb)) k hkl
        have hld := rd_len hd0 uB (P := Tryd.prog)
        obtain ⟨da, dq, rfl⟩ := rd_slice hd0
        have hL : L nm = l[k].1 := by rw [← e0]; exact LB_nums _ (bl _ (List.getElem_mem hkl))
        have hsz : nm.size ≤ maxLen := by
          have h1 := LB_len nm
          rw [show LB nm = l[k].1 from hL] at h1
          have := ll _ (List.getElem_mem hkl)
          omega
        obtain ⟨vh, hh, hhR⟩ := slr_head h uR zR k (by omega)
        have st := stands_new wr #[.string nm, .slice da l[k].2.length dq] 33
        have hbx := box_below wr (.cells #[.string nm, .slice da l[k].2.length dq] 33)
        have hb0 := below_trans hb hbx
        have cn := fun W => w_pnamed nm W hsz
        have cnq := fun W => w_pnamedQ nm W hsz
        have cp := fun W (g : Below w.heap.size w W) => w_pplace vh (l.take k) nm W (hhR.below g (propR_below g)) (fun x hx => bl x (List.mem_of_mem_take hx))
        simp only [hL] at cn cp cnq
        obtain ⟨n, hn⟩ : ∃ n, l[k].2.length = n := ⟨_, rfl⟩
        have bad := fun g => hid (okR_bad k hkl (okP_bad g))
        have good := fun (g1 : nmF (l[k]'hkl).1 = true) (g2 : ¬ 256 < (l[k]'hkl).2.length) (g3 : ¬ (0 : Int) ≤ fdI (pfF (l.take k) (l[k]'hkl).1)) => hid (okP_good (l := l) (k := k) (x := l[k]'hkl) g1 g2 g3)
        rw [hn] at hld f1 st hbx hb0
        obtain ⟨F, hF⟩ : ∃ F, fdI (pfF (l.take k) l[k].1) = F := ⟨_, rfl⟩
        simp only [hF] at cp
        cases hnm : nmF l[k].1
        · have hf := bad (Or.inl hnm)
          simp only [hnm] at cnq
          clear hnm hL e0 hF bad good cp hn cn
          have CN := hid cnq
          clear cnq
          go_wp2_with fail
          generalize wr.alloc (.cells #[.string nm, .slice da n dq] 33) = w1 at st hbx hb0 ⊢
          have Z : Hid (∀ W, Below w1.heap.size w1 W → W.cell? ⟨wr.heap.size, 0, none⟩ = some (.string nm) ∧ W.cell? ⟨wr.heap.size, 1, none⟩ = some (.slice da n dq)) := fun W g => ⟨(st.below g).cell 0 _ rfl, (st.below g).cell 1 _ rfl⟩
          have hrd : Hid (Below w1.heap.size w1 w1.drew) := below_drewN (Below.refl _ _) 1
          have B0 := hid hb0
          clear st hbx hb0
          obtain ⟨y0, y1⟩ := Z.out _ (Below.refl _ _)
          go_quiet (first | (go_at_call 40; exact Calls.quiet_of (CN.out _)))
          go_wp2_with fail
          go_ret
          exact ⟨ret_b hf.out.symm, below_drewN B0.out _⟩
        · simp only [hnm] at cn cnq
          by_cases h256 : (256 : Int) < n
          · have hf := bad (Or.inr (Or.inl (by omega)))
            have hd : decide ((256 : Int) < n) = true := decide_eq_true h256
            clear hnm hL e0 hF bad good cp hn cn
            have CN := hid cnq
            clear cnq
            go_wp2_with fail
            generalize wr.alloc (.cells #[.string nm, .slice da n dq] 33) = w1 at st hbx hb0 ⊢
            have Z : Hid (∀ W, Below w1.heap.size w1 W → W.cell? ⟨wr.heap.size, 0, none⟩ = some (.string nm) ∧ W.cell? ⟨wr.heap.size, 1, none⟩ = some (.slice da n dq)) := fun W g => ⟨(st.below g).cell 0 _ rfl, (st.below g).cell 1 _ rfl⟩
            have hrd : Hid (Below w1.heap.size w1 w1.drew) := below_drewN (Below.refl _ _) 1
            have B0 := hid hb0
            clear st hbx hb0
            obtain ⟨y0, y1⟩ := Z.out _ (Below.refl _ _)
            go_quiet (first | (go_at_call 40; exact Calls.quiet_of (CN.out _)))
            go_wp2_with fail
            go_ret
            exact ⟨ret_b hf.out.symm, below_drewN B0.out _⟩
          · have hd : decide ((256 : Int) < n) = false := decide_eq_false h256
            have hF2 : (F != -1) = decide ((0 : Int) ≤ F) := by rw [← hF]; exact fdI_ge _
            cases hFc : decide ((0 : Int) ≤ F)
            · have hF3 : (F != -1) = false := by rw [hF2, hFc]
              have hg := good hnm (by omega) (by rw [hF]; exact of_decide_eq_false hFc)
              have hok2 : Hid (∀ j (g : j < k + 1) (hj : j < l.length), okP l j l[j] = true) := by
                show ∀ j _ _, _
                intro j g hj
                by_cases hjk : j < k
                · exact hok.out j hjk hj
                · have : j = k := by omega
                  subst this
                  exact hg.out
              clear hnm hL e0 hF bad good hn hF2 hFc hg h256
              have CN := hid cn
              have CP := hid cp
              clear cn cp
              go_wp2_with fail
              generalize wr.alloc (.cells #[.string nm, .slice da n dq] 33) = w1 at st hbx hb0 ⊢
              have Z : Hid (∀ W, Below w1.heap.size w1 W → W.cell? ⟨wr.heap.size, 0, none⟩ = some (.string nm) ∧ W.cell? ⟨wr.heap.size, 1, none⟩ = some (.slice da n dq)) := fun W g => ⟨(st.below g).cell 0 _ rfl, (st.below g).cell 1 _ rfl⟩
              have hrd : Hid (Below w1.heap.size w1 w1.drew) := below_drewN (Below.refl _ _) 1
              have B0 := hid hb0
              clear st hbx hb0
              go_region_held (fun W => W.cell? ⟨wr.heap.size, 0, none⟩ = some (.string nm) ∧ W.cell? ⟨wr.heap.size, 1, none⟩ = some (.slice da n dq)) (first | with_reducible exact Z.out _ hrd.out | with_reducible exact Z.out _ R2.out | with_reducible exact Z.out _ R3.out)
                (first
                  | (go_at_call 40; refine (CN.out _).mono ?_; rintro e w2 ⟨rfl, b2⟩; have R2 : Hid (Below w1.heap.size w1 w2) := below_trans hrd.out b2; clear b2)
                  | (go_at_call 26; refine (CP.out _ (below_trans B0.out R2.out)).mono ?_; rintro e w3 ⟨rfl, b3⟩; have R3 : Hid (Below w1.heap.size w1 w3) := below_trans R2.out b3; clear b3))
              go_wp2_with fail
              go_roundw
              case rel => exact ⟨k + 1, by omega, by go_num, hok2, below_trans B0.out R3.out⟩
              case measure => simp [intOf]; omega
            · have hF3 : (F != -1) = true := by rw [hF2, hFc]
              have hf := bad (Or.inr (Or.inr (by rw [hF]; exact of_decide_eq_true hFc)))
              clear hnm hL e0 hF bad good hn hF2 hFc h256
              have CN := hid cn
              have CP := hid cp
              clear cn cp
              go_wp2_with fail
              generalize wr.alloc (.cells #[.string nm, .slice da n dq] 33) = w1 at st hbx hb0 ⊢
              have Z : Hid (∀ W, Below w1.heap.size w1 W → W.cell? ⟨wr.heap.size, 0, none⟩ = some (.string nm) ∧ W.cell? ⟨wr.heap.size, 1, none⟩ = some (.slice da n dq)) := fun W g => ⟨(st.below g).cell 0 _ rfl, (st.below g).cell 1 _ rfl⟩
              have hrd : Hid (Below w1.heap.size w1 w1.drew) := below_drewN (Below.refl _ _) 1
              have B0 := hid hb0
              clear st hbx hb0
              go_region_held (fun W => W.cell? ⟨wr.heap.size, 0, none⟩ = some (.string nm) ∧ W.cell? ⟨wr.heap.size, 1, none⟩ = some (.slice da n dq)) (first | with_reducible exact Z.out _ hrd.out | with_reducible exact Z.out _ R2.out | with_reducible exact Z.out _ R3.out)
                (first
                  | (go_at_call 40; refine (CN.out _).mono ?_; rintro e w2 ⟨rfl, b2⟩; have R2 : Hid (Below w1.heap.size w1 w2) := below_trans hrd.out b2; clear b2)
                  | (go_at_call 26; refine (CP.out _ (below_trans B0.out R2.out)).mono ?_; rintro e w3 ⟨rfl, b3⟩; have R3 : Hid (Below w1.heap.size w1 w3) := below_trans R2.out b3; clear b3))
              go_wp2_with fail
              go_ret
              exact ⟨ret_b hf.out.symm, below_trans B0.out R3.out⟩
      · have hf : Hid (okR l = true) := by
          show _ = _
          unfold okR
          rw [decide_eq_true_eq]
          intro j hj
          exact hok.out j (by omega) hj
        go_wp2_with fail
        go_ret
        exact ⟨ret_b hf.out.symm, hb⟩

/-
  Package tree's Formed.
-/
set_option maxHeartbeats 2000000 in
set_option maxRecDepth 100000 in
theorem w_p8formed' (v : Value) (t : List Nd) (w : World) (h : RdT w v t) (bt : ∀ x ∈ t, bytN x) (ls : ∀ x ∈ t, lenN x) :
    Calls Tryd.prog 19 #[v] w fun e w' => e = .returned (.bool (frmT t)) ∧ Below w.heap.size w w' := by
  have hla := slr_len h uN (P := Tryd.prog)
  have hm := slr_max h
  unfold maxLen at hm
  by_cases h0 : t.length = 0
  · have hf := hid (frm_len (Or.inl h0))
    have hl1 : ((t.length : Int) == 0) = true := by simp; exact List.eq_nil_of_length_eq_zero h0
    obtain ⟨n, hn⟩ : ∃ n, t.length = n := ⟨_, rfl⟩
    rw [hn] at hla hl1
    clear h0 hn hm
    go_enter Tryd.func19, Tryd.ntmps19
    go_wp2_with fail
    go_ret
    exact ⟨ret_b hf.out.symm, Below.refl _ _⟩
  · have hl1 : ((t.length : Int) == 0) = false := by simp; intro h; exact h0 (by rw [h]; rfl)
    by_cases h32 : (32 : Int) < t.length
    · have hf := hid (frm_len (Or.inr (show 32 < t.length by omega)))
      clear h0
      go_enter Tryd.func19, Tryd.ntmps19
      go_wp2_with fail
      go_ret
      exact ⟨ret_b hf.out.symm, Below.refl _ _⟩
    · have ht0 : 0 < t.length := by omega
      obtain ⟨b0, o0, N0, u0, p0, k0, r0, z0, z1, z2, z3, z4, e0, hu0, hp0, hc0⟩ := nod_at h 0 ht0
      have r0' : ∀ w', (Instr.indexAt 22 v (.int .i64 0)).run Tryd.prog w' = .ok (.pointer (some ⟨b0, o0, none⟩)) w' := r0
      have cr := w_pisroot N0 u0 p0 k0 t[0] w e0 (bt _ (List.getElem_mem ht0)).1 hu0 hp0 hc0
      obtain ⟨ua0, uq0, rfl⟩ := rd_slice hu0
      obtain ⟨pa0, pq0, rfl⟩ := slr_slice hp0
      obtain ⟨ca0, cq0, rfl⟩ := rd_slice hc0
      obtain ⟨P0, hP0⟩ : ∃ X, t[0].2.2.1 = X := ⟨_, rfl⟩
      rw [hP0] at z2 cr
      cases hrt : rootF t[0]
      · have hf := hid (frm_root ht0 hrt)
        rw [hrt] at cr
        clear hrt hP0 e0 r0 h0
        go_enter Tryd.func19, Tryd.ntmps19
        go_wp2_with (go_at_call 34; refine cr.mono ?_; rintro e w1 ⟨rfl, b1⟩)
        go_ret
        exact ⟨ret_b hf.out.symm, b1⟩
      · rw [hrt] at cr
        have hroot := hid hrt
        have hlen32 : Hid (t.length ≤ 32 ∧ 1 ≤ t.length) := ⟨by omega, by omega⟩
        clear hrt hP0 e0 r0 h0
        go_enter Tryd.func19, Tryd.ntmps19
        go_wp2_with (go_at_call 34; refine cr.mono ?_; rintro e w1 ⟨rfl, b1⟩)
        clear cr z0 z1 z2 z3 z4 r0'
        go_loopw [22] (fun I wx => ∃ i : Nat, (i : Int) ≤ t.length ∧ I = .int .i64 i ∧ Hid (∀ j (g : j < i) (hj : j < t.length), okN t j t[j] = true) ∧ Below w.heap.size w wx) (fun I _ => (t.length - intOf I).toNat)
        case atStart => exact ⟨0, by omega, rfl, hid (fun j g => by omega), b1⟩
        case round =>
          clear b1
          obtain ⟨i, hi, rfl, hok, hb⟩ := hrel
          by_cases hlt : (i : Int) < t.length
          · have hil : i < t.length := by omega
            obtain ⟨b1, o1, nm, u1, p1, c1, r1, f0, f1, f2, f3, f4, e1, hu1, hp1, hc1⟩ := nod_at (h.below hb) i hil
            obtain ⟨vh, hh, hhR⟩ := slr_head h uN zN i (by omega)
            have hbt := bt _ (List.getElem_mem hil)
            have hlt2 := ls _ (List.getElem_mem hil)
            have cq := fun W (g : Below wr.heap.size wr W) => w_pplaced vh (t.take i) nm u1 p1 c1 t[i] W (RdT.below hhR (below_trans hb g)) (fun x hx => bt x (List.mem_of_mem_take hx)) e1 hbt.1 hlt2.1 (hu1.below g) (hp1.below g (propR_below g)) (hc1.below g)
            have cf := fun W (g : Below wr.heap.size wr W) => w_ppropsformed p1 t[i].2.2.2.1 W (hp1.below g (propR_below g)) (fun x hx => (hbt.2 x hx).1) (fun x hx => hlt2.2 x hx)
            have hlc := rd_len hc1 uU (P := Tryd.prog)
            have htl : (t.take i).length = i := by rw [List.length_take]; omega
            rw [htl] at cq
            obtain ⟨ua, uq, rfl⟩ := rd_slice hu1
            obtain ⟨pa, pq, rfl⟩ := slr_slice hp1
            obtain ⟨ca, cq', rfl⟩ := rd_slice hc1
            have hokA : okA t i t[i] = (nmF t[i].1 && (decide (t[i].2.1.length ≤ 4) && (decide (0 ≤ t[i].2.2.1) && (decide (t[i].2.2.1 < i) && !twF (t.take i) t[i].2.2.1 t[i].1 t[i].2.1)))) := rfl
            rw [← hokA] at cq
            clear hokA
            obtain ⟨P, hP⟩ : ∃ X, t[i].2.2.1 = X := ⟨_, rfl⟩
            rw [hP] at f2 cq
            have st := stands_new wr #[.string nm, .slice ua t[i].2.1.length uq, .int .i64 P, .slice pa t[i].2.2.2.1.length pq, .slice ca t[i].2.2.2.2.length cq'] 30
            have hbx := box_below wr (.cells #[.string nm, .slice ua t[i].2.1.length uq, .int .i64 P, .slice pa t[i].2.2.2.1.length pq, .slice ca t[i].2.2.2.2.length cq'] 30)
            have hokN : okN t i t[i] = ((decide (i = 0) || okA t i t[i]) && ((decide (t[i].2.2.2.1.length ≤ 16) && okR t[i].2.2.2.1) && decide (t[i].2.2.2.2.length ≤ 16))) := by
              unfold okN
              cases decide (t[i].2.2.2.1.length ≤ 16) <;> cases decide (t[i].2.2.2.2.length ≤ 16) <;> cases okR t[i].2.2.2.1 <;> rfl
            have HN := hid hokN
            clear hokN hP e1 htl
            have hbad := fun g => hid (frm_bad i hil g)
            obtain ⟨m, hm2⟩ : ∃ m, t[i].2.2.2.2.length = m := ⟨_, rfl⟩
            rw [hm2] at f4 st hbx hlc HN
            simp only [hm2] at cq
            clear hm2
            cases hA : (decide (i = 0) || okA t i t[i])
            · have hf := hbad (by rw [HN.out, hA, Bool.false_and])
              have hi0 : ((i : Int) != 0) = true := by
                rw [Bool.or_eq_false_iff, decide_eq_false_iff_not] at hA
                simp
                exact hA.1
              have hq : okA t i t[i] = false := (Bool.or_eq_false_iff.1 hA).2
              rw [hq] at cq
              clear hq hA hbad HN cf
              have CQ := hid cq
              clear cq
              go_wp2_with fail
              generalize wr.alloc (.cells #[.string nm, .slice ua t[i].2.1.length uq, .int .i64 P, .slice pa t[i].2.2.2.1.length pq, .slice ca m cq'] 30) = w1 at st hbx ⊢
              have Z : Hid (∀ W, Below w1.heap.size w1 W → W.cell? ⟨wr.heap.size, 0, none⟩ = some (.string nm) ∧ W.cell? ⟨wr.heap.size, 1, none⟩ = some (.slice ua t[i].2.1.length uq) ∧ W.cell? ⟨wr.heap.size, 2, none⟩ = some (.int .i64 P) ∧ W.cell? ⟨wr.heap.size, 3, none⟩ = some (.slice pa t[i].2.2.2.1.length pq) ∧ W.cell? ⟨wr.heap.size, 4, none⟩ = some (.slice ca m cq')) := fun W g => ⟨(st.below g).cell 0 _ rfl, (st.below g).cell 1 _ rfl, (st.below g).cell 2 _ rfl, (st.below g).cell 3 _ rfl, (st.below g).cell 4 _ rfl⟩
              have hrd : Hid (Below w1.heap.size w1 w1.drew) := below_drewN (Below.refl _ _) 1
              have B0 := hid hbx
              clear st hbx
              go_region_held (fun W => W.cell? ⟨wr.heap.size, 0, none⟩ = some (.string nm) ∧ W.cell? ⟨wr.heap.size, 1, none⟩ = some (.slice ua t[i].2.1.length uq) ∧ W.cell? ⟨wr.heap.size, 2, none⟩ = some (.int .i64 P) ∧ W.cell? ⟨wr.heap.size, 3, none⟩ = some (.slice pa t[i].2.2.2.1.length pq) ∧ W.cell? ⟨wr.heap.size, 4, none⟩ = some (.slice ca m cq')) (first | with_reducible exact Z.out _ hrd.out | with_reducible exact Z.out _ R2.out)
                (first | (go_at_call 35; refine (CQ.out _ (below_trans B0.out hrd.out)).mono ?_; rintro e w2 ⟨rfl, b2⟩; have R2 : Hid (Below w1.heap.size w1 w2) := below_trans hrd.out b2; clear b2))
              go_wp2_with fail
              go_ret
              exact ⟨ret_b hf.out.symm, below_trans hb (below_trans B0.out R2.out)⟩
            · rw [hA, Bool.true_and] at HN
              by_cases hz : i = 0
              · have hi0 : ((i : Int) != 0) = false := by simp [hz]
                clear hA cq hz
                cases hPF : (decide (t[i].2.2.2.1.length ≤ 16) && okR t[i].2.2.2.1)
                · have hf := hbad (by rw [HN.out, hPF, Bool.false_and])
                  rw [hPF] at cf
                  clear hPF hbad HN
                  have CF := hid cf
                  clear cf
                  go_wp2_with fail
                  generalize wr.alloc (.cells #[.string nm, .slice ua t[i].2.1.length uq, .int .i64 P, .slice pa t[i].2.2.2.1.length pq, .slice ca m cq'] 30) = w1 at st hbx ⊢
                  have Z : Hid (∀ W, Below w1.heap.size w1 W → W.cell? ⟨wr.heap.size, 0, none⟩ = some (.string nm) ∧ W.cell? ⟨wr.heap.size, 1, none⟩ = some (.slice ua t[i].2.1.length uq) ∧ W.cell? ⟨wr.heap.size, 2, none⟩ = some (.int .i64 P) ∧ W.cell? ⟨wr.heap.size, 3, none⟩ = some (.slice pa t[i].2.2.2.1.length pq) ∧ W.cell? ⟨wr.heap.size, 4, none⟩ = some (.slice ca m cq')) := fun W g => ⟨(st.below g).cell 0 _ rfl, (st.below g).cell 1 _ rfl, (st.below g).cell 2 _ rfl, (st.below g).cell 3 _ rfl, (st.below g).cell 4 _ rfl⟩
                  have B0 := hid hbx
                  obtain ⟨y0, y1, y2, y3, y4⟩ := Z.out _ (Below.refl _ _)
                  clear st hbx
                  go_quiet (fail)
                  obtain ⟨w2, hw2⟩ : ∃ w2, w2 = w1.drewN 1 := ⟨_, rfl⟩
                  have R2 : Hid (Below w1.heap.size w1 w2) := by rw [hw2]; exact below_drewN (Below.refl _ _) 1
                  have q3 := below_cell (below_drewN (Below.refl _ w1) 1) y3
                  have q4 := y4
                  go_wp2_with (go_at_call 36; refine (CF.out _ (below_drewN B0.out _)).mono ?_; rintro e w3 ⟨rfl, b3⟩; have z4 := below_cell (below_trans (below_drewN (Below.refl _ w1) _) b3) y4)
                  go_ret
                  exact ⟨ret_b hf.out.symm, below_trans hb (below_trans (below_drewN B0.out _) b3)⟩
                · rw [hPF] at cf
                  rw [hPF, Bool.true_and] at HN
                  have CF := hid cf
                  clear cf hPF
                  by_cases h16 : (16 : Int) < m
                  · have hf := hbad (by rw [HN.out, decide_eq_false (by omega)])
                    clear hbad HN
                    go_wp2_with fail
                    generalize wr.alloc (.cells #[.string nm, .slice ua t[i].2.1.length uq, .int .i64 P, .slice pa t[i].2.2.2.1.length pq, .slice ca m cq'] 30) = w1 at st hbx ⊢
                    have Z : Hid (∀ W, Below w1.heap.size w1 W → W.cell? ⟨wr.heap.size, 0, none⟩ = some (.string nm) ∧ W.cell? ⟨wr.heap.size, 1, none⟩ = some (.slice ua t[i].2.1.length uq) ∧ W.cell? ⟨wr.heap.size, 2, none⟩ = some (.int .i64 P) ∧ W.cell? ⟨wr.heap.size, 3, none⟩ = some (.slice pa t[i].2.2.2.1.length pq) ∧ W.cell? ⟨wr.heap.size, 4, none⟩ = some (.slice ca m cq')) := fun W g => ⟨(st.below g).cell 0 _ rfl, (st.below g).cell 1 _ rfl, (st.below g).cell 2 _ rfl, (st.below g).cell 3 _ rfl, (st.below g).cell 4 _ rfl⟩
                    have B0 := hid hbx
                    obtain ⟨y0, y1, y2, y3, y4⟩ := Z.out _ (Below.refl _ _)
                    clear st hbx
                    go_quiet (fail)
                    obtain ⟨w2, hw2⟩ : ∃ w2, w2 = w1.drewN 1 := ⟨_, rfl⟩
                    have R2 : Hid (Below w1.heap.size w1 w2) := by rw [hw2]; exact below_drewN (Below.refl _ _) 1
                    have q3 := below_cell (below_drewN (Below.refl _ w1) 1) y3
                    have q4 := y4
                    go_wp2_with (go_at_call 36; refine (CF.out _ (below_drewN B0.out _)).mono ?_; rintro e w3 ⟨rfl, b3⟩; have z4 := below_cell (below_trans (below_drewN (Below.refl _ w1) _) b3) y4)
                    go_ret
                    exact ⟨ret_b hf.out.symm, below_trans hb (below_trans (below_drewN B0.out _) b3)⟩
                  · have hg : okN t i t[i] = true := by rw [HN.out, decide_eq_true (by omega)]
                    have hok2 : Hid (∀ j (g : j < i + 1) (hj : j < t.length), okN t j t[j] = true) := by
                      show ∀ j _ _, _
                      intro j g hj
                      by_cases hjk : j < i
                      · exact hok.out j hjk hj
                      · have : j = i := by omega
                        subst this
                        exact hg
                    clear hbad HN hg
                    go_wp2_with fail
                    generalize wr.alloc (.cells #[.string nm, .slice ua t[i].2.1.length uq, .int .i64 P, .slice pa t[i].2.2.2.1.length pq, .slice ca m cq'] 30) = w1 at st hbx ⊢
                    have Z : Hid (∀ W, Below w1.heap.size w1 W → W.cell? ⟨wr.heap.size, 0, none⟩ = some (.string nm) ∧ W.cell? ⟨wr.heap.size, 1, none⟩ = some (.slice ua t[i].2.1.length uq) ∧ W.cell? ⟨wr.heap.size, 2, none⟩ = some (.int .i64 P) ∧ W.cell? ⟨wr.heap.size, 3, none⟩ = some (.slice pa t[i].2.2.2.1.length pq) ∧ W.cell? ⟨wr.heap.size, 4, none⟩ = some (.slice ca m cq')) := fun W g => ⟨(st.below g).cell 0 _ rfl, (st.below g).cell 1 _ rfl, (st.below g).cell 2 _ rfl, (st.below g).cell 3 _ rfl, (st.below g).cell 4 _ rfl⟩
                    have B0 := hid hbx
                    obtain ⟨y0, y1, y2, y3, y4⟩ := Z.out _ (Below.refl _ _)
                    clear st hbx
                    go_quiet (fail)
                    obtain ⟨w2, hw2⟩ : ∃ w2, w2 = w1.drewN 1 := ⟨_, rfl⟩
                    have R2 : Hid (Below w1.heap.size w1 w2) := by rw [hw2]; exact below_drewN (Below.refl _ _) 1
                    have q3 := below_cell (below_drewN (Below.refl _ w1) 1) y3
                    have q4 := y4
                    go_wp2_with (go_at_call 36; refine (CF.out _ (below_drewN B0.out _)).mono ?_; rintro e w3 ⟨rfl, b3⟩; have z4 := below_cell (below_trans (below_drewN (Below.refl _ w1) _) b3) y4)
                    go_roundw
                    case rel => exact ⟨i + 1, by omega, by go_num, hok2, below_trans hb (below_trans (below_drewN B0.out _) b3)⟩
                    case measure => simp [intOf]; omega
              · have hi0 : ((i : Int) != 0) = true := by simp; exact hz
                have hq : okA t i t[i] = true := by rw [decide_eq_false hz, Bool.false_or] at hA; exact hA
                rw [hq] at cq
                clear hq hA hz
                have CQ := hid cq
                clear cq
                cases hPF : (decide (t[i].2.2.2.1.length ≤ 16) && okR t[i].2.2.2.1)
                · have hf := hbad (by rw [HN.out, hPF, Bool.false_and])
                  rw [hPF] at cf
                  clear hPF hbad HN
                  have CF := hid cf
                  clear cf
                  go_wp2_with fail
                  generalize wr.alloc (.cells #[.string nm, .slice ua t[i].2.1.length uq, .int .i64 P, .slice pa t[i].2.2.2.1.length pq, .slice ca m cq'] 30) = w1 at st hbx ⊢
                  have Z : Hid (∀ W, Below w1.heap.size w1 W → W.cell? ⟨wr.heap.size, 0, none⟩ = some (.string nm) ∧ W.cell? ⟨wr.heap.size, 1, none⟩ = some (.slice ua t[i].2.1.length uq) ∧ W.cell? ⟨wr.heap.size, 2, none⟩ = some (.int .i64 P) ∧ W.cell? ⟨wr.heap.size, 3, none⟩ = some (.slice pa t[i].2.2.2.1.length pq) ∧ W.cell? ⟨wr.heap.size, 4, none⟩ = some (.slice ca m cq')) := fun W g => ⟨(st.below g).cell 0 _ rfl, (st.below g).cell 1 _ rfl, (st.below g).cell 2 _ rfl, (st.below g).cell 3 _ rfl, (st.below g).cell 4 _ rfl⟩
                  have B0 := hid hbx
                  have hrd : Hid (Below w1.heap.size w1 w1.drew) := below_drewN (Below.refl _ _) 1
                  clear st hbx
                  go_region_held (fun W => W.cell? ⟨wr.heap.size, 0, none⟩ = some (.string nm) ∧ W.cell? ⟨wr.heap.size, 1, none⟩ = some (.slice ua t[i].2.1.length uq) ∧ W.cell? ⟨wr.heap.size, 2, none⟩ = some (.int .i64 P) ∧ W.cell? ⟨wr.heap.size, 3, none⟩ = some (.slice pa t[i].2.2.2.1.length pq) ∧ W.cell? ⟨wr.heap.size, 4, none⟩ = some (.slice ca m cq')) (first | with_reducible exact Z.out _ hrd.out | with_reducible exact Z.out _ R2.out)
                    (first | (go_at_call 35; refine (CQ.out _ (below_trans B0.out hrd.out)).mono ?_; rintro e w2 ⟨rfl, b2⟩; have R2 : Hid (Below w1.heap.size w1 w2) := below_trans hrd.out b2; clear b2))
                  obtain ⟨y0, y1, y2, y3, y4⟩ := Z.out _ R2.out
                  go_wp2_with (go_at_call 36; refine (CF.out _ (below_trans B0.out R2.out)).mono ?_; rintro e w3 ⟨rfl, b3⟩; have z4 := below_cell b3 y4)
                  go_ret
                  exact ⟨ret_b hf.out.symm, below_trans hb (below_trans (below_trans B0.out R2.out) b3)⟩
                · rw [hPF] at cf
                  rw [hPF, Bool.true_and] at HN
                  have CF := hid cf
                  clear cf hPF
                  by_cases h16 : (16 : Int) < m
                  · have hf := hbad (by rw [HN.out, decide_eq_false (by omega)])
                    clear hbad HN
                    go_wp2_with fail
                    generalize wr.alloc (.cells #[.string nm, .slice ua t[i].2.1.length uq, .int .i64 P, .slice pa t[i].2.2.2.1.length pq, .slice ca m cq'] 30) = w1 at st hbx ⊢
                    have Z : Hid (∀ W, Below w1.heap.size w1 W → W.cell? ⟨wr.heap.size, 0, none⟩ = some (.string nm) ∧ W.cell? ⟨wr.heap.size, 1, none⟩ = some (.slice ua t[i].2.1.length uq) ∧ W.cell? ⟨wr.heap.size, 2, none⟩ = some (.int .i64 P) ∧ W.cell? ⟨wr.heap.size, 3, none⟩ = some (.slice pa t[i].2.2.2.1.length pq) ∧ W.cell? ⟨wr.heap.size, 4, none⟩ = some (.slice ca m cq')) := fun W g => ⟨(st.below g).cell 0 _ rfl, (st.below g).cell 1 _ rfl, (st.below g).cell 2 _ rfl, (st.below g).cell 3 _ rfl, (st.below g).cell 4 _ rfl⟩
                    have B0 := hid hbx
                    have hrd : Hid (Below w1.heap.size w1 w1.drew) := below_drewN (Below.refl _ _) 1
                    clear st hbx
                    go_region_held (fun W => W.cell? ⟨wr.heap.size, 0, none⟩ = some (.string nm) ∧ W.cell? ⟨wr.heap.size, 1, none⟩ = some (.slice ua t[i].2.1.length uq) ∧ W.cell? ⟨wr.heap.size, 2, none⟩ = some (.int .i64 P) ∧ W.cell? ⟨wr.heap.size, 3, none⟩ = some (.slice pa t[i].2.2.2.1.length pq) ∧ W.cell? ⟨wr.heap.size, 4, none⟩ = some (.slice ca m cq')) (first | with_reducible exact Z.out _ hrd.out | with_reducible exact Z.out _ R2.out)
                      (first | (go_at_call 35; refine (CQ.out _ (below_trans B0.out hrd.out)).mono ?_; rintro e w2 ⟨rfl, b2⟩; have R2 : Hid (Below w1.heap.size w1 w2) := below_trans hrd.out b2; clear b2))
                    obtain ⟨y0, y1, y2, y3, y4⟩ := Z.out _ R2.out
                    go_wp2_with (go_at_call 36; refine (CF.out _ (below_trans B0.out R2.out)).mono ?_; rintro e w3 ⟨rfl, b3⟩; have z4 := below_cell b3 y4)
                    go_ret
                    exact ⟨ret_b hf.out.symm, below_trans hb (below_trans (below_trans B0.out R2.out) b3)⟩
                  · have hg : okN t i t[i] = true := by rw [HN.out, decide_eq_true (by omega)]
                    have hok2 : Hid (∀ j (g : j < i + 1) (hj : j < t.length), okN t j t[j] = true) := by
                      show ∀ j _ _, _
                      intro j g hj
                      by_cases hjk : j < i
                      · exact hok.out j hjk hj
                      · have : j = i := by omega
                        subst this
                        exact hg
                    clear hbad HN hg
                    go_wp2_with fail
                    generalize wr.alloc (.cells #[.string nm, .slice ua t[i].2.1.length uq, .int .i64 P, .slice pa t[i].2.2.2.1.length pq, .slice ca m cq'] 30) = w1 at st hbx ⊢
                    have Z : Hid (∀ W, Below w1.heap.size w1 W → W.cell? ⟨wr.heap.size, 0, none⟩ = some (.string nm) ∧ W.cell? ⟨wr.heap.size, 1, none⟩ = some (.slice ua t[i].2.1.length uq) ∧ W.cell? ⟨wr.heap.size, 2, none⟩ = some (.int .i64 P) ∧ W.cell? ⟨wr.heap.size, 3, none⟩ = some (.slice pa t[i].2.2.2.1.length pq) ∧ W.cell? ⟨wr.heap.size, 4, none⟩ = some (.slice ca m cq')) := fun W g => ⟨(st.below g).cell 0 _ rfl, (st.below g).cell 1 _ rfl, (st.below g).cell 2 _ rfl, (st.below g).cell 3 _ rfl, (st.below g).cell 4 _ rfl⟩
                    have B0 := hid hbx
                    have hrd : Hid (Below w1.heap.size w1 w1.drew) := below_drewN (Below.refl _ _) 1
                    clear st hbx
                    go_region_held (fun W => W.cell? ⟨wr.heap.size, 0, none⟩ = some (.string nm) ∧ W.cell? ⟨wr.heap.size, 1, none⟩ = some (.slice ua t[i].2.1.length uq) ∧ W.cell? ⟨wr.heap.size, 2, none⟩ = some (.int .i64 P) ∧ W.cell? ⟨wr.heap.size, 3, none⟩ = some (.slice pa t[i].2.2.2.1.length pq) ∧ W.cell? ⟨wr.heap.size, 4, none⟩ = some (.slice ca m cq')) (first | with_reducible exact Z.out _ hrd.out | with_reducible exact Z.out _ R2.out)
                      (first | (go_at_call 35; refine (CQ.out _ (below_trans B0.out hrd.out)).mono ?_; rintro e w2 ⟨rfl, b2⟩; have R2 : Hid (Below w1.heap.size w1 w2) := below_trans hrd.out b2; clear b2))
                    obtain ⟨y0, y1, y2, y3, y4⟩ := Z.out _ R2.out
                    go_wp2_with (go_at_call 36; refine (CF.out _ (below_trans B0.out R2.out)).mono ?_; rintro e w3 ⟨rfl, b3⟩; have z4 := below_cell b3 y4)
                    go_roundw
                    case rel => exact ⟨i + 1, by omega, by go_num, hok2, below_trans hb (below_trans (below_trans B0.out R2.out) b3)⟩
                    case measure => simp [intOf]; omega
          · have hf : Hid (frmT t = true) := by
              show _ = _
              rw [frm_iff]
              exact ⟨hlen32.out.2, hlen32.out.1, hroot.out, fun j hj => hok.out j (by omega) hj⟩
            go_wp2_with fail
            go_ret
            exact ⟨ret_b hf.out.symm, hb⟩

/-
  wrong, Get, Next, Children of the document's answer for trees.
-/


/-
  Same of the document's answer for steps.
-/
theorem uP : Tryd.prog.underlying 36 = some (.slice (Tryd.prog.elem 36)) := by kernel_rfl
theorem eP : Tryd.prog.elem 36 = 43 := by kernel_rfl
theorem zP (w : World) : (sizeOf (Tryd.prog.elem 36)).run Tryd.prog w = .ok 3 w := by rw [eP]; exact Tryd.sizeOf43 w
theorem stp_at {w : World} {v : Value} {xs : List Sp} (h : SlR 3 stpR w v xs) (i : Nat) (h1 : i < xs.length) :
    ∃ (b o : Nat) (nm ar : ByteArray) (ao : Option Addr) (n cap : Nat), (∀ w', (Instr.indexAt 36 v (.int .i64 (i : Int))).run Tryd.prog w' = .ok (.pointer (some ⟨b, o, none⟩)) w') ∧ w.cell? ⟨b, o, none⟩ = some (.string nm) ∧ w.cell? ⟨b, o + 1, none⟩ = some (.slice ao n cap) ∧ w.cell? ⟨b, o + 2, none⟩ = some (.string ar) ∧ strOfNums xs[i].1 = nm ∧ strOfNums xs[i].2.2 = ar ∧ Rd .u32 w (.slice ao n cap) xs[i].2.1 := by
  obtain ⟨b, o, c0, c1, c2, r, e0, e1, e2, u, hR, hU⟩ := slr_idx3 h uP zP i h1
  simp only [List.cons.injEq] at hR
  obtain ⟨rfl, rfl, rfl, _⟩ := hR
  obtain ⟨ao, cap, rfl, _⟩ := rd_form hU
  exact ⟨b, o, _, _, ao, _, cap, r, e0, e1, e2, rfl, rfl, hU⟩
theorem str_ne_L (A B : ByteArray) (a b : List Int) (ha : bytesL a) (hb : bytesL b) (h1 : strOfNums a = A) (h2 : strOfNums b = B) : (A.toList == B.toList) = decide (a = b) := by
  rw [str_beq, ← h1, ← h2]
  simp only [nums_eq a b ha hb]

/-
  Show of the document's answer for paths.
-/
/-- a row of bytes of the call's own -/
def OwnY (base : Nat) (w : World) (v : Value) (xs : List Int) : Prop := w.ownsRow base 5 1 v xs.length (xs.map (Value.int .u8))
theorem rd_n {k : IntKind} {w : World} {ao : Option Addr} {n cap : Nat} {xs : List Int} (h : Rd k w (.slice ao n cap) xs) : n = xs.length := by
  obtain ⟨ao', cap', e, _⟩ := rd_form h
  simp at e
  exact e.2.1
theorem up_in (c : Int) (l : List Int) : l.all (fun x => decide (¬ x = c)) = decide (¬ (upTo c l).length < l.length) := by
  have h1 := upTo_len c l
  rw [Bool.eq_iff_iff, List.all_eq_true]
  constructor
  · intro h
    have := upTo_all c l (fun x hx => by simpa using h x hx)
    rw [this]
    simp
  · intro h x hx
    have h2 : l.length ≤ (upTo c l).length := by simpa using h
    have e := upTo_take c l
    rw [List.take_of_length_le h2] at e
    rw [e] at hx
    simpa using upTo_free c l x hx
theorem ok_nm {x : Sp} (h : nmF x.1 = false) : okS x = false := by simp [okS, h]
theorem ok_un {x : Sp} (h : 4 < x.2.1.length) : okS x = false := by
  have : decide (x.2.1.length ≤ 4) = false := by simp; omega
  simp only [okS, this]
  simp
theorem ok_ar {x : Sp} (h : (upTo 47 x.2.2).length < x.2.2.length) : okS x = false := by
  have : x.2.2.all (fun c => decide (¬ c = 47)) = false := by rw [up_in]; simp [h]
  unfold okS
  rw [this]
  simp
theorem ok_all {x : Sp} (h1 : nmF x.1 = true) (h2 : x.2.1.length ≤ 4) (h3 : ¬ (upTo 47 x.2.2).length < x.2.2.length) : okS x = true := by
  have : x.2.2.all (fun c => decide (¬ c = 47)) = true := by rw [up_in]; simp [h3]
  unfold okS
  rw [h1, this]
  simp [h2]
theorem shp_bad (l : List Sp) (k : Nat) (h : k < l.length) (hb : okS l[k] = false) : shpF l = ([], 1) := by
  unfold shpF
  rw [if_pos]
  rw [Bool.eq_false_iff]
  intro hall
  rw [List.all_eq_true] at hall
  have := hall l[k] (List.getElem_mem h)
  rw [hb] at this
  cases this
theorem shp_snoc (l : List Sp) (x : Sp) : shpT (l ++ [x]) = shpT l ++ 47 :: bodT x := by
  induction l with
  | nil => simp [shpT]
  | cons y l ih => simp [shpT, ih]
theorem shp_take (l : List Sp) (k : Nat) : (shpT (l.take k)).length ≤ (shpT l).length := by
  induction l generalizing k with
  | nil => simp [shpT]
  | cons y l ih =>
    cases k with
    | zero => simp [shpT]
    | succ k =>
      have := ih k
      simp only [List.take_succ_cons, shpT, List.length_cons, List.length_append]
      omega

/-
  Children and Find of the document's answer for trees.
-/
theorem infoI : (Tryd.prog.info? 3).map (fun i => (i.zero, i.size, i.bytes)) = some (some (.int .i64 0), 1, 8) := by kernel_rfl
def OwnI (base : Nat) (w : World) (v : Value) (xs : List Int) : Prop := w.ownsRow base 3 1 v xs.length (xs.map (Value.int .i64))
def chiU (t : List Nd) (n : Int) (i : Nat) : List Int := ((List.range i).filter (fun i => decide (0 ≤ n ∧ (t.getD i ([], [], 0, [], [])).2.2.1 = n))).map (fun (i : Nat) => (i : Int))
theorem chi_len (t : List Nd) (n : Int) (i : Nat) : (chiU t n i).length ≤ i := by
  unfold chiU
  rw [List.length_map]
  exact Nat.le_trans (List.length_filter_le _ _) (by simp)
theorem chi_succ (t : List Nd) (n : Int) (i : Nat) : chiU t n (i + 1) = chiU t n i ++ if 0 ≤ n ∧ (t.getD i ([], [], 0, [], [])).2.2.1 = n then [(i : Int)] else [] := by
  unfold chiU
  rw [List.range_succ, List.filter_append, List.map_append, List.filter_cons, List.filter_nil]
  congr 1
  split
  · rename_i h
    rw [if_pos (by simpa using h)]
    rfl
  · rename_i h
    rw [if_neg (by simpa using h)]
    rfl

/-- the first device that such a step leads to, from k on -/
def ldG (t : List Nd) (p : Nd → Bool) (k : Nat) : Option Nat := ((t.drop k).findIdx? p).map (· + k)
theorem ldG_end (t : List Nd) (p : Nd → Bool) (k : Nat) (h : t.length ≤ k) : ldG t p k = none := by
  unfold ldG
  rw [List.drop_of_length_le h]
  rfl
theorem ldG_at (t : List Nd) (p : Nd → Bool) (k : Nat) (h : k < t.length) : ldG t p k = if p t[k] = true then some k else ldG t p (k + 1) := by
  unfold ldG
  rw [List.drop_eq_getElem_cons h, List.findIdx?_cons]
  split
  · simp
  · cases (t.drop (k + 1)).findIdx? p with
    | none => rfl
    | some j => simp; omega
theorem ldF_G {t : List Nd} (hf : frmT t = true) (a : Nat) (x : Sp) : ldF t a x = ldG t (matN a x.1 x.2.1) 1 := by
  obtain ⟨g0, g1, g2, g3⟩ := (frm_iff t).1 hf
  have e : ldF t a x = ldG t (matN a x.1 x.2.1) 0 := by
    unfold ldF ldG
    simp
  have hr : matN a x.1 x.2.1 t[0] = false := by
    unfold rootF at g2
    simp only [Bool.and_eq_true, decide_eq_true_eq] at g2
    unfold matN
    rw [g2.2.2, decide_eq_false (by omega)]
    rfl
  rw [e, ldG_at t _ 0 g0, if_neg (by rw [hr]; decide)]
theorem ldG_lt (t : List Nd) (p : Nd → Bool) (k j : Nat) (h : ldG t p k = some j) : j < t.length := by
  unfold ldG at h
  rw [Option.map_eq_some_iff] at h
  obtain ⟨m, h1, rfl⟩ := h
  rw [List.findIdx?_eq_some_iff_getElem] at h1
  obtain ⟨g, _⟩ := h1
  rw [List.length_drop] at g
  omega

/-
  Package tree's device, find, New, Get, Next and Children.
-/
set_option maxHeartbeats 1000000 in
theorem w_pdevice (v : Value) (t : List Nd) (n : Int) (w : World) (h : RdT w v t) (bt : ∀ x ∈ t, bytN x) (ls : ∀ x ∈ t, lenN x) :
    Calls Tryd.prog 14 #[v, .int .i64 n] w fun e w' => e = .returned (.int .i64 (wrgF t n)) ∧ Below w.heap.size w w' := by
  have hla := slr_len h uN (P := Tryd.prog)
  have cf := w_p8formed' v t w h bt ls
  cases hf : frmT t
  · have e : wrgF t n = 1 := by unfold wrgF; rw [if_pos hf]
    rw [e]
    rw [hf] at cf
    clear e hf
    go_enter Tryd.func14, Tryd.ntmps14
    go_wp2_with (go_at_call 19; refine cf.mono ?_; rintro e q1 ⟨rfl, b1⟩)
    go_ret
    exact ⟨rfl, b1⟩
  · rw [hf] at cf
    have e : wrgF t n = if n < 0 ∨ (t.length : Int) ≤ n then 19 else 0 := by unfold wrgF; rw [if_neg (by rw [hf]; decide)]
    rw [e]
    clear e hf
    by_cases h0 : n < 0
    · rw [if_pos (Or.inl h0)]
      go_enter Tryd.func14, Tryd.ntmps14
      go_wp2_with (go_at_call 19; refine cf.mono ?_; rintro e q1 ⟨rfl, b1⟩)
      go_ret
      exact ⟨rfl, b1⟩
    · by_cases h1 : (t.length : Int) ≤ n
      · rw [if_pos (Or.inr h1)]
        go_enter Tryd.func14, Tryd.ntmps14
        go_wp2_with (go_at_call 19; refine cf.mono ?_; rintro e q1 ⟨rfl, b1⟩)
        go_ret
        exact ⟨rfl, b1⟩
      · rw [if_neg (by omega)]
        go_enter Tryd.func14, Tryd.ntmps14
        go_wp2_with (go_at_call 19; refine cf.mono ?_; rintro e q1 ⟨rfl, b1⟩)
        go_ret
        exact ⟨rfl, b1⟩

/-- what find answers -/
def fnpF (t : List Nd) (n : Int) (nm : List Int) : Int × Int :=
  if wrgF t n ≠ 0 then (0, wrgF t n) else match pfF (prpF t n) nm with
  | none => (0, 2)
  | some k => ((k : Nat), 0)

set_option maxHeartbeats 1000000 in
theorem w_pfind (v : Value) (t : List Nd) (n : Int) (s : ByteArray) (w : World) (h : RdT w v t) (bt : ∀ x ∈ t, bytN x) (ls : ∀ x ∈ t, lenN x) :
    Calls Tryd.prog 13 #[v, .int .i64 n, .string s] w fun e w' => e = .returned (.tuple #[.int .i64 (fnpF t n (L s)).1, .int .i64 (fnpF t n (L s)).2]) ∧ Below w.heap.size w w' := by
  have cw := w_pdevice v t n w h bt ls
  by_cases hw : wrgF t n = 0
  · obtain ⟨hf, h0, hl⟩ := wrg_ok hw
    rw [hw] at cw
    obtain ⟨k, rfl⟩ : ∃ k : Nat, n = k := ⟨n.toNat, by omega⟩
    have hk : k < t.length := by simpa using hl
    obtain ⟨b1, o1, nm, u1, p1, c1, r1, f0, f1, f2, f3, f4, e1, hu1, hp1, hc1⟩ := nod_at h k hk
    have hpr : prpF t (k : Int) = t[k].2.2.2.1 := by
      have := prp_at (t := t) (n := (k : Int)) (by simpa using hk)
      simpa using this
    have cf := fun W (g : Below w.heap.size w W) => w_pplace p1 _ s W (hp1.below g (propR_below g)) (fun x hx => ((bt _ (List.getElem_mem hk)).2 x hx).1)
    obtain ⟨pa, pq, rfl⟩ := slr_slice hp1
    cases hp : pfF t[k].2.2.2.1 (L s) with
    | none =>
      have eG : fnpF t (k : Int) (L s) = (0, 2) := by unfold fnpF; rw [if_neg (by simpa using hw), hpr, hp]
      rw [eG]
      rw [hp] at cf
      have cf' : ∀ W, Below w.heap.size w W → Calls Tryd.prog 26 #[.slice pa t[k].2.2.2.1.length pq, .string s] W fun e w' => e = .returned (.int .i64 (-1)) ∧ Below W.heap.size W w' := cf
      clear cf eG hp hpr hw hf
      go_enter Tryd.func13, Tryd.ntmps13
      go_wp2_with (first
        | (go_at_call 14; refine cw.mono ?_; rintro e q1 ⟨rfl, b1⟩; have g3 := below_cell b1 f3)
        | (go_at_call 26; refine (cf' _ b1).mono ?_; rintro e q2 ⟨rfl, b2⟩))
      go_ret2
      exact ⟨rfl, below_trans b1 b2⟩
    | some j =>
      have eG : fnpF t (k : Int) (L s) = ((j : Int), 0) := by unfold fnpF; rw [if_neg (by simpa using hw), hpr, hp]
      rw [eG]
      rw [hp] at cf
      have cf' : ∀ W, Below w.heap.size w W → Calls Tryd.prog 26 #[.slice pa t[k].2.2.2.1.length pq, .string s] W fun e w' => e = .returned (.int .i64 (j : Int)) ∧ Below W.heap.size W w' := cf
      have hj : ((j : Int) == -1) = false := by simp
      clear cf eG hp hpr hw hf
      go_enter Tryd.func13, Tryd.ntmps13
      go_wp2_with (first
        | (go_at_call 14; refine cw.mono ?_; rintro e q1 ⟨rfl, b1⟩; have g3 := below_cell b1 f3)
        | (go_at_call 26; refine (cf' _ b1).mono ?_; rintro e q2 ⟨rfl, b2⟩))
      go_ret2
      exact ⟨rfl, below_trans b1 b2⟩
  · have eG : fnpF t n (L s) = (0, wrgF t n) := by unfold fnpF; rw [if_pos hw]
    rw [eG]
    obtain ⟨E, hE⟩ : ∃ E, wrgF t n = E := ⟨_, rfl⟩
    rw [hE] at cw hw
    simp only [hE]
    have hb : (E != 0) = true := by simpa using hw
    clear eG hE hw
    go_enter Tryd.func13, Tryd.ntmps13
    go_wp2_with (go_at_call 14; refine cw.mono ?_; rintro e q1 ⟨rfl, b1⟩)
    go_ret2
    exact ⟨rfl, b1⟩

set_option maxHeartbeats 1000000 in
theorem w_p8new' (w : World) : Calls Tryd.prog 12 #[] w fun e w' => ∃ v, e = .returned v ∧ RdT w' v [([], [], -1, [], [])] ∧ Below w.heap.size w w' := by
  go_enter Tryd.func12, Tryd.ntmps12
  go_wp2_with fail
  go_ret
  refine ⟨_, rfl, ?_, box_below _ _⟩
  refine ownT8_read (base := w.heap.size) ?_
  refine ⟨[[.string ⟨#[]⟩, .slice none 0 0, .int .i64 (-1), .slice none 0 0, .slice none 0 0]], rfl, by simp, ⟨rfl, Or.inr ⟨w.heap.size, 1, #[.string ⟨#[]⟩, .slice none 0 0, .int .i64 (-1), .slice none 0 0, .slice none 0 0], rfl, Nat.le_refl _, heap_alloc_new w _, Nat.le_refl _, by decide, rfl, rfl⟩⟩, fun i hi => ?_⟩
  have : i = 0 := by simp at hi; omega
  subst this
  exact ⟨_, _, _, rfl, World.ownsRow_nil _ _ _ _, OwnR.nil _ _ _ _ _, World.ownsRow_nil _ _ _ _⟩

set_option maxHeartbeats 2000000 in
set_option maxRecDepth 100000 in
theorem w_p8next' (v : Value) (t : List Nd) (n : Int) (s : ByteArray) (w : World) (h : RdT w v t) (bt : ∀ x ∈ t, bytN x) (ls : ∀ x ∈ t, lenN x) :
    Calls Tryd.prog 6 #[v, .int .i64 n, .string s] w fun e w' => e = .returned (.tuple #[.string (strOfNums (nxtF t n (L s)).1), .int .i64 (nxtF t n (L s)).2]) ∧ Below w.heap.size w w' := by
  have cf := w_pfind v t n s w h bt ls
  have es : strOfNums ([] : List Int) = ⟨#[]⟩ := by decide +kernel
  by_cases hw : wrgF t n = 0
  · obtain ⟨hf, h0, hl⟩ := wrg_ok hw
    obtain ⟨p16, pok⟩ := frm_props hf hl
    obtain ⟨k, rfl⟩ : ∃ k : Nat, n = k := ⟨n.toNat, by omega⟩
    have hk : k < t.length := by simpa using hl
    obtain ⟨b1, o1, nm, u1, p1, c1, r1, f0, f1, f2, f3, f4, e1, hu1, hp1, hc1⟩ := nod_at h k hk
    have hlp := slr_len hp1 uR (P := Tryd.prog)
    obtain ⟨pa, pq, rfl⟩ := slr_slice hp1
    have hpr : prpF t (k : Int) = t[k].2.2.2.1 := by
      have := prp_at (t := t) (n := (k : Int)) (by simpa using hk)
      simpa using this
    rw [hpr] at p16
    obtain ⟨np, hnp⟩ : ∃ n, t[k].2.2.2.1.length = n := ⟨_, rfl⟩
    rw [hnp] at f3 hlp
    have hse : (s.toList == []) = decide (L s = []) := by
      rw [Bool.eq_iff_iff, beq_iff_eq, decide_eq_true_eq]
      unfold L
      rw [ByteArray.toList_eq]
      simp
    cases hp : pfF t[k].2.2.2.1 (L s) with
    | some j =>
      have eN : nxtF t (k : Int) (L s) = ((t[k].2.2.2.1.getD (j + 1) ([], [])).1, 0) := by unfold nxtF; rw [if_neg (by simpa using hw), hpr, hp]
      have eF : fnpF t (k : Int) (L s) = ((j : Int), 0) := by unfold fnpF; rw [if_neg (by simpa using hw), hpr, hp]
      rw [eN]
      rw [eF] at cf
      have hj0 : (0 : Int) ≤ j := by omega
      obtain ⟨hjl, _⟩ := pf_some hp
      have hjb : (j : Int) ≤ 16 := by omega
      by_cases hml : j + 1 < t[k].2.2.2.1.length
      · obtain ⟨bp, op, pn, vd, rp, s0, s1, en, hd⟩ := prp_at8 hp1 (j + 1) hml
        have hx : t[k].2.2.2.1.getD (j + 1) ([], []) = t[k].2.2.2.1[j + 1] := by rw [List.getD_eq_getElem?_getD, List.getElem?_eq_getElem hml]; rfl
        simp only [hx, en]
        have hmI : ((j : Int) + 1 == np) = false := by rw [beq_eq_false_iff_ne]; omega
        have rp' : ∀ w', (Instr.indexAt 28 (.slice pa np pq) (.int .i64 ((j : Int) + 1))).run Tryd.prog w' = .ok (.pointer (some ⟨bp, op, none⟩)) w' := by rw [← hnp]; exact rp
        clear rp eN eF hw hf hx en pok hpr hse hnp p16 hd
        go_enter Tryd.func6, Tryd.ntmps6
        go_wp2_with (go_at_call 13; refine cf.mono ?_; rintro e q1 ⟨rfl, b1⟩; have g3 := below_cell b1 f3; have g5 := below_cell b1 s0)
        go_ret2
        exact ⟨rfl, b1⟩
      · have hx : t[k].2.2.2.1.getD (j + 1) ([], []) = ([], []) := by rw [List.getD_eq_getElem?_getD, List.getElem?_eq_none (by omega)]; rfl
        simp only [hx, es]
        have hmI : ((j : Int) + 1 == np) = true := by rw [beq_iff_eq]; omega
        clear eN eF hw hf hx pok hpr hse hnp p16
        go_enter Tryd.func6, Tryd.ntmps6
        go_wp2_with (go_at_call 13; refine cf.mono ?_; rintro e q1 ⟨rfl, b1⟩; have g3 := below_cell b1 f3)
        go_ret2
        exact ⟨rfl, b1⟩
    | none =>
      have eF : fnpF t (k : Int) (L s) = (0, 2) := by unfold fnpF; rw [if_neg (by simpa using hw), hpr, hp]
      rw [eF] at cf
      by_cases hs : L s = []
      · have eN : nxtF t (k : Int) (L s) = ((t[k].2.2.2.1.getD 0 ([], [])).1, 0) := by unfold nxtF; rw [if_neg (by simpa using hw), hpr, hp]; simp [hs]
        rw [eN]
        rw [decide_eq_true hs] at hse
        have gq1 : s.toList = [] := by simpa using hse
        have gq3 : s.toList.isEmpty = true := by rw [gq1]; rfl
        clear hs hse
        by_cases hml : 0 < t[k].2.2.2.1.length
        · obtain ⟨bp, op, pn, vd, rp, s0, s1, en, hd⟩ := prp_at8 hp1 (0) hml
          have hx : t[k].2.2.2.1.getD (0) ([], []) = t[k].2.2.2.1[0] := by rw [List.getD_eq_getElem?_getD, List.getElem?_eq_getElem hml]; rfl
          simp only [hx, en]
          have hmI : ((0 : Int) == np) = false := by rw [beq_eq_false_iff_ne]; omega
          have rp' : ∀ w', (Instr.indexAt 28 (.slice pa np pq) (.int .i64 ((0 : Int)))).run Tryd.prog w' = .ok (.pointer (some ⟨bp, op, none⟩)) w' := by rw [← hnp]; exact rp
          clear rp eN eF hw hf hx en pok hpr hnp p16 hp hd hml
          go_enter Tryd.func6, Tryd.ntmps6
          go_wp2_with (go_at_call 13; refine cf.mono ?_; rintro e q1 ⟨rfl, b1⟩; have g3 := below_cell b1 f3; have g5 := below_cell b1 s0)
          go_ret2
          exact ⟨rfl, b1⟩
        · have hx : t[k].2.2.2.1.getD (0) ([], []) = ([], []) := by rw [List.getD_eq_getElem?_getD, List.getElem?_eq_none (by omega)]; rfl
          simp only [hx, es]
          have hmI : ((0 : Int) == np) = true := by rw [beq_iff_eq]; omega
          clear eN eF hw hf hx pok hpr hnp p16 hp hml
          go_enter Tryd.func6, Tryd.ntmps6
          go_wp2_with (go_at_call 13; refine cf.mono ?_; rintro e q1 ⟨rfl, b1⟩; have g3 := below_cell b1 f3)
          go_ret2
          exact ⟨rfl, b1⟩
      · have eN : nxtF t (k : Int) (L s) = ([], 2) := by unfold nxtF; rw [if_neg (by simpa using hw), hpr, hp]; simp [hs]
        rw [eN, es]
        rw [decide_eq_false hs] at hse
        have gq1 : ¬ s.toList = [] := by intro g; rw [g] at hse; cases hse
        have gq3 : s.toList.isEmpty = false := by rw [← hse]; cases s.toList <;> rfl
        clear eN eF hp hpr pok hw hf hs
        go_enter Tryd.func6, Tryd.ntmps6
        go_wp2_with (go_at_call 13; refine cf.mono ?_; rintro e q1 ⟨rfl, b1⟩; have g3 := below_cell b1 f3)
        go_ret2
        exact ⟨rfl, b1⟩
  · have eG : nxtF t n (L s) = ([], wrgF t n) := by unfold nxtF; rw [if_pos hw]
    have eF : fnpF t n (L s) = (0, wrgF t n) := by unfold fnpF; rw [if_pos hw]
    rw [eG, es]
    rw [eF] at cf
    have h2 : wrgF t n = 1 ∨ wrgF t n = 19 := by
      rcases wrg_err (t := t) (n := n) with g | g
      · exact absurd g hw
      · exact g
    obtain ⟨E, hE⟩ : ∃ E, wrgF t n = E := ⟨_, rfl⟩
    rw [hE] at hw h2
    simp only [hE] at cf ⊢
    have hb : (E != 0) = true := by simpa using hw
    have hb2 : (E == 2) = false := by rw [beq_eq_false_iff_ne]; omega
    clear eG eF hE hw h2
    go_enter Tryd.func6, Tryd.ntmps6
    go_wp2_with (go_at_call 13; refine cf.mono ?_; rintro e q1 ⟨rfl, b1⟩)
    go_ret2
    exact ⟨rfl, b1⟩

/-
  Find of the document's answer for trees.
-/
theorem fdI_neg (o : Option Nat) : (fdI o < 0) ↔ o = none := by
  cases o with
  | none => simp [fdI]
  | some k => simp [fdI]

/-
  Package tree's Find.
-/
set_option maxHeartbeats 2000000 in
set_option maxRecDepth 100000 in
theorem w_p8find' (v vl : Value) (t : List Nd) (l : List Sp) (w : World) (h : RdT w v t) (hl : SlR 3 stpR w vl l) (bt : ∀ x ∈ t, bytN x) (ls : ∀ x ∈ t, lenN x) (bl : ∀ x ∈ l, bytesL x.1 ∧ bytesL x.2.2) :
    Calls Tryd.prog 9 #[v, vl] w fun e w' => e = .returned (.tuple #[.int .i64 (finT t l).1, .int .i64 (finT t l).2]) ∧ Below w.heap.size w w' := by
  have hla := slr_len h uN (P := Tryd.prog)
  have hlb := slr_len hl uP (P := Tryd.prog)
  have hml := slr_max hl
  unfold maxLen at hml
  have cf := w_p8formed' v t w h bt ls
  cases hf : frmT t
  · have e : finT t l = (0, 1) := by unfold finT; rw [if_pos hf]
    rw [e]
    rw [hf] at cf
    clear e hf
    go_enter Tryd.func9, Tryd.ntmps9
    go_wp2_with (go_at_call 19; refine cf.mono ?_; rintro e q1 ⟨rfl, b1⟩)
    go_ret2
    exact ⟨rfl, b1⟩
  · rw [hf] at cf
    obtain ⟨g0, g1, _, _⟩ := (frm_iff t).1 hf
    obtain ⟨A, E, hAE⟩ : ∃ A E, finT t l = (A, E) := ⟨_, _, rfl⟩
    have no : finF t l 0 = none → A = 0 ∧ E = 19 := by
      intro g
      have e : finT t l = (0, 19) := by unfold finT; rw [if_neg (by rw [hf]; decide), g]
      rw [hAE] at e
      exact Prod.mk.inj e
    have yes : ∀ k : Nat, finF t l 0 = some k → A = k ∧ E = 0 := by
      intro k g
      have e : finT t l = ((k : Int), 0) := by unfold finT; rw [if_neg (by rw [hf]; decide), g]
      rw [hAE] at e
      exact Prod.mk.inj e
    rw [hAE]
    have No := hid no
    have Yes := hid yes
    show Calls _ _ _ _ fun e w' => e = .returned (.tuple #[.int .i64 A, .int .i64 E]) ∧ _
    clear hAE no yes hf
    go_enter Tryd.func9, Tryd.ntmps9
    go_wp2_with (go_at_call 19; refine cf.mono ?_; rintro e q1 ⟨rfl, b1⟩)
    go_loopw [6, 14] (fun T I wx => ∃ (a i : Nat), T = .int .i64 a ∧ I = .int .i64 i ∧ (i : Int) ≤ l.length ∧ (a : Int) < t.length ∧ Hid (finF t l 0 = finF t (l.drop i) a) ∧ Below w.heap.size w wx) (fun _ I _ => (l.length - intOf I).toNat)
    case atStart => exact ⟨0, 0, rfl, rfl, by omega, by omega, hid rfl, b1⟩
    case round =>
      clear b1 cf
      obtain ⟨a, i, rfl, rfl, hi, ha, hin, hb⟩ := hrel
      by_cases hlt : (i : Int) < l.length
      · have hil : i < l.length := by omega
        obtain ⟨bs, os, sn, sa, so, nU, sc, rs, s0, s1, s2, es, ea, hsu⟩ := stp_at (hl.below hb (stpR_below hb)) i hil
        have hdrop : l.drop i = l[i] :: l.drop (i + 1) := List.drop_eq_getElem_cons hil
        have hstep : finF t (l.drop i) a = match ldF t a l[i] with
            | none => none
            | some k => finF t (l.drop (i + 1)) k := by rw [hdrop]; rfl
        have hbl : bytesL l[i].1 := (bl _ (List.getElem_mem hil)).1
        have hbx := box_below wr (.cells #[.string sn, .slice so nU sc, .string sa] 43)
        have st := stands_new wr #[.string sn, .slice so nU sc, .string sa] 43
        have y0 := st.cell 0 _ rfl
        have y1 := st.cell 1 _ rfl
        have y2 := st.cell 2 _ rfl
        have cm := w_pmeant sn sa _ l[i] t _ es hbl (hsu.below hbx) bt
        have ck := fun W (g : Below w.heap.size w W) gg lb eg ha => w_pchild v t (a : Int) gg lb (fun y => decide (y.1 = (l[i]'hil).1) && (decide ((l[i]'hil).2.1 = []) || decide (y.2.1 = (l[i]'hil).2.1))) W eg (h.below g) ha
        have hb2 := below_trans hb hbx
        have hLd : t.findIdx? (fun x => decide (x.2.2.1 = (a : Int)) && (fun y : Nd => decide (y.1 = l[i].1) && (decide (l[i].2.1 = []) || decide (y.2.1 = l[i].2.1))) x) = ldF t a l[i] := rfl
        simp only [hLd] at ck
        cases hg : ldF t a l[i] with
        | none =>
          have He := hid (No.out (by rw [hin.out, hstep, hg]))
          simp only [hg] at ck
          have ck' : ∀ W, Below w.heap.size w W → ∀ gg lb, (∀ args w, (callFunc gg args).run Tryd.prog w = .ok (.enter gg args) w) → AskN W gg lb (fun y => decide (y.1 = l[i].1) && (decide (l[i].2.1 = []) || decide (y.2.1 = l[i].2.1))) t → Calls Tryd.prog 20 #[v, .int .i64 a, .func (.func gg) #[] lb] W fun e w' => e = .returned (.int .i64 (-1)) ∧ Below W.heap.size W w' := ck
          have CK := hid ck'
          clear hg hstep hdrop hLd es ea ck ck'
          go_wp2_with (first
            | (go_at_call 21; refine cm.mono ?_; rintro e w2 ⟨gg, lb, rfl, eg, ha2, b2⟩)
            | (go_at_call 20; refine (CK.out _ (below_trans hb2 b2) gg lb eg ha2).mono ?_; rintro e w3 ⟨rfl, b3⟩))
          go_ret2
          obtain ⟨rfl, rfl⟩ := He.out
          exact ⟨rfl, below_trans (below_trans hb2 b2) b3⟩
        | some j =>
          have hjl : j < t.length := by
            have := hg
            unfold ldF at this
            rw [List.findIdx?_eq_some_iff_getElem] at this
            exact this.1
          have hin2 : Hid (finF t l 0 = finF t (l.drop (i + 1)) j) := by show _ = _; rw [hin.out, hstep, hg]
          simp only [hg] at ck
          have ck' : ∀ W, Below w.heap.size w W → ∀ gg lb, (∀ args w, (callFunc gg args).run Tryd.prog w = .ok (.enter gg args) w) → AskN W gg lb (fun y => decide (y.1 = l[i].1) && (decide (l[i].2.1 = []) || decide (y.2.1 = l[i].2.1))) t → Calls Tryd.prog 20 #[v, .int .i64 a, .func (.func gg) #[] lb] W fun e w' => e = .returned (.int .i64 (j : Int)) ∧ Below W.heap.size W w' := ck
          have CK := hid ck'
          have hj : ((j : Int) == -1) = false := by simp
          clear hg hstep hdrop hLd es ea ck ck'
          go_wp2_with (first
            | (go_at_call 21; refine cm.mono ?_; rintro e w2 ⟨gg, lb, rfl, eg, ha2, b2⟩)
            | (go_at_call 20; refine (CK.out _ (below_trans hb2 b2) gg lb eg ha2).mono ?_; rintro e w3 ⟨rfl, b3⟩))
          go_roundw
          case rel => exact ⟨j, i + 1, rfl, by go_num, by omega, by omega, hin2, below_trans (below_trans hb2 b2) b3⟩
          case measure => simp [intOf]; omega
      · have e := Yes.out a (by rw [hin.out, List.drop_of_length_le (by omega)]; rfl)
        have He := hid e
        clear e
        go_wp2_with fail
        go_ret2
        obtain ⟨rfl, rfl⟩ := He.out
        exact ⟨rfl, hb⟩

/-
  Copy of the document's answer for trees.
-/
theorem infoNode : (Tryd.prog.info? 30).map (fun i => (i.zero, i.size, i.bytes)) = some (some (.agg #[.string ⟨#[]⟩, .slice none 0 0, .int .i64 0, .slice none 0 0, .slice none 0 0]), 5, 96) := by kernel_rfl
theorem infoProp : (Tryd.prog.info? 33).map (fun i => (i.zero, i.size, i.bytes)) = some (some (.agg #[.string ⟨#[]⟩, .slice none 0 0]), 2, 40) := by kernel_rfl

/-- no two devices' properties lie in one block -/
def SepR (rows : List (List Value)) : Prop := ∀ i j g, i < j → j < rows.length → ((rows.getD i []).getD 3 (.slice none 0 0)).ownBlock = some g → ((rows.getD j []).getD 3 (.slice none 0 0)).ownBlock ≠ some g
/-- devices of the call's own, apart from one another -/
def OwnTS (base : Nat) (w : World) (v : Value) (t : List Nd) : Prop := ∃ rows : List (List Value), rows.length = t.length ∧ (∀ r ∈ rows, r.length = 5) ∧ w.ownsRow base 30 5 v t.length rows.flatten ∧ (∀ i (h : i < t.length), nodO base w (rows.getD i []) t[i]) ∧ SepR rows
theorem OwnTS.own {base : Nat} {w : World} {v : Value} {t : List Nd} (h : OwnTS base w v t) : OwnT8 base w v t := by
  obtain ⟨rows, h1, h2, h3, h4, _⟩ := h
  exact ⟨rows, h1, h2, h3, h4⟩
theorem OwnTS.nil (base : Nat) (w : World) : OwnTS base w (.slice none 0 0) [] := ⟨[], rfl, by simp, World.ownsRow_nil _ _ _ _, fun i hi => by simp at hi, fun i j g h1 h2 => by simp at h2⟩
theorem OwnTS.below {base : Nat} {w w' : World} {v : Value} {t : List Nd} (h : OwnTS base w v t) (g : Below w.heap.size w w') : OwnTS base w' v t := by
  obtain ⟨rows, h1, h2, h3, h4, h5⟩ := h
  exact ⟨rows, h1, h2, own_kept (T := 5) (Kept.below g) (by decide) h3, fun i hi => nodO_below g _ _ (h4 i hi), h5⟩
theorem OwnTS.le {b b' : Nat} {w : World} {v : Value} {t : List Nd} (hb : b ≤ b') (h : OwnTS b' w v t) : OwnTS b w v t := by
  obtain ⟨rows, h1, h2, h3, h4, h5⟩ := h
  exact ⟨rows, h1, h2, own_le hb h3, fun i hi => nodO_le hb _ _ (h4 i hi), h5⟩
theorem sep_snoc {rows : List (List Value)} {row : List Value} (h : SepR rows) (hn : ∀ i g, i < rows.length → ((rows.getD i []).getD 3 (.slice none 0 0)).ownBlock = some g → (row.getD 3 (.slice none 0 0)).ownBlock ≠ some g) : SepR (rows ++ [row]) := by
  intro i j g hij hj hi
  have hlen : (rows ++ [row]).length = rows.length + 1 := by simp
  have ei : (rows ++ [row]).getD i [] = rows.getD i [] := by
    rw [List.getD_eq_getElem?_getD, List.getD_eq_getElem?_getD, List.getElem?_append_left (by omega)]
  rw [ei] at hi
  by_cases hlt : j < rows.length
  · have ej : (rows ++ [row]).getD j [] = rows.getD j [] := by
      rw [List.getD_eq_getElem?_getD, List.getD_eq_getElem?_getD, List.getElem?_append_left hlt]
    rw [ej]
    exact h i j g hij hlt hi
  · have hj2 : j = rows.length := by omega
    subst hj2
    have ej : (rows ++ [row]).getD rows.length [] = row := by
      rw [List.getD_eq_getElem?_getD, List.getElem?_append_right (Nat.le_refl _)]
      simp
    rw [ej]
    exact hn i g hij hi
theorem OwnTS.snoc {base : Nat} {w w' : World} {U v' : Value} {xs : List Nd} {x : Nd} {row : List Value} {rows : List (List Value)} (h1 : rows.length = xs.length) (h2 : ∀ r ∈ rows, r.length = 5) (h3 : w.ownsRow base 30 5 U xs.length rows.flatten) (h4 : ∀ i (h : i < xs.length), nodO base w (rows.getD i []) xs[i])
    (h5 : SepR (rows ++ [row])) (hr : row.length = 5) (hx : nodO base w row x) (o : w'.ownsRow base 30 5 v' (xs.length + 1) (rows.flatten ++ row)) (g : w.grownBy w' U.ownBlock) : OwnTS base w' v' (xs ++ [x]) := by
  have k := Kept.own h3 g
  have ha : Apt 30 (nodO base) := nodO_apt (by decide) (by decide) (by decide)
  refine ⟨rows ++ [row], by simp [h1], fun r hm => ?_, by simpa using o, fun i hi => ?_, h5⟩
  · rcases List.mem_append.1 hm with hm | hm
    · exact h2 r hm
    · simp at hm; subst hm; exact hr
  · by_cases hlt : i < xs.length
    · rw [List.getD_eq_getElem?_getD, List.getElem?_append_left (by omega), List.getElem_append_left hlt, ← List.getD_eq_getElem?_getD]
      exact ha _ _ _ _ k (h4 i hlt)
    · have hi2 : i = xs.length := by simp at hi; omega
      subst hi2
      rw [List.getD_eq_getElem?_getD, List.getElem?_append_right (by omega), h1]
      simp
      exact ha _ _ _ _ k hx
theorem one5 (nm : ByteArray) (a : Option Addr) (l c : Nat) (p : Int) (a2 : Option Addr) (l2 c2 : Nat) (a3 : Option Addr) (l3 c3 : Nat) : ∀ r ∈ [[Value.string nm, .slice a l c, .int .i64 p, .slice a2 l2 c2, .slice a3 l3 c3]], ∀ u ∈ r, u.oneCell' = true := by
  intro r hr u hu
  simp at hr
  subst hr
  simp at hu
  rcases hu with rfl | rfl | rfl | rfl | rfl <;> rfl
theorem one2 (pn : ByteArray) (a : Option Addr) (l c : Nat) : ∀ r ∈ [[Value.string pn, .slice a l c]], ∀ u ∈ r, u.oneCell' = true := by
  intro r hr u hu
  simp at hr
  subst hr
  simp at hu
  rcases hu with rfl | rfl <;> rfl
theorem set_kept {w : World} {b : Nat} {cs : Array Value} {T : TypeId} (h : Stands w b cs T) (j : Nat) (u : Value) : Kept T w (w.setCell ⟨b, j, none⟩ u) := by
  refine Kept.stands h ⟨rfl, rfl, rfl, by simp, fun k hk hne => ?_⟩
  exact Below.heap_setCell _ _ _ k (fun e => hne (by rw [e]))
theorem set5 {w : World} {b : Nat} {z0 z1 z2 z3 z4 : Value} {T : TypeId} (h : Stands w b #[z0, z1, z2, z3, z4] T) (a0 a1 a2 a3 a4 : Value) :
    Stands (((((w.setCell ⟨b, 0, none⟩ a0).setCell ⟨b, 1, none⟩ a1).setCell ⟨b, 2, none⟩ a2).setCell ⟨b, 3, none⟩ a3).setCell ⟨b, 4, none⟩ a4) b #[a0, a1, a2, a3, a4] T ∧
    (∀ {base : Nat} {e : TypeId} {sz : Nat} {v : Value} {n : Nat} {xs : List Value}, ¬ e = T → w.ownsRow base e sz v n xs → (((((w.setCell ⟨b, 0, none⟩ a0).setCell ⟨b, 1, none⟩ a1).setCell ⟨b, 2, none⟩ a2).setCell ⟨b, 3, none⟩ a3).setCell ⟨b, 4, none⟩ a4).ownsRow base e sz v n xs) := by
  have h0 := h.set 0 a0
  have h1 := h0.set 1 a1
  have h2 := h1.set 2 a2
  have h3 := h2.set 3 a3
  have h4 := h3.set 4 a4
  exact ⟨h4, fun hne o => own_kept (set_kept h3 4 a4) hne (own_kept (set_kept h2 3 a3) hne (own_kept (set_kept h1 2 a2) hne (own_kept (set_kept h0 1 a1) hne (own_kept (set_kept h 0 a0) hne o))))⟩

end Go.Proofs.YtkdaimagdmbnfabDoor
