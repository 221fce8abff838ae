/-
  Texts of one proof, laid one behind the other: Ps1 Tf2 Pnq Tf3 Tf4 Rt4 Ra4 Ra5 Rt5.
-/
import Derived.Test.YtkdaimagdmbnfaaDoorB2
import Derived.Laws.BitsAllLaws
import Derived.Deep.RegionHeld
import Derived.Deep.Cut
import Derived.Deep.CutRange
import Derived.Deep.DeepCutAuto
namespace Go.Proofs.YtkdaimagdmbnfaaDoor
open Go.ChangeShapes Go.WideShapes Go.ChangeAt Go.RowKit
set_option linter.unusedVariables false
set_option linter.unusedSimpArgs false

/-
  Names, numbers, texts and rows of bytes, as package prop answers them.
-/
theorem barred : L ⟨#[47, 92, 58, 91, 93, 64]⟩ = [47, 92, 58, 91, 93, 64] := by decide +kernel
theorem atB_bar {c i : Int} (h : AtB (L ⟨#[47, 92, 58, 91, 93, 64]⟩) c i) (h0 : 33 ≤ c) (h1 : c ≤ 126) (h2 : ¬ (65 ≤ c ∧ c ≤ 90)) : decide (i < 0) = nmC c := by
  rw [barred] at h
  rcases h with ⟨rfl, h⟩ | ⟨k, rfl, hk, he, h⟩
  · have a := h 47 (by simp); have b := h 92 (by simp); have d := h 58 (by simp); have e := h 91 (by simp); have f := h 93 (by simp); have g := h 64 (by simp)
    unfold nmC
    simp
    omega
  · have hm : c ∈ ([47, 92, 58, 91, 93, 64] : List Int) := by rw [he]; simp
    have hc : c = 47 ∨ c = 92 ∨ c = 58 ∨ c = 91 ∨ c = 93 ∨ c = 64 := by simpa using hm
    have e : nmC c = false := by
      unfold nmC
      rw [decide_eq_false_iff_not]
      omega
    rw [e, decide_eq_false_iff_not]
    omega

set_option maxHeartbeats 1000000 in
set_option maxRecDepth 100000 in
theorem w_inn (c : Int) (w : World) (h0 : 0 ≤ c) (h1 : c < 256) : Calls Tryd.prog 67 #[.int .u8 c] w fun e w' => e = .returned (.bool (nmC c)) ∧ Below w.heap.size w w' := by
  rcases (show c < 33 ∨ 126 < c ∨ (65 ≤ c ∧ c ≤ 90) ∨ (33 ≤ c ∧ c < 65) ∨ (90 < c ∧ c ≤ 126) by omega) with h | h | ⟨h, g⟩ | ⟨h, g⟩ | ⟨h, g⟩
  · have e : nmC c = false := by unfold nmC; simp; omega
    rw [e]
    clear e
    go_enter Tryd.func67, Tryd.ntmps67
    go_wp2_with fail
    go_ret
    exact ⟨rfl, Below.refl _ _⟩
  · have e : nmC c = false := by unfold nmC; simp; omega
    rw [e]
    clear e
    go_enter Tryd.func67, Tryd.ntmps67
    go_wp2_with fail
    go_ret
    exact ⟨rfl, Below.refl _ _⟩
  · have e : nmC c = false := by unfold nmC; simp; omega
    rw [e]
    clear e
    go_enter Tryd.func67, Tryd.ntmps67
    go_wp2_with fail
    go_ret
    exact ⟨rfl, Below.refl _ _⟩
  · go_enter Tryd.func67, Tryd.ntmps67
    go_wp2_with (go_at_call 78; refine (w_sib _ c _ h0 h1).mono ?_; rintro e w1 ⟨i, rfl, hi, rfl⟩; have H := hid (atB_bar hi (by omega) (by omega) (by omega)); clear hi)
    go_ret
    exact ⟨ret_b (by first | exact H.out | (rw [← H.out, decide_eq_false (show ¬ c ≤ 90 by omega)]; rfl)), Below.refl _ _⟩
  · go_enter Tryd.func67, Tryd.ntmps67
    go_wp2_with (go_at_call 78; refine (w_sib _ c _ h0 h1).mono ?_; rintro e w1 ⟨i, rfl, hi, rfl⟩; have H := hid (atB_bar hi (by omega) (by omega) (by omega)); clear hi)
    go_ret
    exact ⟨ret_b (by first | exact H.out | (rw [← H.out, decide_eq_false (show ¬ c ≤ 90 by omega)]; rfl)), Below.refl _ _⟩

set_option maxHeartbeats 1000000 in
set_option maxRecDepth 100000 in
theorem w_pnamed (s : ByteArray) (w : World) (hs : s.size ≤ maxLen) :
    Calls Tryd.prog 53 #[.string s] w fun e w' => e = .returned (.bool (nmF (L s))) ∧ Below w.heap.size w w' := by
  have hs2 := hs
  unfold maxLen at hs2
  by_cases h0 : s.size = 0
  · have hs : s = ⟨#[]⟩ := by
      apply ByteArray.ext
      exact Array.eq_empty_of_size_eq_zero h0
    subst hs
    go_enter Tryd.func53, Tryd.ntmps53
    go_wp2_with fail
    go_ret
    exact ⟨rfl, Below.refl _ _⟩
  · have hemp : s.toList.isEmpty = false := by
      rw [← decide_eq_emptyBytes]
      exact decide_eq_false (fun h => h0 (by rw [h]; rfl))
    by_cases h31 : (31 : Int) < s.size
    · have e : nmF (L s) = false := by unfold nmF; rw [L_len, show decide (1 ≤ s.size ∧ s.size ≤ 31) = false by simp; omega]; rfl
      rw [e]
      clear e
      go_enter Tryd.func53, Tryd.ntmps53
      go_wp2_with fail
      go_ret
      exact ⟨rfl, Below.refl _ _⟩
    · go_enter Tryd.func53, Tryd.ntmps53
      go_wp2_with fail
      go_loopw [13] (fun I wx => ∃ (k : Nat), (k : Int) ≤ s.size ∧ I = .int .i64 k ∧ Hid (((L s).take k).all nmC = true) ∧ Below w.heap.size w wx) (fun I _ => (s.size - intOf I).toNat)
      case atStart => exact ⟨0, by omega, rfl, hid rfl, Below.refl _ _⟩
      case round =>
        obtain ⟨k, hk, rfl, ha, hb⟩ := hrel
        by_cases hlt : (k : Int) < s.size
        · have hkk : k < s.size := by omega
          obtain ⟨c, hc⟩ : ∃ c, (s[k].toNat : Int) = c := ⟨_, rfl⟩
          have hcb := L_bd s k hkk
          rw [hc] at hcb
          obtain ⟨c0, c1⟩ := hcb
          have hLd : Hid (L s = (L s).take k ++ c :: (L s).drop (k + 1)) := by
            show _ = _
            rw [← hc, ← L_drop s k hkk, List.take_append_drop]
          have hLt : Hid ((L s).take (k + 1) = (L s).take k ++ [c]) := by show _ = _; rw [← hc]; exact L_take s k hkk
          have hrun := run_at (w := wr) s k hkk hs
          rw [hc] at hrun
          have cn := w_inn c wr c0 c1
          cases hcc : nmC c
          · have hf : Hid (nmF (L s) = false) := by show _ = _; rw [hLd.out]; exact nm_mid _ _ _ hcc
            rw [hcc] at cn
            clear hcc hLd hLt hc
            go_wp2_with (go_at_call 67; refine cn.mono ?_; rintro e w1 ⟨rfl, b1⟩)
            go_ret
            exact ⟨ret_b hf.out.symm, below_trans hb b1⟩
          · have ha2 : Hid (((L s).take (k + 1)).all nmC = true) := by
              show _ = _
              rw [hLt.out, List.all_append, ha.out]
              simp [hcc]
            rw [hcc] at cn
            clear hcc hLd hLt hc
            go_wp2_with (go_at_call 67; refine cn.mono ?_; rintro e w1 ⟨rfl, b1⟩)
            go_roundw
            case rel => exact ⟨k + 1, by omega, by go_num, ha2, below_trans hb b1⟩
            case measure => simp [intOf]; omega
        · have hall := ha.out
          rw [List.take_of_length_le (by rw [L_len]; omega)] at hall
          have hf : Hid (nmF (L s) = true) := by show _ = _; unfold nmF; rw [hall, L_len]; simp; omega
          clear hall
          obtain rfl : k = s.size := by omega
          go_wp2_with fail
          go_ret
          exact ⟨ret_b hf.out.symm, hb⟩

/-- bytes of a text -/
theorem rd_conv (w : World) (s : ByteArray) (hs : s.size ≤ maxLen) : Rd .u8 (Lib.bytesWorld w 5 s) (.slice (some ⟨w.heap.size, 0, none⟩) s.size (grownCap w s.size 0 5)) (L s) := by
  rcases Nat.eq_zero_or_pos s.size with h0 | h0
  · refine Or.inl ⟨_, _, by rw [h0], (fun h => by cases h), List.eq_nil_of_length_eq_zero (by rw [L_len]; exact h0)⟩
  · refine Or.inr ⟨w.heap.size, 0, _, by rw [L_len], by rw [L_len]; exact h0, by rw [L_len]; exact grownCap_ge _ _ _ _, grownCap_le_maxLen _ _ _ _ hs, fun i hi => ?_⟩
    rw [L_len] at hi
    rw [Nat.zero_add, Lib.bytesWorld_cell w 5 s i hi, L_getD s i hi, List.getD_eq_getElem?_getD, List.getElem?_eq_getElem (by rw [L_len]; exact hi), L_get s i hi]
    rfl
theorem byt0 : bytesL [0] := by
  intro x hx
  simp at hx
  omega
/-- two slices of bytes in a list that is written out -/
theorem slr_two (w : World) (a b : Value) (xa xb : List Int) (T : TypeId) (ha : Rd .u8 w a xa) (hxa : bytesL xa) (hb : Rd .u8 w b xb) (hxb : bytesL xb) : SlR 1 bytR (w.alloc (.cells #[a, b] T)) (.slice (some ⟨w.heap.size, 0, none⟩) 2 2) [xa, xb] := by
  have hg := box_below w (.cells #[a, b] T)
  refine ⟨[[a], [b]], Or.inr ⟨w.heap.size, 0, 2, rfl, by simp, by simp, by decide, fun i hi => ?_⟩, rfl, fun i hi => ?_⟩
  · have : i = 0 ∨ i = 1 := by simp at hi; omega
    rcases this with rfl | rfl
    · refine ⟨rfl, fun j hj => ?_⟩
      obtain rfl : j = 0 := by omega
      rw [World.cell?_alloc_new]
      rfl
    · refine ⟨rfl, fun j hj => ?_⟩
      obtain rfl : j = 0 := by omega
      rw [World.cell?_alloc_new]
      rfl
  · have : i = 0 ∨ i = 1 := by simp at hi; omega
    rcases this with rfl | rfl
    · exact ⟨a, rfl, ha.below hg, hxa⟩
    · exact ⟨b, rfl, hb.below hg, hxb⟩
theorem atB_zero {l : List Int} {i : Int} (h : AtB l 0 i) : (i < 0 ∧ l.all (fun c => decide (¬ c = 0)) = true) ∨ (0 ≤ i ∧ l.all (fun c => decide (¬ c = 0)) = false) := by
  rcases h with ⟨rfl, h⟩ | ⟨k, rfl, hk, he, h⟩
  · refine Or.inl ⟨by decide, ?_⟩
    rw [List.all_eq_true]
    intro x hx
    simpa using h x hx
  · refine Or.inr ⟨by omega, ?_⟩
    rw [he]
    simp

/-
  Package tree's meant, addressed, isRoot, placed and propsFormed.
-/
theorem eg_called : ∀ args w, (callFunc 65 args).run Tryd.prog w = .ok (.enter 65 args) w := enters_of Tryd.func65 (by kernel_rfl) rfl
theorem eg_meant : ∀ args w, (callFunc 70 args).run Tryd.prog w = .ok (.enter 70 args) w := enters_of Tryd.func70 (by kernel_rfl) rfl

set_option maxHeartbeats 1000000 in
set_option maxRecDepth 100000 in
theorem w_pmeant (nm ar : ByteArray) (vu : Value) (x : Sp) (t : List Nd) (w : World) (e0 : strOfNums x.1 = nm) (bx : bytesL x.1) (hu : Rd .u32 w vu x.2.1) (bt : ∀ x ∈ t, bytN x) :
    Calls Tryd.prog 57 #[.agg #[.string nm, vu, .string ar]] w fun e w' => ∃ g lb, e = .returned (.func (.func g) #[] lb) ∧ (∀ args w, (callFunc g args).run Tryd.prog w = .ok (.enter g args) w) ∧ AskN w' g lb (fun y => decide (y.1 = x.1) && (decide (x.2.1 = []) || decide (y.2.1 = x.2.1))) t ∧ Below w.heap.size w w' := by
  have hmf : ∀ (fn : Fn) (first cap : Array Value) (w : World), (Instr.makeFunc fn first cap).run Tryd.prog w = .ok (.func fn first cap) w := fun _ _ _ _ => rfl
  have hl := rd_len hu uU (P := Tryd.prog)
  obtain ⟨ua, uq, rfl⟩ := rd_slice hu
  have st := stands_new w #[.string nm, .slice ua x.2.1.length uq, .string ar] 78
  have bw := box_below w (.cells #[.string nm, .slice ua x.2.1.length uq, .string ar] 78)
  have z0 := st.cell 0 _ rfl
  have z1 := st.cell 1 _ rfl
  have hL : L nm = x.1 := by rw [← e0]; exact LB_nums x.1 bx
  by_cases h0 : (0 : Int) < x.2.1.length
  · have hne : ¬ x.2.1 = [] := by intro h; rw [h] at h0; simp at h0
    have cc := w_pcalled nm _ x.2.1 t _ (hu.below bw) bt
    have hA : Hid (∀ W lb, AskN W 65 lb (fun y => decide (y.1 = L nm) && decide (y.2.1 = x.2.1)) t → AskN W 65 lb (fun y => decide (y.1 = x.1) && (decide (x.2.1 = []) || decide (y.2.1 = x.2.1))) t) := by
      show ∀ W lb, _
      intro W lb h
      rw [decide_eq_false hne]
      simpa only [hL, Bool.false_or] using h
    clear hne hL e0
    go_enter Tryd.func57, Tryd.ntmps57
    go_wp2_with (go_at_call 51; refine cc.mono ?_; rintro e w1 ⟨lb, rfl, ha, b1⟩)
    go_ret
    exact ⟨_, lb, rfl, eg_called, hA.out _ _ ha, below_trans bw b1⟩
  · have he : x.2.1 = [] := List.eq_nil_of_length_eq_zero (by omega)
    have ha : Hid (AskN (w.alloc (.cells #[.string nm, .slice ua x.2.1.length uq, .string ar] 78)) 70 #[.pointer (some ⟨w.heap.size, 0, none⟩)] (fun y => decide (y.1 = x.1) && (decide (x.2.1 = []) || decide (y.2.1 = x.2.1))) t) := by
      show AskN _ _ _ _ _
      rw [he]
      intro W nm2 vu2 vp2 vc2 y hb hy e2 hu2 hp2 hc2
      have := w_pmeant1 nm2 nm vu2 vp2 vc2 y _ W e2 (bt y hy).1 hu2 hp2 hc2 (below_cell hb (by rw [he] at z0; exact z0))
      rw [hL] at this
      simpa using this
    clear he hL e0
    go_enter Tryd.func57, Tryd.ntmps57
    go_wp2_with fail
    go_ret
    exact ⟨_, _, rfl, eg_meant, ha.out, bw⟩

set_option maxHeartbeats 1000000 in
theorem w_paddressed (s : ByteArray) (vu : Value) (un : List Int) (w : World) (hs : s.size ≤ maxLen) (hu : Rd .u32 w vu un) :
    Calls Tryd.prog 49 #[.string s, vu] w fun e w' => e = .returned (.bool (nmF (L s) && decide (un.length ≤ 4))) ∧ Below w.heap.size w w' := by
  have hl := rd_len hu uU (P := Tryd.prog)
  have cn := w_pnamed s w hs
  cases hnm : nmF (L s)
  · rw [hnm] at cn
    clear hnm
    go_enter Tryd.func49, Tryd.ntmps49
    go_wp2_with (go_at_call 53; refine cn.mono ?_; rintro e w1 ⟨rfl, b1⟩)
    go_ret
    exact ⟨rfl, b1⟩
  · rw [hnm] at cn
    have he : Hid (decide ((un.length : Int) ≤ 4) = (true && decide (un.length ≤ 4))) := by
      show _ = _
      rw [Bool.true_and]
      exact decide_eq_decide.2 ⟨fun h => by omega, fun h => by omega⟩
    clear hnm
    go_enter Tryd.func49, Tryd.ntmps49
    go_wp2_with (go_at_call 53; refine cn.mono ?_; rintro e w1 ⟨rfl, b1⟩)
    go_ret
    exact ⟨ret_b he.out, b1⟩

set_option maxHeartbeats 1000000 in
set_option maxRecDepth 100000 in
theorem w_pisroot (nm : ByteArray) (vu vp vc : Value) (x : Nd) (w : World) (e0 : strOfNums x.1 = nm) (bx : bytesL x.1) (hu : Rd .u32 w vu x.2.1) (hp : SlR 2 propR w vp x.2.2.2.1) (hc : Rd .u32 w vc x.2.2.2.2) :
    Calls Tryd.prog 36 #[.agg #[.string nm, vu, .int .i64 x.2.2.1, vp, vc]] w fun e w' => e = .returned (.bool (rootF x)) ∧ Below w.heap.size w w' := by
  have hq := str_eq8 nm ⟨#[]⟩ _ (L ⟨#[]⟩) bx (LB_bytes _) e0 (nums_LB _)
  have hl := rd_len hu uU (P := Tryd.prog)
  obtain ⟨ua, uq, rfl⟩ := rd_slice hu
  obtain ⟨pa, pq, rfl⟩ := slr_slice hp
  obtain ⟨ca, cq, rfl⟩ := rd_slice hc
  obtain ⟨X, hX⟩ : ∃ X, x.2.2.1 = X := ⟨_, rfl⟩
  have hr : rootF x = (decide (x.1 = L ⟨#[]⟩) && (decide (x.2.1 = []) && decide (X = -1))) := by unfold rootF; rw [hX]; rfl
  rw [hr, hX]
  have st := stands_new w #[.string nm, .slice ua x.2.1.length uq, .int .i64 X, .slice pa x.2.2.2.1.length pq, .slice ca x.2.2.2.2.length cq] 56
  have bw := box_below w (.cells #[.string nm, .slice ua x.2.1.length uq, .int .i64 X, .slice pa x.2.2.2.1.length pq, .slice ca x.2.2.2.2.length cq] 56)
  have z0 := st.cell 0 _ rfl
  have z1 := st.cell 1 _ rfl
  have z2 := st.cell 2 _ rfl
  by_cases h1 : x.1 = L ⟨#[]⟩
  · rw [decide_eq_true h1] at hq ⊢
    have hnm : nm = ⟨#[]⟩ := by rw [← e0, h1]; exact nums_LB _
    clear e0
    subst hnm
    by_cases h2 : x.2.1 = []
    · have h2b : ((x.2.1.length : Int) == 0) = true := by rw [h2]; rfl
      rw [decide_eq_true h2]
      obtain ⟨n, hn⟩ : ∃ n, x.2.1.length = n := ⟨_, rfl⟩
      rw [hn] at hl z0 z1 z2 h2b st bw ⊢
      clear h1 h2 hX hr hn hq
      go_enter Tryd.func36, Tryd.ntmps36
      go_wp2_with fail
      go_ret
      exact ⟨ret_b (by by_cases h : X = -1 <;> simp [h]), bw⟩
    · have h2b : ((x.2.1.length : Int) == 0) = false := by simp; exact h2
      rw [decide_eq_false h2]
      obtain ⟨n, hn⟩ : ∃ n, x.2.1.length = n := ⟨_, rfl⟩
      rw [hn] at hl z0 z1 z2 h2b st bw ⊢
      clear h1 h2 hX hr hn hq
      go_enter Tryd.func36, Tryd.ntmps36
      go_wp2_with fail
      go_ret
      exact ⟨rfl, bw⟩
  · rw [decide_eq_false h1] at hq ⊢
    have hE : ¬ nm.toList = [] := by intro h; rw [h] at hq; exact absurd hq (by decide +kernel)
    clear h1 e0 hX hr hq
    go_enter Tryd.func36, Tryd.ntmps36
    go_wp2_with fail
    go_ret
    exact ⟨rfl, bw⟩

/-- such a child is there, or is not -/
theorem tw_idx (t : List Nd) (p : Int) (nm un : List Int) : twF t p nm un = (t.findIdx? (fun x => decide (x.2.2.1 = p) && (decide (x.1 = nm) && decide (x.2.1 = un)))).isSome := by
  unfold twF
  rw [List.findIdx?_isSome]
theorem fdI_none (o : Option Nat) : (fdI o == -1) = !o.isSome := by
  cases o with
  | none => rfl
  | some k =>
    simp only [fdI, Option.isSome_some, Bool.not_true]
    simp
theorem fdI_some (o : Option Nat) : (fdI o != -1) = o.isSome := by
  unfold bne
  rw [fdI_none, Bool.not_not]

set_option maxHeartbeats 2000000 in
set_option maxRecDepth 100000 in
theorem w_pplaced (v : Value) (t : List Nd) (nm : ByteArray) (vu vp vc : Value) (x : Nd) (w : World) (h : RdT w v t) (bt : ∀ x ∈ t, bytN x) (e0 : strOfNums x.1 = nm) (bx : bytesL x.1) (lx : x.1.length ≤ maxLen) (hu : Rd .u32 w vu x.2.1) (hp : SlR 2 propR w vp x.2.2.2.1) (hc : Rd .u32 w vc x.2.2.2.2) :
    Calls Tryd.prog 37 #[v, .agg #[.string nm, vu, .int .i64 x.2.2.1, vp, vc]] w fun e w' => e = .returned (.bool (nmF x.1 && (decide (x.2.1.length ≤ 4) && (decide (0 ≤ x.2.2.1) && (decide (x.2.2.1 < t.length) && !twF t x.2.2.1 x.1 x.2.1))))) ∧ Below w.heap.size w w' := by
  have hl := slr_len h uN (P := Tryd.prog)
  have hL : L nm = x.1 := by rw [← e0]; exact LB_nums x.1 bx
  have hsz : nm.size ≤ maxLen := by have := LB_len nm; rw [show LB nm = x.1 from hL] at this; omega
  obtain ⟨X, hX⟩ : ∃ X, x.2.2.1 = X := ⟨_, rfl⟩
  rw [hX]
  obtain ⟨ua, uq, rfl⟩ := rd_slice hu
  obtain ⟨pa, pq, rfl⟩ := slr_slice hp
  obtain ⟨ca, cq, rfl⟩ := rd_slice hc
  have st := stands_new w #[.string nm, .slice ua x.2.1.length uq, .int .i64 X, .slice pa x.2.2.2.1.length pq, .slice ca x.2.2.2.2.length cq] 56
  have bw := box_below w (.cells #[.string nm, .slice ua x.2.1.length uq, .int .i64 X, .slice pa x.2.2.2.1.length pq, .slice ca x.2.2.2.2.length cq] 56)
  have ca1 := w_paddressed nm _ x.2.1 _ hsz (hu.below bw)
  rw [hL] at ca1
  have z0 := st.cell 0 _ rfl
  have z1 := st.cell 1 _ rfl
  have z2 := st.cell 2 _ rfl
  cases hA : nmF x.1 && decide (x.2.1.length ≤ 4)
  · have hR : Hid ((nmF x.1 && (decide (x.2.1.length ≤ 4) && (decide (0 ≤ X) && (decide (X < t.length) && !twF t X x.1 x.2.1)))) = false) := by show _ = _; rw [← Bool.and_assoc, hA, Bool.false_and]
    rw [hA] at ca1
    clear hA hL e0 hX
    go_enter Tryd.func37, Tryd.ntmps37
    go_wp2_with (go_at_call 49; refine ca1.mono ?_; rintro e w1 ⟨rfl, b1⟩)
    go_ret
    exact ⟨ret_b hR.out.symm, below_trans bw b1⟩
  · rw [hA] at ca1
    have hR : Hid ((nmF x.1 && (decide (x.2.1.length ≤ 4) && (decide (0 ≤ X) && (decide (X < t.length) && !twF t X x.1 x.2.1)))) = (decide (0 ≤ X) && (decide (X < t.length) && !twF t X x.1 x.2.1))) := by show _ = _; rw [← Bool.and_assoc, hA, Bool.true_and]
    clear hA
    by_cases h0 : X < 0
    · have hR2 : Hid ((decide (0 ≤ X) && (decide (X < t.length) && !twF t X x.1 x.2.1)) = false) := by show _ = _; rw [decide_eq_false (by omega), Bool.false_and]
      clear hL e0 hX
      go_enter Tryd.func37, Tryd.ntmps37
      go_wp2_with (go_at_call 49; refine ca1.mono ?_; rintro e w1 ⟨rfl, b1⟩; have st1 := st.below b1; have y0 := st1.cell 0 _ rfl; have y1 := st1.cell 1 _ rfl; have y2 := st1.cell 2 _ rfl)
      go_ret
      exact ⟨ret_b (by rw [hR.out, hR2.out]), below_trans bw b1⟩
    · by_cases h1 : (t.length : Int) ≤ X
      · have hR2 : Hid ((decide (0 ≤ X) && (decide (X < t.length) && !twF t X x.1 x.2.1)) = false) := by show _ = _; rw [decide_eq_false (show ¬ X < t.length by omega), Bool.false_and, Bool.and_false]
        clear hL e0 hX
        go_enter Tryd.func37, Tryd.ntmps37
        go_wp2_with (go_at_call 49; refine ca1.mono ?_; rintro e w1 ⟨rfl, b1⟩; have st1 := st.below b1; have y0 := st1.cell 0 _ rfl; have y1 := st1.cell 1 _ rfl; have y2 := st1.cell 2 _ rfl)
        go_ret
        exact ⟨ret_b (by rw [hR.out, hR2.out]), below_trans bw b1⟩
      · have hR2 : Hid ((decide (0 ≤ X) && (decide (X < t.length) && !twF t X x.1 x.2.1)) = !twF t X x.1 x.2.1) := by show _ = _; rw [decide_eq_true (show 0 ≤ X by omega), decide_eq_true (show X < t.length by omega), Bool.true_and, Bool.true_and]
        have cc := fun W (g : Below w.heap.size w W) => w_pcalled nm _ x.2.1 t W (hu.below g) bt
        have ck := fun W lb (g : Below w.heap.size w W) ha => w_pchild v t X _ lb (fun y : Nd => decide (y.1 = x.1) && decide (y.2.1 = x.2.1)) W eg_called (h.below g) ha
        rw [hL] at cc
        have CC := hid cc
        have CK := hid ck
        have hT := hid (tw_idx t X x.1 x.2.1)
        clear hL e0 hX cc ck
        go_enter Tryd.func37, Tryd.ntmps37
        go_wp2_with (go_at_call 49; refine ca1.mono ?_; rintro e w1 ⟨rfl, b1⟩; have st1 := st.below b1; have y0 := st1.cell 0 _ rfl; have y1 := st1.cell 1 _ rfl; have y2 := st1.cell 2 _ rfl)
        have Z : Hid (∀ W, Below w1.heap.size w1 W → W.cell? ⟨w.heap.size, 0, none⟩ = some (.string nm) ∧ W.cell? ⟨w.heap.size, 1, none⟩ = some (.slice ua x.2.1.length uq) ∧ W.cell? ⟨w.heap.size, 2, none⟩ = some (.int .i64 X)) := fun W g => ⟨below_cell g y0, below_cell g y1, below_cell g y2⟩
        have HB := hid (below_trans bw b1)
        have hbd : Hid (Below w.heap.size w w1.drew) := below_drewN HB.out 1
        have hrd : Hid (Below w1.heap.size w1 w1.drew) := below_drewN (Below.refl _ _) 1
        clear y0 y1 y2 z0 z1 z2 st st1 bw b1 ca1
        go_region_held (fun W => W.cell? ⟨w.heap.size, 0, none⟩ = some (.string nm) ∧ W.cell? ⟨w.heap.size, 1, none⟩ = some (.slice ua x.2.1.length uq) ∧ W.cell? ⟨w.heap.size, 2, none⟩ = some (.int .i64 X)) (first | with_reducible exact Z.out _ hrd.out | with_reducible exact Z.out _ R2.out | with_reducible exact Z.out _ R3.out)
          (first
            | (go_at_call 51; refine (CC.out _ (by with_reducible exact hbd.out)).mono ?_; rintro e w2 ⟨lb, rfl, ha, b2⟩; have A2 := hid ha; have G2 : Hid (Below w.heap.size w w2) := below_trans hbd.out b2; have R2 : Hid (Below w1.heap.size w1 w2) := below_trans hrd.out b2; clear ha b2)
            | (go_at_call 50; refine (CK.out _ lb (by with_reducible exact G2.out) A2.out).mono ?_; rintro e w3 ⟨rfl, b3⟩; have G3 : Hid (Below w.heap.size w w3) := below_trans G2.out b3; have R3 : Hid (Below w1.heap.size w1 w3) := below_trans R2.out b3; clear b3))
        go_wp2_with fail
        go_ret
        refine ⟨ret_b ?_, G3.out⟩
        rw [hR.out, hR2.out, hT.out]
        exact fdI_none _

/-
  Named of package prop, that it only draws: for regions that draw their order.
-/
theorem dr_trans {a b c : World} (h : Dr a b) (g : Dr b c) : Dr a c := by
  obtain ⟨m, rfl⟩ := h
  obtain ⟨n, rfl⟩ := g
  exact ⟨m + n, by rw [World.drewN_drewN]⟩

set_option maxHeartbeats 1000000 in
set_option maxRecDepth 100000 in
theorem w_innQ (c : Int) (w : World) (h0 : 0 ≤ c) (h1 : c < 256) : Calls Tryd.prog 67 #[.int .u8 c] w fun e w' => e = .returned (.bool (nmC c)) ∧ Dr w w' := by
  rcases (show c < 33 ∨ 126 < c ∨ (65 ≤ c ∧ c ≤ 90) ∨ (33 ≤ c ∧ c < 65) ∨ (90 < c ∧ c ≤ 126) by omega) with h | h | ⟨h, g⟩ | ⟨h, g⟩ | ⟨h, g⟩
  · have e : nmC c = false := by unfold nmC; simp; omega
    rw [e]
    clear e
    go_enter Tryd.func67, Tryd.ntmps67
    go_wp2_with fail
    go_ret
    exact ⟨rfl, dr_refl _⟩
  · have e : nmC c = false := by unfold nmC; simp; omega
    rw [e]
    clear e
    go_enter Tryd.func67, Tryd.ntmps67
    go_wp2_with fail
    go_ret
    exact ⟨rfl, dr_refl _⟩
  · have e : nmC c = false := by unfold nmC; simp; omega
    rw [e]
    clear e
    go_enter Tryd.func67, Tryd.ntmps67
    go_wp2_with fail
    go_ret
    exact ⟨rfl, dr_refl _⟩
  · go_enter Tryd.func67, Tryd.ntmps67
    go_wp2_with (go_at_call 78; refine (w_sib _ c _ h0 h1).mono ?_; rintro e w1 ⟨i, rfl, hi, rfl⟩; have H := hid (atB_bar hi (by omega) (by omega) (by omega)); clear hi)
    go_ret
    exact ⟨ret_b (by first | exact H.out | (rw [← H.out, decide_eq_false (show ¬ c ≤ 90 by omega)]; rfl)), dr_refl _⟩
  · go_enter Tryd.func67, Tryd.ntmps67
    go_wp2_with (go_at_call 78; refine (w_sib _ c _ h0 h1).mono ?_; rintro e w1 ⟨i, rfl, hi, rfl⟩; have H := hid (atB_bar hi (by omega) (by omega) (by omega)); clear hi)
    go_ret
    exact ⟨ret_b (by first | exact H.out | (rw [← H.out, decide_eq_false (show ¬ c ≤ 90 by omega)]; rfl)), dr_refl _⟩

set_option maxHeartbeats 1000000 in
set_option maxRecDepth 100000 in
theorem w_pnamedQ (s : ByteArray) (w : World) (hs : s.size ≤ maxLen) :
    Calls Tryd.prog 53 #[.string s] w fun e w' => e = .returned (.bool (nmF (L s))) ∧ Dr w w' := by
  have hs2 := hs
  unfold maxLen at hs2
  by_cases h0 : s.size = 0
  · have hs : s = ⟨#[]⟩ := by
      apply ByteArray.ext
      exact Array.eq_empty_of_size_eq_zero h0
    subst hs
    go_enter Tryd.func53, Tryd.ntmps53
    go_wp2_with fail
    go_ret
    exact ⟨rfl, dr_refl _⟩
  · have hemp : s.toList.isEmpty = false := by
      rw [← decide_eq_emptyBytes]
      exact decide_eq_false (fun h => h0 (by rw [h]; rfl))
    by_cases h31 : (31 : Int) < s.size
    · have e : nmF (L s) = false := by unfold nmF; rw [L_len, show decide (1 ≤ s.size ∧ s.size ≤ 31) = false by simp; omega]; rfl
      rw [e]
      clear e
      go_enter Tryd.func53, Tryd.ntmps53
      go_wp2_with fail
      go_ret
      exact ⟨rfl, dr_refl _⟩
    · go_enter Tryd.func53, Tryd.ntmps53
      go_wp2_with fail
      go_loopw [13] (fun I wx => ∃ (k : Nat), (k : Int) ≤ s.size ∧ I = .int .i64 k ∧ Hid (((L s).take k).all nmC = true) ∧ Dr w wx) (fun I _ => (s.size - intOf I).toNat)
      case atStart => exact ⟨0, by omega, rfl, hid rfl, dr_refl _⟩
      case round =>
        obtain ⟨k, hk, rfl, ha, hb⟩ := hrel
        by_cases hlt : (k : Int) < s.size
        · have hkk : k < s.size := by omega
          obtain ⟨c, hc⟩ : ∃ c, (s[k].toNat : Int) = c := ⟨_, rfl⟩
          have hcb := L_bd s k hkk
          rw [hc] at hcb
          obtain ⟨c0, c1⟩ := hcb
          have hLd : Hid (L s = (L s).take k ++ c :: (L s).drop (k + 1)) := by
            show _ = _
            rw [← hc, ← L_drop s k hkk, List.take_append_drop]
          have hLt : Hid ((L s).take (k + 1) = (L s).take k ++ [c]) := by show _ = _; rw [← hc]; exact L_take s k hkk
          have hrun := run_at (w := wr) s k hkk hs
          rw [hc] at hrun
          have cn := w_innQ c wr c0 c1
          cases hcc : nmC c
          · have hf : Hid (nmF (L s) = false) := by show _ = _; rw [hLd.out]; exact nm_mid _ _ _ hcc
            rw [hcc] at cn
            clear hcc hLd hLt hc
            go_wp2_with (go_at_call 67; refine cn.mono ?_; rintro e w1 ⟨rfl, b1⟩)
            go_ret
            exact ⟨ret_b hf.out.symm, dr_trans hb b1⟩
          · have ha2 : Hid (((L s).take (k + 1)).all nmC = true) := by
              show _ = _
              rw [hLt.out, List.all_append, ha.out]
              simp [hcc]
            rw [hcc] at cn
            clear hcc hLd hLt hc
            go_wp2_with (go_at_call 67; refine cn.mono ?_; rintro e w1 ⟨rfl, b1⟩)
            go_roundw
            case rel => exact ⟨k + 1, by omega, by go_num, ha2, dr_trans hb b1⟩
            case measure => simp [intOf]; omega
        · have hall := ha.out
          rw [List.take_of_length_le (by rw [L_len]; omega)] at hall
          have hf : Hid (nmF (L s) = true) := by show _ = _; unfold nmF; rw [hall, L_len]; simp; omega
          clear hall
          obtain rfl : k = s.size := by omega
          go_wp2_with fail
          go_ret
          exact ⟨ret_b hf.out.symm, hb⟩

/-
  Package tree's propsFormed, Formed, device and find.
-/
theorem fdI_ge (o : Option Nat) : (fdI o != -1) = decide ((0 : Int) ≤ fdI o) := by
  cases o with
  | none => rfl
  | some k =>
    have h0 : (0 : Int) ≤ fdI (some k) := Int.natCast_nonneg k
    rw [decide_eq_true h0, fdI_some]
    rfl

set_option maxHeartbeats 2000000 in
set_option maxRecDepth 100000 in
theorem w_ppropsformed (v : Value) (l : List Pp) (w : World) (h : SlR 2 propR w v l) (bl : ∀ x ∈ l, bytesL x.1) (ll : ∀ x ∈ l, x.1.length ≤ maxLen) :
    Calls Tryd.prog 38 #[v] w fun e w' => e = .returned (.bool (decide (l.length ≤ 16) && okR l)) ∧ Below w.heap.size w w' := by
  have hl := slr_len h uR (P := Tryd.prog)
  by_cases h16 : (16 : Int) < l.length
  · have hf : Hid ((decide (l.length ≤ 16) && okR l) = false) := by show _ = _; rw [decide_eq_false (by omega), Bool.false_and]
    go_enter Tryd.func38, Tryd.ntmps38
    go_wp2_with fail
    go_ret
    exact ⟨ret_b hf.out.symm, Below.refl _ _⟩
  · have he : (decide (l.length ≤ 16) && okR l) = okR l := by rw [decide_eq_true (by omega), Bool.true_and]
    rw [he]
    clear he
    go_enter Tryd.func38, Tryd.ntmps38
    go_wp2_with fail
    go_loopw [10] (fun I wx => ∃ k : Nat, (k : Int) ≤ l.length ∧ I = .int .i64 k ∧ Hid (∀ j (g : j < k) (hj : j < l.length), okP l j l[j] = true) ∧ Below w.heap.size w wx) (fun I _ => (l.length - intOf I).toNat)
    case atStart => exact ⟨0, by omega, rfl, hid (fun j g => by omega), Below.refl _ _⟩
    case round =>
      obtain ⟨k, hk, rfl, hok, hb⟩ := hrel
      by_cases hlt : (k : Int) < l.length
      · have hkl : k < l.length := by omega
        obtain ⟨b0, o0, nm, vd, r0, f0, f1, e0, hd0⟩ := prp_at8 (h.below hb (propR_below hb)) k hkl
        have hld := rd_len hd0 uB (P := Tryd.prog)
        obtain ⟨da, dq, rfl⟩ := rd_slice hd0
        have hL : L nm = l[k].1 := by rw [← e0]; exact LB_nums _ (bl _ (List.getElem_mem hkl))
        have hsz : nm.size ≤ maxLen := by
          have h1 := LB_len nm
          rw [show LB nm = l[k].1 from hL] at h1
          have := ll _ (List.getElem_mem hkl)
          omega
        obtain ⟨vh, hh, hhR⟩ := slr_head h uR zR k (by omega)
        have st := stands_new wr #[.string nm, .slice da l[k].2.length dq] 65
        have hbx := box_below wr (.cells #[.string nm, .slice da l[k].2.length dq] 65)
        have hb0 := below_trans hb hbx
        have cn := fun W => w_pnamed nm W hsz
        have cnq := fun W => w_pnamedQ nm W hsz
        have cp := fun W (g : Below w.heap.size w W) => w_pplace vh (l.take k) nm W (hhR.below g (propR_below g)) (fun x hx => bl x (List.mem_of_mem_take hx))
        simp only [hL] at cn cp cnq
        obtain ⟨n, hn⟩ : ∃ n, l[k].2.length = n := ⟨_, rfl⟩
        have bad := fun g => hid (okR_bad k hkl (okP_bad g))
        have good := fun (g1 : nmF (l[k]'hkl).1 = true) (g2 : ¬ 256 < (l[k]'hkl).2.length) (g3 : ¬ (0 : Int) ≤ fdI (pfF (l.take k) (l[k]'hkl).1)) => hid (okP_good (l := l) (k := k) (x := l[k]'hkl) g1 g2 g3)
        rw [hn] at hld f1 st hbx hb0
        obtain ⟨F, hF⟩ : ∃ F, fdI (pfF (l.take k) l[k].1) = F := ⟨_, rfl⟩
        simp only [hF] at cp
        cases hnm : nmF l[k].1
        · have hf := bad (Or.inl hnm)
          simp only [hnm] at cnq
          clear hnm hL e0 hF bad good cp hn cn
          have CN := hid cnq
          clear cnq
          go_wp2_with fail
          generalize wr.alloc (.cells #[.string nm, .slice da n dq] 65) = w1 at st hbx hb0 ⊢
          have Z : Hid (∀ W, Below w1.heap.size w1 W → W.cell? ⟨wr.heap.size, 0, none⟩ = some (.string nm) ∧ W.cell? ⟨wr.heap.size, 1, none⟩ = some (.slice da n dq)) := fun W g => ⟨(st.below g).cell 0 _ rfl, (st.below g).cell 1 _ rfl⟩
          have hrd : Hid (Below w1.heap.size w1 w1.drew) := below_drewN (Below.refl _ _) 1
          have B0 := hid hb0
          clear st hbx hb0
          obtain ⟨y0, y1⟩ := Z.out _ (Below.refl _ _)
          go_quiet (first | (go_at_call 53; exact Calls.quiet_of (CN.out _)))
          go_wp2_with fail
          go_ret
          exact ⟨ret_b hf.out.symm, below_drewN B0.out _⟩
        · simp only [hnm] at cn cnq
          by_cases h256 : (256 : Int) < n
          · have hf := bad (Or.inr (Or.inl (by omega)))
            have hd : decide ((256 : Int) < n) = true := decide_eq_true h256
            clear hnm hL e0 hF bad good cp hn cn
            have CN := hid cnq
            clear cnq
            go_wp2_with fail
            generalize wr.alloc (.cells #[.string nm, .slice da n dq] 65) = w1 at st hbx hb0 ⊢
            have Z : Hid (∀ W, Below w1.heap.size w1 W → W.cell? ⟨wr.heap.size, 0, none⟩ = some (.string nm) ∧ W.cell? ⟨wr.heap.size, 1, none⟩ = some (.slice da n dq)) := fun W g => ⟨(st.below g).cell 0 _ rfl, (st.below g).cell 1 _ rfl⟩
            have hrd : Hid (Below w1.heap.size w1 w1.drew) := below_drewN (Below.refl _ _) 1
            have B0 := hid hb0
            clear st hbx hb0
            obtain ⟨y0, y1⟩ := Z.out _ (Below.refl _ _)
            go_quiet (first | (go_at_call 53; exact Calls.quiet_of (CN.out _)))
            go_wp2_with fail
            go_ret
            exact ⟨ret_b hf.out.symm, below_drewN B0.out _⟩
          · have hd : decide ((256 : Int) < n) = false := decide_eq_false h256
            have hF2 : (F != -1) = decide ((0 : Int) ≤ F) := by rw [← hF]; exact fdI_ge _
            cases hFc : decide ((0 : Int) ≤ F)
            · have hF3 : (F != -1) = false := by rw [hF2, hFc]
              have hg := good hnm (by omega) (by rw [hF]; exact of_decide_eq_false hFc)
              have hok2 : Hid (∀ j (g : j < k + 1) (hj : j < l.length), okP l j l[j] = true) := by
                show ∀ j _ _, _
                intro j g hj
                by_cases hjk : j < k
                · exact hok.out j hjk hj
                · have : j = k := by omega
                  subst this
                  exact hg.out
              clear hnm hL e0 hF bad good hn hF2 hFc hg h256
              have CN := hid cn
              have CP := hid cp
              clear cn cp
              go_wp2_with fail
              generalize wr.alloc (.cells #[.string nm, .slice da n dq] 65) = w1 at st hbx hb0 ⊢
              have Z : Hid (∀ W, Below w1.heap.size w1 W → W.cell? ⟨wr.heap.size, 0, none⟩ = some (.string nm) ∧ W.cell? ⟨wr.heap.size, 1, none⟩ = some (.slice da n dq)) := fun W g => ⟨(st.below g).cell 0 _ rfl, (st.below g).cell 1 _ rfl⟩
              have hrd : Hid (Below w1.heap.size w1 w1.drew) := below_drewN (Below.refl _ _) 1
              have B0 := hid hb0
              clear st hbx hb0
              go_region_held (fun W => W.cell? ⟨wr.heap.size, 0, none⟩ = some (.string nm) ∧ W.cell? ⟨wr.heap.size, 1, none⟩ = some (.slice da n dq)) (first | with_reducible exact Z.out _ hrd.out | with_reducible exact Z.out _ R2.out | with_reducible exact Z.out _ R3.out)
                (first
                  | (go_at_call 53; refine (CN.out _).mono ?_; rintro e w2 ⟨rfl, b2⟩; have R2 : Hid (Below w1.heap.size w1 w2) := below_trans hrd.out b2; clear b2)
                  | (go_at_call 54; refine (CP.out _ (below_trans B0.out R2.out)).mono ?_; rintro e w3 ⟨rfl, b3⟩; have R3 : Hid (Below w1.heap.size w1 w3) := below_trans R2.out b3; clear b3))
              go_wp2_with fail
              go_roundw
              case rel => exact ⟨k + 1, by omega, by go_num, hok2, below_trans B0.out R3.out⟩
              case measure => simp [intOf]; omega
            · have hF3 : (F != -1) = true := by rw [hF2, hFc]
              have hf := bad (Or.inr (Or.inr (by rw [hF]; exact of_decide_eq_true hFc)))
              clear hnm hL e0 hF bad good hn hF2 hFc h256
              have CN := hid cn
              have CP := hid cp
              clear cn cp
              go_wp2_with fail
              generalize wr.alloc (.cells #[.string nm, .slice da n dq] 65) = w1 at st hbx hb0 ⊢
              have Z : Hid (∀ W, Below w1.heap.size w1 W → W.cell? ⟨wr.heap.size, 0, none⟩ = some (.string nm) ∧ W.cell? ⟨wr.heap.size, 1, none⟩ = some (.slice da n dq)) := fun W g => ⟨(st.below g).cell 0 _ rfl, (st.below g).cell 1 _ rfl⟩
              have hrd : Hid (Below w1.heap.size w1 w1.drew) := below_drewN (Below.refl _ _) 1
              have B0 := hid hb0
              clear st hbx hb0
              go_region_held (fun W => W.cell? ⟨wr.heap.size, 0, none⟩ = some (.string nm) ∧ W.cell? ⟨wr.heap.size, 1, none⟩ = some (.slice da n dq)) (first | with_reducible exact Z.out _ hrd.out | with_reducible exact Z.out _ R2.out | with_reducible exact Z.out _ R3.out)
                (first
                  | (go_at_call 53; refine (CN.out _).mono ?_; rintro e w2 ⟨rfl, b2⟩; have R2 : Hid (Below w1.heap.size w1 w2) := below_trans hrd.out b2; clear b2)
                  | (go_at_call 54; refine (CP.out _ (below_trans B0.out R2.out)).mono ?_; rintro e w3 ⟨rfl, b3⟩; have R3 : Hid (Below w1.heap.size w1 w3) := below_trans R2.out b3; clear b3))
              go_wp2_with fail
              go_ret
              exact ⟨ret_b hf.out.symm, below_trans B0.out R3.out⟩
      · have hf : Hid (okR l = true) := by
          show _ = _
          unfold okR
          rw [decide_eq_true_eq]
          intro j hj
          exact hok.out j (by omega) hj
        go_wp2_with fail
        go_ret
        exact ⟨ret_b hf.out.symm, hb⟩

/-
  Package tree's Formed.
-/
set_option maxHeartbeats 2000000 in
set_option maxRecDepth 100000 in
theorem w_p8formed' (v : Value) (t : List Nd) (w : World) (h : RdT w v t) (bt : ∀ x ∈ t, bytN x) (ls : ∀ x ∈ t, lenN x) :
    Calls Tryd.prog 10 #[v] w fun e w' => e = .returned (.bool (frmT t)) ∧ Below w.heap.size w w' := by
  have hla := slr_len h uN (P := Tryd.prog)
  have hm := slr_max h
  unfold maxLen at hm
  by_cases h0 : t.length = 0
  · have hf := hid (frm_len (Or.inl h0))
    have hl1 : ((t.length : Int) == 0) = true := by simp; exact List.eq_nil_of_length_eq_zero h0
    obtain ⟨n, hn⟩ : ∃ n, t.length = n := ⟨_, rfl⟩
    rw [hn] at hla hl1
    clear h0 hn hm
    go_enter Tryd.func10, Tryd.ntmps10
    go_wp2_with fail
    go_ret
    exact ⟨ret_b hf.out.symm, Below.refl _ _⟩
  · have hl1 : ((t.length : Int) == 0) = false := by simp; intro h; exact h0 (by rw [h]; rfl)
    by_cases h32 : (32 : Int) < t.length
    · have hf := hid (frm_len (Or.inr (show 32 < t.length by omega)))
      clear h0
      go_enter Tryd.func10, Tryd.ntmps10
      go_wp2_with fail
      go_ret
      exact ⟨ret_b hf.out.symm, Below.refl _ _⟩
    · have ht0 : 0 < t.length := by omega
      obtain ⟨b0, o0, N0, u0, p0, k0, r0, z0, z1, z2, z3, z4, e0, hu0, hp0, hc0⟩ := nod_at h 0 ht0
      have r0' : ∀ w', (Instr.indexAt 22 v (.int .i64 0)).run Tryd.prog w' = .ok (.pointer (some ⟨b0, o0, none⟩)) w' := r0
      have cr := w_pisroot N0 u0 p0 k0 t[0] w e0 (bt _ (List.getElem_mem ht0)).1 hu0 hp0 hc0
      obtain ⟨ua0, uq0, rfl⟩ := rd_slice hu0
      obtain ⟨pa0, pq0, rfl⟩ := slr_slice hp0
      obtain ⟨ca0, cq0, rfl⟩ := rd_slice hc0
      obtain ⟨P0, hP0⟩ : ∃ X, t[0].2.2.1 = X := ⟨_, rfl⟩
      rw [hP0] at z2 cr
      cases hrt : rootF t[0]
      · have hf := hid (frm_root ht0 hrt)
        rw [hrt] at cr
        clear hrt hP0 e0 r0 h0
        go_enter Tryd.func10, Tryd.ntmps10
        go_wp2_with (go_at_call 36; refine cr.mono ?_; rintro e w1 ⟨rfl, b1⟩)
        go_ret
        exact ⟨ret_b hf.out.symm, b1⟩
      · rw [hrt] at cr
        have hroot := hid hrt
        have hlen32 : Hid (t.length ≤ 32 ∧ 1 ≤ t.length) := ⟨by omega, by omega⟩
        clear hrt hP0 e0 r0 h0
        go_enter Tryd.func10, Tryd.ntmps10
        go_wp2_with (go_at_call 36; refine cr.mono ?_; rintro e w1 ⟨rfl, b1⟩)
        clear cr z0 z1 z2 z3 z4 r0'
        go_loopw [22] (fun I wx => ∃ i : Nat, (i : Int) ≤ t.length ∧ I = .int .i64 i ∧ Hid (∀ j (g : j < i) (hj : j < t.length), okN t j t[j] = true) ∧ Below w.heap.size w wx) (fun I _ => (t.length - intOf I).toNat)
        case atStart => exact ⟨0, by omega, rfl, hid (fun j g => by omega), b1⟩
        case round =>
          clear b1
          obtain ⟨i, hi, rfl, hok, hb⟩ := hrel
          by_cases hlt : (i : Int) < t.length
          · have hil : i < t.length := by omega
            obtain ⟨b1, o1, nm, u1, p1, c1, r1, f0, f1, f2, f3, f4, e1, hu1, hp1, hc1⟩ := nod_at (h.below hb) i hil
            obtain ⟨vh, hh, hhR⟩ := slr_head h uN zN i (by omega)
            have hbt := bt _ (List.getElem_mem hil)
            have hlt2 := ls _ (List.getElem_mem hil)
            have cq := fun W (g : Below wr.heap.size wr W) => w_pplaced vh (t.take i) nm u1 p1 c1 t[i] W (RdT.below hhR (below_trans hb g)) (fun x hx => bt x (List.mem_of_mem_take hx)) e1 hbt.1 hlt2.1 (hu1.below g) (hp1.below g (propR_below g)) (hc1.below g)
            have cf := fun W (g : Below wr.heap.size wr W) => w_ppropsformed p1 t[i].2.2.2.1 W (hp1.below g (propR_below g)) (fun x hx => (hbt.2 x hx).1) (fun x hx => hlt2.2 x hx)
            have hlc := rd_len hc1 uU (P := Tryd.prog)
            have htl : (t.take i).length = i := by rw [List.length_take]; omega
            rw [htl] at cq
            obtain ⟨ua, uq, rfl⟩ := rd_slice hu1
            obtain ⟨pa, pq, rfl⟩ := slr_slice hp1
            obtain ⟨ca, cq', rfl⟩ := rd_slice hc1
            have hokA : okA t i t[i] = (nmF t[i].1 && (decide (t[i].2.1.length ≤ 4) && (decide (0 ≤ t[i].2.2.1) && (decide (t[i].2.2.1 < i) && !twF (t.take i) t[i].2.2.1 t[i].1 t[i].2.1)))) := rfl
            rw [← hokA] at cq
            clear hokA
            obtain ⟨P, hP⟩ : ∃ X, t[i].2.2.1 = X := ⟨_, rfl⟩
            rw [hP] at f2 cq
            have st := stands_new wr #[.string nm, .slice ua t[i].2.1.length uq, .int .i64 P, .slice pa t[i].2.2.2.1.length pq, .slice ca t[i].2.2.2.2.length cq'] 56
            have hbx := box_below wr (.cells #[.string nm, .slice ua t[i].2.1.length uq, .int .i64 P, .slice pa t[i].2.2.2.1.length pq, .slice ca t[i].2.2.2.2.length cq'] 56)
            have hokN : okN t i t[i] = ((decide (i = 0) || okA t i t[i]) && ((decide (t[i].2.2.2.1.length ≤ 16) && okR t[i].2.2.2.1) && decide (t[i].2.2.2.2.length ≤ 16))) := by
              unfold okN
              cases decide (t[i].2.2.2.1.length ≤ 16) <;> cases decide (t[i].2.2.2.2.length ≤ 16) <;> cases okR t[i].2.2.2.1 <;> rfl
            have HN := hid hokN
            clear hokN hP e1 htl
            have hbad := fun g => hid (frm_bad i hil g)
            obtain ⟨m, hm2⟩ : ∃ m, t[i].2.2.2.2.length = m := ⟨_, rfl⟩
            rw [hm2] at f4 st hbx hlc HN
            simp only [hm2] at cq
            clear hm2
            cases hA : (decide (i = 0) || okA t i t[i])
            · have hf := hbad (by rw [HN.out, hA, Bool.false_and])
              have hi0 : ((i : Int) != 0) = true := by
                rw [Bool.or_eq_false_iff, decide_eq_false_iff_not] at hA
                simp
                exact hA.1
              have hq : okA t i t[i] = false := (Bool.or_eq_false_iff.1 hA).2
              rw [hq] at cq
              clear hq hA hbad HN cf
              have CQ := hid cq
              clear cq
              go_wp2_with fail
              generalize wr.alloc (.cells #[.string nm, .slice ua t[i].2.1.length uq, .int .i64 P, .slice pa t[i].2.2.2.1.length pq, .slice ca m cq'] 56) = w1 at st hbx ⊢
              have Z : Hid (∀ W, Below w1.heap.size w1 W → W.cell? ⟨wr.heap.size, 0, none⟩ = some (.string nm) ∧ W.cell? ⟨wr.heap.size, 1, none⟩ = some (.slice ua t[i].2.1.length uq) ∧ W.cell? ⟨wr.heap.size, 2, none⟩ = some (.int .i64 P) ∧ W.cell? ⟨wr.heap.size, 3, none⟩ = some (.slice pa t[i].2.2.2.1.length pq) ∧ W.cell? ⟨wr.heap.size, 4, none⟩ = some (.slice ca m cq')) := fun W g => ⟨(st.below g).cell 0 _ rfl, (st.below g).cell 1 _ rfl, (st.below g).cell 2 _ rfl, (st.below g).cell 3 _ rfl, (st.below g).cell 4 _ rfl⟩
              have hrd : Hid (Below w1.heap.size w1 w1.drew) := below_drewN (Below.refl _ _) 1
              have B0 := hid hbx
              clear st hbx
              go_region_held (fun W => W.cell? ⟨wr.heap.size, 0, none⟩ = some (.string nm) ∧ W.cell? ⟨wr.heap.size, 1, none⟩ = some (.slice ua t[i].2.1.length uq) ∧ W.cell? ⟨wr.heap.size, 2, none⟩ = some (.int .i64 P) ∧ W.cell? ⟨wr.heap.size, 3, none⟩ = some (.slice pa t[i].2.2.2.1.length pq) ∧ W.cell? ⟨wr.heap.size, 4, none⟩ = some (.slice ca m cq')) (first | with_reducible exact Z.out _ hrd.out | with_reducible exact Z.out _ R2.out)
                (first | (go_at_call 37; refine (CQ.out _ (below_trans B0.out hrd.out)).mono ?_; rintro e w2 ⟨rfl, b2⟩; have R2 : Hid (Below w1.heap.size w1 w2) := below_trans hrd.out b2; clear b2))
              go_wp2_with fail
              go_ret
              exact ⟨ret_b hf.out.symm, below_trans hb (below_trans B0.out R2.out)⟩
            · rw [hA, Bool.true_and] at HN
              by_cases hz : i = 0
              · have hi0 : ((i : Int) != 0) = false := by simp [hz]
                clear hA cq hz
                cases hPF : (decide (t[i].2.2.2.1.length ≤ 16) && okR t[i].2.2.2.1)
                · have hf := hbad (by rw [HN.out, hPF, Bool.false_and])
                  rw [hPF] at cf
                  clear hPF hbad HN
                  have CF := hid cf
                  clear cf
                  go_wp2_with fail
                  generalize wr.alloc (.cells #[.string nm, .slice ua t[i].2.1.length uq, .int .i64 P, .slice pa t[i].2.2.2.1.length pq, .slice ca m cq'] 56) = w1 at st hbx ⊢
                  have Z : Hid (∀ W, Below w1.heap.size w1 W → W.cell? ⟨wr.heap.size, 0, none⟩ = some (.string nm) ∧ W.cell? ⟨wr.heap.size, 1, none⟩ = some (.slice ua t[i].2.1.length uq) ∧ W.cell? ⟨wr.heap.size, 2, none⟩ = some (.int .i64 P) ∧ W.cell? ⟨wr.heap.size, 3, none⟩ = some (.slice pa t[i].2.2.2.1.length pq) ∧ W.cell? ⟨wr.heap.size, 4, none⟩ = some (.slice ca m cq')) := fun W g => ⟨(st.below g).cell 0 _ rfl, (st.below g).cell 1 _ rfl, (st.below g).cell 2 _ rfl, (st.below g).cell 3 _ rfl, (st.below g).cell 4 _ rfl⟩
                  have B0 := hid hbx
                  obtain ⟨y0, y1, y2, y3, y4⟩ := Z.out _ (Below.refl _ _)
                  clear st hbx
                  go_quiet (fail)
                  obtain ⟨w2, hw2⟩ : ∃ w2, w2 = w1.drewN 1 := ⟨_, rfl⟩
                  have R2 : Hid (Below w1.heap.size w1 w2) := by rw [hw2]; exact below_drewN (Below.refl _ _) 1
                  have q3 := below_cell (below_drewN (Below.refl _ w1) 1) y3
                  have q4 := y4
                  go_wp2_with (go_at_call 38; refine (CF.out _ (below_drewN B0.out _)).mono ?_; rintro e w3 ⟨rfl, b3⟩; have z4 := below_cell (below_trans (below_drewN (Below.refl _ w1) _) b3) y4)
                  go_ret
                  exact ⟨ret_b hf.out.symm, below_trans hb (below_trans (below_drewN B0.out _) b3)⟩
                · rw [hPF] at cf
                  rw [hPF, Bool.true_and] at HN
                  have CF := hid cf
                  clear cf hPF
                  by_cases h16 : (16 : Int) < m
                  · have hf := hbad (by rw [HN.out, decide_eq_false (by omega)])
                    clear hbad HN
                    go_wp2_with fail
                    generalize wr.alloc (.cells #[.string nm, .slice ua t[i].2.1.length uq, .int .i64 P, .slice pa t[i].2.2.2.1.length pq, .slice ca m cq'] 56) = w1 at st hbx ⊢
                    have Z : Hid (∀ W, Below w1.heap.size w1 W → W.cell? ⟨wr.heap.size, 0, none⟩ = some (.string nm) ∧ W.cell? ⟨wr.heap.size, 1, none⟩ = some (.slice ua t[i].2.1.length uq) ∧ W.cell? ⟨wr.heap.size, 2, none⟩ = some (.int .i64 P) ∧ W.cell? ⟨wr.heap.size, 3, none⟩ = some (.slice pa t[i].2.2.2.1.length pq) ∧ W.cell? ⟨wr.heap.size, 4, none⟩ = some (.slice ca m cq')) := fun W g => ⟨(st.below g).cell 0 _ rfl, (st.below g).cell 1 _ rfl, (st.below g).cell 2 _ rfl, (st.below g).cell 3 _ rfl, (st.below g).cell 4 _ rfl⟩
                    have B0 := hid hbx
                    obtain ⟨y0, y1, y2, y3, y4⟩ := Z.out _ (Below.refl _ _)
                    clear st hbx
                    go_quiet (fail)
                    obtain ⟨w2, hw2⟩ : ∃ w2, w2 = w1.drewN 1 := ⟨_, rfl⟩
                    have R2 : Hid (Below w1.heap.size w1 w2) := by rw [hw2]; exact below_drewN (Below.refl _ _) 1
                    have q3 := below_cell (below_drewN (Below.refl _ w1) 1) y3
                    have q4 := y4
                    go_wp2_with (go_at_call 38; refine (CF.out _ (below_drewN B0.out _)).mono ?_; rintro e w3 ⟨rfl, b3⟩; have z4 := below_cell (below_trans (below_drewN (Below.refl _ w1) _) b3) y4)
                    go_ret
                    exact ⟨ret_b hf.out.symm, below_trans hb (below_trans (below_drewN B0.out _) b3)⟩
                  · have hg : okN t i t[i] = true := by rw [HN.out, decide_eq_true (by omega)]
                    have hok2 : Hid (∀ j (g : j < i + 1) (hj : j < t.length), okN t j t[j] = true) := by
                      show ∀ j _ _, _
                      intro j g hj
                      by_cases hjk : j < i
                      · exact hok.out j hjk hj
                      · have : j = i := by omega
                        subst this
                        exact hg
                    clear hbad HN hg
                    go_wp2_with fail
                    generalize wr.alloc (.cells #[.string nm, .slice ua t[i].2.1.length uq, .int .i64 P, .slice pa t[i].2.2.2.1.length pq, .slice ca m cq'] 56) = w1 at st hbx ⊢
                    have Z : Hid (∀ W, Below w1.heap.size w1 W → W.cell? ⟨wr.heap.size, 0, none⟩ = some (.string nm) ∧ W.cell? ⟨wr.heap.size, 1, none⟩ = some (.slice ua t[i].2.1.length uq) ∧ W.cell? ⟨wr.heap.size, 2, none⟩ = some (.int .i64 P) ∧ W.cell? ⟨wr.heap.size, 3, none⟩ = some (.slice pa t[i].2.2.2.1.length pq) ∧ W.cell? ⟨wr.heap.size, 4, none⟩ = some (.slice ca m cq')) := fun W g => ⟨(st.below g).cell 0 _ rfl, (st.below g).cell 1 _ rfl, (st.below g).cell 2 _ rfl, (st.below g).cell 3 _ rfl, (st.below g).cell 4 _ rfl⟩
                    have B0 := hid hbx
                    obtain ⟨y0, y1, y2, y3, y4⟩ := Z.out _ (Below.refl _ _)
                    clear st hbx
                    go_quiet (fail)
                    obtain ⟨w2, hw2⟩ : ∃ w2, w2 = w1.drewN 1 := ⟨_, rfl⟩
                    have R2 : Hid (Below w1.heap.size w1 w2) := by rw [hw2]; exact below_drewN (Below.refl _ _) 1
                    have q3 := below_cell (below_drewN (Below.refl _ w1) 1) y3
                    have q4 := y4
                    go_wp2_with (go_at_call 38; refine (CF.out _ (below_drewN B0.out _)).mono ?_; rintro e w3 ⟨rfl, b3⟩; have z4 := below_cell (below_trans (below_drewN (Below.refl _ w1) _) b3) y4)
                    go_roundw
                    case rel => exact ⟨i + 1, by omega, by go_num, hok2, below_trans hb (below_trans (below_drewN B0.out _) b3)⟩
                    case measure => simp [intOf]; omega
              · have hi0 : ((i : Int) != 0) = true := by simp; exact hz
                have hq : okA t i t[i] = true := by rw [decide_eq_false hz, Bool.false_or] at hA; exact hA
                rw [hq] at cq
                clear hq hA hz
                have CQ := hid cq
                clear cq
                cases hPF : (decide (t[i].2.2.2.1.length ≤ 16) && okR t[i].2.2.2.1)
                · have hf := hbad (by rw [HN.out, hPF, Bool.false_and])
                  rw [hPF] at cf
                  clear hPF hbad HN
                  have CF := hid cf
                  clear cf
                  go_wp2_with fail
                  generalize wr.alloc (.cells #[.string nm, .slice ua t[i].2.1.length uq, .int .i64 P, .slice pa t[i].2.2.2.1.length pq, .slice ca m cq'] 56) = w1 at st hbx ⊢
                  have Z : Hid (∀ W, Below w1.heap.size w1 W → W.cell? ⟨wr.heap.size, 0, none⟩ = some (.string nm) ∧ W.cell? ⟨wr.heap.size, 1, none⟩ = some (.slice ua t[i].2.1.length uq) ∧ W.cell? ⟨wr.heap.size, 2, none⟩ = some (.int .i64 P) ∧ W.cell? ⟨wr.heap.size, 3, none⟩ = some (.slice pa t[i].2.2.2.1.length pq) ∧ W.cell? ⟨wr.heap.size, 4, none⟩ = some (.slice ca m cq')) := fun W g => ⟨(st.below g).cell 0 _ rfl, (st.below g).cell 1 _ rfl, (st.below g).cell 2 _ rfl, (st.below g).cell 3 _ rfl, (st.below g).cell 4 _ rfl⟩
                  have B0 := hid hbx
                  have hrd : Hid (Below w1.heap.size w1 w1.drew) := below_drewN (Below.refl _ _) 1
                  clear st hbx
                  go_region_held (fun W => W.cell? ⟨wr.heap.size, 0, none⟩ = some (.string nm) ∧ W.cell? ⟨wr.heap.size, 1, none⟩ = some (.slice ua t[i].2.1.length uq) ∧ W.cell? ⟨wr.heap.size, 2, none⟩ = some (.int .i64 P) ∧ W.cell? ⟨wr.heap.size, 3, none⟩ = some (.slice pa t[i].2.2.2.1.length pq) ∧ W.cell? ⟨wr.heap.size, 4, none⟩ = some (.slice ca m cq')) (first | with_reducible exact Z.out _ hrd.out | with_reducible exact Z.out _ R2.out)
                    (first | (go_at_call 37; refine (CQ.out _ (below_trans B0.out hrd.out)).mono ?_; rintro e w2 ⟨rfl, b2⟩; have R2 : Hid (Below w1.heap.size w1 w2) := below_trans hrd.out b2; clear b2))
                  obtain ⟨y0, y1, y2, y3, y4⟩ := Z.out _ R2.out
                  go_wp2_with (go_at_call 38; refine (CF.out _ (below_trans B0.out R2.out)).mono ?_; rintro e w3 ⟨rfl, b3⟩; have z4 := below_cell b3 y4)
                  go_ret
                  exact ⟨ret_b hf.out.symm, below_trans hb (below_trans (below_trans B0.out R2.out) b3)⟩
                · rw [hPF] at cf
                  rw [hPF, Bool.true_and] at HN
                  have CF := hid cf
                  clear cf hPF
                  by_cases h16 : (16 : Int) < m
                  · have hf := hbad (by rw [HN.out, decide_eq_false (by omega)])
                    clear hbad HN
                    go_wp2_with fail
                    generalize wr.alloc (.cells #[.string nm, .slice ua t[i].2.1.length uq, .int .i64 P, .slice pa t[i].2.2.2.1.length pq, .slice ca m cq'] 56) = w1 at st hbx ⊢
                    have Z : Hid (∀ W, Below w1.heap.size w1 W → W.cell? ⟨wr.heap.size, 0, none⟩ = some (.string nm) ∧ W.cell? ⟨wr.heap.size, 1, none⟩ = some (.slice ua t[i].2.1.length uq) ∧ W.cell? ⟨wr.heap.size, 2, none⟩ = some (.int .i64 P) ∧ W.cell? ⟨wr.heap.size, 3, none⟩ = some (.slice pa t[i].2.2.2.1.length pq) ∧ W.cell? ⟨wr.heap.size, 4, none⟩ = some (.slice ca m cq')) := fun W g => ⟨(st.below g).cell 0 _ rfl, (st.below g).cell 1 _ rfl, (st.below g).cell 2 _ rfl, (st.below g).cell 3 _ rfl, (st.below g).cell 4 _ rfl⟩
                    have B0 := hid hbx
                    have hrd : Hid (Below w1.heap.size w1 w1.drew) := below_drewN (Below.refl _ _) 1
                    clear st hbx
                    go_region_held (fun W => W.cell? ⟨wr.heap.size, 0, none⟩ = some (.string nm) ∧ W.cell? ⟨wr.heap.size, 1, none⟩ = some (.slice ua t[i].2.1.length uq) ∧ W.cell? ⟨wr.heap.size, 2, none⟩ = some (.int .i64 P) ∧ W.cell? ⟨wr.heap.size, 3, none⟩ = some (.slice pa t[i].2.2.2.1.length pq) ∧ W.cell? ⟨wr.heap.size, 4, none⟩ = some (.slice ca m cq')) (first | with_reducible exact Z.out _ hrd.out | with_reducible exact Z.out _ R2.out)
                      (first | (go_at_call 37; refine (CQ.out _ (below_trans B0.out hrd.out)).mono ?_; rintro e w2 ⟨rfl, b2⟩; have R2 : Hid (Below w1.heap.size w1 w2) := below_trans hrd.out b2; clear b2))
                    obtain ⟨y0, y1, y2, y3, y4⟩ := Z.out _ R2.out
                    go_wp2_with (go_at_call 38; refine (CF.out _ (below_trans B0.out R2.out)).mono ?_; rintro e w3 ⟨rfl, b3⟩; have z4 := below_cell b3 y4)
                    go_ret
                    exact ⟨ret_b hf.out.symm, below_trans hb (below_trans (below_trans B0.out R2.out) b3)⟩
                  · have hg : okN t i t[i] = true := by rw [HN.out, decide_eq_true (by omega)]
                    have hok2 : Hid (∀ j (g : j < i + 1) (hj : j < t.length), okN t j t[j] = true) := by
                      show ∀ j _ _, _
                      intro j g hj
                      by_cases hjk : j < i
                      · exact hok.out j hjk hj
                      · have : j = i := by omega
                        subst this
                        exact hg
                    clear hbad HN hg
                    go_wp2_with fail
                    generalize wr.alloc (.cells #[.string nm, .slice ua t[i].2.1.length uq, .int .i64 P, .slice pa t[i].2.2.2.1.length pq, .slice ca m cq'] 56) = w1 at st hbx ⊢
                    have Z : Hid (∀ W, Below w1.heap.size w1 W → W.cell? ⟨wr.heap.size, 0, none⟩ = some (.string nm) ∧ W.cell? ⟨wr.heap.size, 1, none⟩ = some (.slice ua t[i].2.1.length uq) ∧ W.cell? ⟨wr.heap.size, 2, none⟩ = some (.int .i64 P) ∧ W.cell? ⟨wr.heap.size, 3, none⟩ = some (.slice pa t[i].2.2.2.1.length pq) ∧ W.cell? ⟨wr.heap.size, 4, none⟩ = some (.slice ca m cq')) := fun W g => ⟨(st.below g).cell 0 _ rfl, (st.below g).cell 1 _ rfl, (st.below g).cell 2 _ rfl, (st.below g).cell 3 _ rfl, (st.below g).cell 4 _ rfl⟩
                    have B0 := hid hbx
                    have hrd : Hid (Below w1.heap.size w1 w1.drew) := below_drewN (Below.refl _ _) 1
                    clear st hbx
                    go_region_held (fun W => W.cell? ⟨wr.heap.size, 0, none⟩ = some (.string nm) ∧ W.cell? ⟨wr.heap.size, 1, none⟩ = some (.slice ua t[i].2.1.length uq) ∧ W.cell? ⟨wr.heap.size, 2, none⟩ = some (.int .i64 P) ∧ W.cell? ⟨wr.heap.size, 3, none⟩ = some (.slice pa t[i].2.2.2.1.length pq) ∧ W.cell? ⟨wr.heap.size, 4, none⟩ = some (.slice ca m cq')) (first | with_reducible exact Z.out _ hrd.out | with_reducible exact Z.out _ R2.out)
                      (first | (go_at_call 37; refine (CQ.out _ (below_trans B0.out hrd.out)).mono ?_; rintro e w2 ⟨rfl, b2⟩; have R2 : Hid (Below w1.heap.size w1 w2) := below_trans hrd.out b2; clear b2))
                    obtain ⟨y0, y1, y2, y3, y4⟩ := Z.out _ R2.out
                    go_wp2_with (go_at_call 38; refine (CF.out _ (below_trans B0.out R2.out)).mono ?_; rintro e w3 ⟨rfl, b3⟩; have z4 := below_cell b3 y4)
                    go_roundw
                    case rel => exact ⟨i + 1, by omega, by go_num, hok2, below_trans hb (below_trans (below_trans B0.out R2.out) b3)⟩
                    case measure => simp [intOf]; omega
          · have hf : Hid (frmT t = true) := by
              show _ = _
              rw [frm_iff]
              exact ⟨hlen32.out.2, hlen32.out.1, hroot.out, fun j hj => hok.out j (by omega) hj⟩
            go_wp2_with fail
            go_ret
            exact ⟨ret_b hf.out.symm, hb⟩

/-
  wrong, Get, Next, Children of the document's answer for trees.
-/
set_option maxHeartbeats 1000000 in
theorem w_r8wrong (v : Value) (t : List Nd) (n : Int) (w : World) (h : RdT w v t) (bt : ∀ x ∈ t, bytN x) (ls : ∀ x ∈ t, lenN x) :
    Calls Tryd.prog 52 #[v, .int .i64 n] w fun e w' => e = .returned (.int .i64 (wrgF t n)) ∧ Below w.heap.size w w' := by
  have hla := slr_len h uN (P := Tryd.prog)
  have cf := w_r8formed v t w h bt ls
  cases hf : frmT t
  · have e : wrgF t n = 1 := by unfold wrgF; rw [if_pos hf]
    rw [e]
    rw [hf] at cf
    clear e hf
    go_enter Tryd.func52, Tryd.ntmps52
    go_wp2_with (go_at_call 11; refine cf.mono ?_; rintro e q1 ⟨rfl, b1⟩)
    go_ret
    exact ⟨rfl, b1⟩
  · rw [hf] at cf
    have e : wrgF t n = if n < 0 ∨ (t.length : Int) ≤ n then 19 else 0 := by unfold wrgF; rw [if_neg (by rw [hf]; decide)]
    rw [e]
    clear e hf
    by_cases h0 : n < 0
    · rw [if_pos (Or.inl h0)]
      go_enter Tryd.func52, Tryd.ntmps52
      go_wp2_with (go_at_call 11; refine cf.mono ?_; rintro e q1 ⟨rfl, b1⟩)
      go_ret
      exact ⟨rfl, b1⟩
    · by_cases h1 : (t.length : Int) ≤ n
      · rw [if_pos (Or.inr h1)]
        go_enter Tryd.func52, Tryd.ntmps52
        go_wp2_with (go_at_call 11; refine cf.mono ?_; rintro e q1 ⟨rfl, b1⟩)
        go_ret
        exact ⟨rfl, b1⟩
      · rw [if_neg (by omega)]
        go_enter Tryd.func52, Tryd.ntmps52
        go_wp2_with (go_at_call 11; refine cf.mono ?_; rintro e q1 ⟨rfl, b1⟩)
        go_ret
        exact ⟨rfl, b1⟩

set_option maxHeartbeats 2000000 in
set_option maxRecDepth 100000 in
theorem w_r8get (v : Value) (t : List Nd) (n : Int) (s : ByteArray) (w : World) (h : RdT w v t) (bt : ∀ x ∈ t, bytN x) (ls : ∀ x ∈ t, lenN x) :
    Calls Tryd.prog 24 #[v, .int .i64 n, .string s] w fun e w' => ∃ v1, e = .returned (.tuple #[v1, .int .i64 (getF t n (L s)).2]) ∧ Rd .u8 w' v1 (getF t n (L s)).1 ∧ Below w.heap.size w w' := by
  have hla := slr_len h uN (P := Tryd.prog)
  have cw := w_r8wrong v t n w h bt ls
  by_cases hw : wrgF t n = 0
  · obtain ⟨hf, h0, hl⟩ := wrg_ok hw
    obtain ⟨p16, pok⟩ := frm_props hf hl
    rw [hw] at cw
    obtain ⟨k, rfl⟩ : ∃ k : Nat, n = k := ⟨n.toNat, by omega⟩
    have hk : k < t.length := by simpa using hl
    obtain ⟨b1, o1, nm, u1, p1, c1, r1, f0, f1, f2, f3, f4, e1, hu1, hp1, hc1⟩ := nod_at h k hk
    obtain ⟨pa, pq, rfl⟩ := slr_slice hp1
    have hpr : prpF t (k : Int) = t[k].2.2.2.1 := by
      have := prp_at (t := t) (n := (k : Int)) (by simpa using hk)
      simpa using this
    rw [hpr] at pok
    have cf := fun W (g : Below w.heap.size w W) => w_r8find _ _ s W (hp1.below g (propR_below g)) (fun x hx => ((bt _ (List.getElem_mem hk)).2 x hx).1)
    cases hp : pfF t[k].2.2.2.1 (L s) with
    | none =>
      have eG : getF t (k : Int) (L s) = ([], 2) := by unfold getF; rw [if_neg (by simpa using hw), hpr, hp]
      rw [eG]
      rw [hp] at cf
      have cf' : ∀ W, Below w.heap.size w W → Calls Tryd.prog 41 #[.slice pa t[k].2.2.2.1.length pq, .string s] W fun e w' => e = .returned (.int .i64 (-1)) ∧ w' = W := cf
      clear cf eG hp hpr pok hw hf
      go_enter Tryd.func24, Tryd.ntmps24
      go_wp2_with (first
        | (go_at_call 52; refine cw.mono ?_; rintro e q1 ⟨rfl, b1⟩; have g3 := below_cell b1 f3)
        | (go_at_call 41; refine (cf' _ b1).mono ?_; rintro e q2 ⟨rfl, rfl⟩))
      go_ret2
      exact ⟨_, rfl, Rd_nil, b1⟩
    | some j =>
      obtain ⟨hj, _, _⟩ := pf_some hp
      rw [hp] at cf
      have cf' : ∀ W, Below w.heap.size w W → Calls Tryd.prog 41 #[.slice pa t[k].2.2.2.1.length pq, .string s] W fun e w' => e = .returned (.int .i64 (j : Int)) ∧ w' = W := cf
      obtain ⟨bp, op, pn, vd, rp, s0, s1, en, hd⟩ := prp_at8 hp1 j hj
      have hx : t[k].2.2.2.1.getD j ([], []) = t[k].2.2.2.1[j] := by rw [List.getD_eq_getElem?_getD, List.getElem?_eq_getElem hj]; rfl
      have hdl : t[k].2.2.2.1[j].2.length ≤ 256 := (((okR_iff _).1 pok).1 _ (List.getElem_mem hj)).2
      have cc := fun W (g : Below w.heap.size w W) => w_rcopy vd _ W (hd.below g) (by omega)
      have eG : getF t (k : Int) (L s) = (t[k].2.2.2.1[j].2, 0) := by unfold getF; rw [if_neg (by simpa using hw), hpr, hp]; simp only [hx]
      rw [eG]
      have hj2 : ¬ (j : Int) < 0 := by omega
      clear cf eG hp hpr pok hw hf hx
      go_enter Tryd.func24, Tryd.ntmps24
      go_wp2_with (first
        | (go_at_call 52; refine cw.mono ?_; rintro e q1 ⟨rfl, b1⟩; have g3 := below_cell b1 f3; have g5 := below_cell b1 s1)
        | (go_at_call 41; refine (cf' _ b1).mono ?_; rintro e q2 ⟨rfl, hq2⟩; have hq2 := hq2.symm; subst hq2)
        | (go_at_call 47; refine (cc _ b1).mono ?_; rintro e q3 ⟨v3, rfl, o3, b3⟩))
      go_ret2
      exact ⟨_, rfl, (Rd_own o3).1, below_trans b1 b3⟩
  · have eG : getF t n (L s) = ([], wrgF t n) := by unfold getF; rw [if_pos hw]
    rw [eG]
    obtain ⟨E, hE⟩ : ∃ E, wrgF t n = E := ⟨_, rfl⟩
    rw [hE] at cw hw
    simp only [hE]
    have hb : (E != 0) = true := by simpa using hw
    clear eG hE hw
    go_enter Tryd.func24, Tryd.ntmps24
    go_wp2_with (go_at_call 52; refine cw.mono ?_; rintro e q1 ⟨rfl, b1⟩)
    go_ret2
    exact ⟨_, rfl, Rd_nil, b1⟩

set_option maxHeartbeats 2000000 in
set_option maxRecDepth 100000 in
theorem w_r8next (v : Value) (t : List Nd) (n : Int) (s : ByteArray) (w : World) (h : RdT w v t) (bt : ∀ x ∈ t, bytN x) (ls : ∀ x ∈ t, lenN x) :
    Calls Tryd.prog 26 #[v, .int .i64 n, .string s] w fun e w' => e = .returned (.tuple #[.string (strOfNums (nxtF t n (L s)).1), .int .i64 (nxtF t n (L s)).2]) ∧ Below w.heap.size w w' := by
  have hla := slr_len h uN (P := Tryd.prog)
  have cw := w_r8wrong v t n w h bt ls
  have es : strOfNums ([] : List Int) = ⟨#[]⟩ := by decide +kernel
  by_cases hw : wrgF t n = 0
  · obtain ⟨hf, h0, hl⟩ := wrg_ok hw
    obtain ⟨p16, pok⟩ := frm_props hf hl
    rw [hw] at cw
    obtain ⟨k, rfl⟩ : ∃ k : Nat, n = k := ⟨n.toNat, by omega⟩
    have hk : k < t.length := by simpa using hl
    obtain ⟨b1, o1, nm, u1, p1, c1, r1, f0, f1, f2, f3, f4, e1, hu1, hp1, hc1⟩ := nod_at h k hk
    obtain ⟨pa, pq, rfl⟩ := slr_slice hp1
    have hpr : prpF t (k : Int) = t[k].2.2.2.1 := by
      have := prp_at (t := t) (n := (k : Int)) (by simpa using hk)
      simpa using this
    rw [hpr] at p16
    have cf := fun W (g : Below w.heap.size w W) => w_r8find _ _ s W (hp1.below g (propR_below g)) (fun x hx => ((bt _ (List.getElem_mem hk)).2 x hx).1)
    obtain ⟨np, hnp⟩ : ∃ n, t[k].2.2.2.1.length = n := ⟨_, rfl⟩
    rw [hnp] at f3
    simp only [hnp] at cf
    have hse : (s.toList == []) = decide (L s = []) := by
      rw [Bool.eq_iff_iff, beq_iff_eq, decide_eq_true_eq]
      unfold L
      rw [ByteArray.toList_eq]
      simp
    cases hp : pfF t[k].2.2.2.1 (L s) with
    | some j =>
      have eN : nxtF t (k : Int) (L s) = ((t[k].2.2.2.1.getD (j + 1) ([], [])).1, 0) := by unfold nxtF; rw [if_neg (by simpa using hw), hpr, hp]
      rw [eN]
      rw [hp] at cf
      have cf' : ∀ W, Below w.heap.size w W → Calls Tryd.prog 41 #[.slice pa np pq, .string s] W fun e w' => e = .returned (.int .i64 (j : Int)) ∧ w' = W := cf
      have hj0 : ¬ (j : Int) < 0 := by omega
      have hjb : (j : Int) ≤ 16 := by obtain ⟨g, _⟩ := pf_some hp; omega
      clear cf
      by_cases hml : j + 1 < t[k].2.2.2.1.length
      · obtain ⟨bp, op, pn, vd, rp, s0, s1, en, hd⟩ := prp_at8 hp1 (j + 1) hml
        have hx : t[k].2.2.2.1.getD (j + 1) ([], []) = t[k].2.2.2.1[j + 1] := by rw [List.getD_eq_getElem?_getD, List.getElem?_eq_getElem hml]; rfl
        simp only [hx, en]
        have hmI : (j : Int) + 1 < np := by omega
        have rp' : ∀ w', (Instr.indexAt 54 (.slice pa np pq) (.int .i64 ((j : Int) + 1))).run Tryd.prog w' = .ok (.pointer (some ⟨bp, op, none⟩)) w' := by rw [← hnp]; exact rp
        clear rp eN hw hf hx en pok hpr hse hnp p16 hp hd hml
        go_enter Tryd.func26, Tryd.ntmps26
        go_wp2_with (first
                  | (go_at_call 52; refine cw.mono ?_; rintro e q1 ⟨rfl, b1⟩; have g3 := below_cell b1 f3; have g5 := below_cell b1 s0)
                  | (go_at_call 41; refine (cf' _ b1).mono ?_; rintro e q2 ⟨rfl, hq2⟩; have hq2 := hq2.symm; subst hq2))
        go_ret2
        exact ⟨rfl, b1⟩
      · have hx : t[k].2.2.2.1.getD (j + 1) ([], []) = ([], []) := by rw [List.getD_eq_getElem?_getD, List.getElem?_eq_none (by omega)]; rfl
        simp only [hx, es]
        have hmI : ¬ (j : Int) + 1 < np := by omega
        clear eN hw hf hx pok hpr hse hnp p16 hp hml
        go_enter Tryd.func26, Tryd.ntmps26
        go_wp2_with (first
                  | (go_at_call 52; refine cw.mono ?_; rintro e q1 ⟨rfl, b1⟩; have g3 := below_cell b1 f3)
                  | (go_at_call 41; refine (cf' _ b1).mono ?_; rintro e q2 ⟨rfl, hq2⟩; have hq2 := hq2.symm; subst hq2))
        go_ret2
        exact ⟨rfl, b1⟩
    | none =>
      rw [hp] at cf
      have cf' : ∀ W, Below w.heap.size w W → Calls Tryd.prog 41 #[.slice pa np pq, .string s] W fun e w' => e = .returned (.int .i64 (-1)) ∧ w' = W := cf
      clear cf
      by_cases hs : L s = []
      · have eN : nxtF t (k : Int) (L s) = ((t[k].2.2.2.1.getD 0 ([], [])).1, 0) := by unfold nxtF; rw [if_neg (by simpa using hw), hpr, hp]; simp [hs]
        rw [eN]
        rw [decide_eq_true hs] at hse
        have gq2 : (s.toList != []) = false := by simp [bne, hse]
        have gq3 : s.toList.isEmpty = true := by rw [← hse]; cases s.toList <;> rfl
        clear hs
        by_cases hml : 0 < t[k].2.2.2.1.length
        · obtain ⟨bp, op, pn, vd, rp, s0, s1, en, hd⟩ := prp_at8 hp1 (0) hml
          have hx : t[k].2.2.2.1.getD (0) ([], []) = t[k].2.2.2.1[0] := by rw [List.getD_eq_getElem?_getD, List.getElem?_eq_getElem hml]; rfl
          simp only [hx, en]
          have hmI : (0 : Int) < np := by omega
          have rp' : ∀ w', (Instr.indexAt 54 (.slice pa np pq) (.int .i64 ((0 : Int)))).run Tryd.prog w' = .ok (.pointer (some ⟨bp, op, none⟩)) w' := by rw [← hnp]; exact rp
          clear rp eN hw hf hx en pok hpr hse hnp p16 hp hd hml
          go_enter Tryd.func26, Tryd.ntmps26
          go_wp2_with (first
                    | (go_at_call 52; refine cw.mono ?_; rintro e q1 ⟨rfl, b1⟩; have g3 := below_cell b1 f3; have g5 := below_cell b1 s0)
                    | (go_at_call 41; refine (cf' _ b1).mono ?_; rintro e q2 ⟨rfl, hq2⟩; have hq2 := hq2.symm; subst hq2))
          go_ret2
          exact ⟨rfl, b1⟩
        · have hx : t[k].2.2.2.1.getD (0) ([], []) = ([], []) := by rw [List.getD_eq_getElem?_getD, List.getElem?_eq_none (by omega)]; rfl
          simp only [hx, es]
          have hmI : ¬ (0 : Int) < np := by omega
          clear eN hw hf hx pok hpr hse hnp p16 hp hml
          go_enter Tryd.func26, Tryd.ntmps26
          go_wp2_with (first
                    | (go_at_call 52; refine cw.mono ?_; rintro e q1 ⟨rfl, b1⟩; have g3 := below_cell b1 f3)
                    | (go_at_call 41; refine (cf' _ b1).mono ?_; rintro e q2 ⟨rfl, hq2⟩; have hq2 := hq2.symm; subst hq2))
          go_ret2
          exact ⟨rfl, b1⟩
      · have eN : nxtF t (k : Int) (L s) = ([], 2) := by unfold nxtF; rw [if_neg (by simpa using hw), hpr, hp]; simp [hs]
        rw [eN, es]
        rw [decide_eq_false hs] at hse
        have gq2 : (s.toList != []) = true := by simp [bne, hse]
        have gq3 : s.toList.isEmpty = false := by rw [← hse]; cases s.toList <;> rfl
        clear eN hp hpr pok hw hf hs
        go_enter Tryd.func26, Tryd.ntmps26
        go_wp2_with (first
          | (go_at_call 52; refine cw.mono ?_; rintro e q1 ⟨rfl, b1⟩; have g3 := below_cell b1 f3)
          | (go_at_call 41; refine (cf' _ b1).mono ?_; rintro e q2 ⟨rfl, hq2⟩; have hq2 := hq2.symm; subst hq2))
        go_ret2
        exact ⟨rfl, b1⟩
  · have eG : nxtF t n (L s) = ([], wrgF t n) := by unfold nxtF; rw [if_pos hw]
    rw [eG, es]
    obtain ⟨E, hE⟩ : ∃ E, wrgF t n = E := ⟨_, rfl⟩
    rw [hE] at cw hw
    simp only [hE]
    have hb : (E != 0) = true := by simpa using hw
    clear eG hE hw
    go_enter Tryd.func26, Tryd.ntmps26
    go_wp2_with (go_at_call 52; refine cw.mono ?_; rintro e q1 ⟨rfl, b1⟩)
    go_ret2
    exact ⟨rfl, b1⟩

/-
  Same of the document's answer for steps.
-/
theorem uP : Tryd.prog.underlying 48 = some (.slice (Tryd.prog.elem 48)) := by kernel_rfl
theorem eP : Tryd.prog.elem 48 = 78 := by kernel_rfl
theorem zP (w : World) : (sizeOf (Tryd.prog.elem 48)).run Tryd.prog w = .ok 3 w := by rw [eP]; exact Tryd.sizeOf78 w
theorem stp_at {w : World} {v : Value} {xs : List Sp} (h : SlR 3 stpR w v xs) (i : Nat) (h1 : i < xs.length) :
    ∃ (b o : Nat) (nm ar : ByteArray) (ao : Option Addr) (n cap : Nat), (∀ w', (Instr.indexAt 48 v (.int .i64 (i : Int))).run Tryd.prog w' = .ok (.pointer (some ⟨b, o, none⟩)) w') ∧ w.cell? ⟨b, o, none⟩ = some (.string nm) ∧ w.cell? ⟨b, o + 1, none⟩ = some (.slice ao n cap) ∧ w.cell? ⟨b, o + 2, none⟩ = some (.string ar) ∧ strOfNums xs[i].1 = nm ∧ strOfNums xs[i].2.2 = ar ∧ Rd .u32 w (.slice ao n cap) xs[i].2.1 := by
  obtain ⟨b, o, c0, c1, c2, r, e0, e1, e2, u, hR, hU⟩ := slr_idx3 h uP zP i h1
  simp only [List.cons.injEq] at hR
  obtain ⟨rfl, rfl, rfl, _⟩ := hR
  obtain ⟨ao, cap, rfl, _⟩ := rd_form hU
  exact ⟨b, o, _, _, ao, _, cap, r, e0, e1, e2, rfl, rfl, hU⟩
theorem str_ne_L (A B : ByteArray) (a b : List Int) (ha : bytesL a) (hb : bytesL b) (h1 : strOfNums a = A) (h2 : strOfNums b = B) : (A.toList == B.toList) = decide (a = b) := by
  rw [str_beq, ← h1, ← h2]
  simp only [nums_eq a b ha hb]

/-
  Show of the document's answer for paths.
-/
/-- a row of bytes of the call's own -/
def OwnY (base : Nat) (w : World) (v : Value) (xs : List Int) : Prop := w.ownsRow base 5 1 v xs.length (xs.map (Value.int .u8))
theorem rd_n {k : IntKind} {w : World} {ao : Option Addr} {n cap : Nat} {xs : List Int} (h : Rd k w (.slice ao n cap) xs) : n = xs.length := by
  obtain ⟨ao', cap', e, _⟩ := rd_form h
  simp at e
  exact e.2.1
theorem up_in (c : Int) (l : List Int) : l.all (fun x => decide (¬ x = c)) = decide (¬ (upTo c l).length < l.length) := by
  have h1 := upTo_len c l
  rw [Bool.eq_iff_iff, List.all_eq_true]
  constructor
  · intro h
    have := upTo_all c l (fun x hx => by simpa using h x hx)
    rw [this]
    simp
  · intro h x hx
    have h2 : l.length ≤ (upTo c l).length := by simpa using h
    have e := upTo_take c l
    rw [List.take_of_length_le h2] at e
    rw [e] at hx
    simpa using upTo_free c l x hx
theorem ok_nm {x : Sp} (h : nmF x.1 = false) : okS x = false := by simp [okS, h]
theorem ok_un {x : Sp} (h : 4 < x.2.1.length) : okS x = false := by
  have : decide (x.2.1.length ≤ 4) = false := by simp; omega
  simp only [okS, this]
  simp
theorem ok_ar {x : Sp} (h : (upTo 47 x.2.2).length < x.2.2.length) : okS x = false := by
  have : x.2.2.all (fun c => decide (¬ c = 47)) = false := by rw [up_in]; simp [h]
  unfold okS
  rw [this]
  simp
theorem ok_all {x : Sp} (h1 : nmF x.1 = true) (h2 : x.2.1.length ≤ 4) (h3 : ¬ (upTo 47 x.2.2).length < x.2.2.length) : okS x = true := by
  have : x.2.2.all (fun c => decide (¬ c = 47)) = true := by rw [up_in]; simp [h3]
  unfold okS
  rw [h1, this]
  simp [h2]
theorem shp_bad (l : List Sp) (k : Nat) (h : k < l.length) (hb : okS l[k] = false) : shpF l = ([], 1) := by
  unfold shpF
  rw [if_pos]
  rw [Bool.eq_false_iff]
  intro hall
  rw [List.all_eq_true] at hall
  have := hall l[k] (List.getElem_mem h)
  rw [hb] at this
  cases this
theorem shp_snoc (l : List Sp) (x : Sp) : shpT (l ++ [x]) = shpT l ++ 47 :: bodT x := by
  induction l with
  | nil => simp [shpT]
  | cons y l ih => simp [shpT, ih]
theorem shp_take (l : List Sp) (k : Nat) : (shpT (l.take k)).length ≤ (shpT l).length := by
  induction l generalizing k with
  | nil => simp [shpT]
  | cons y l ih =>
    cases k with
    | zero => simp [shpT]
    | succ k =>
      have := ih k
      simp only [List.take_succ_cons, shpT, List.length_cons, List.length_append]
      omega

set_option maxHeartbeats 4000000 in
set_option maxRecDepth 100000 in
theorem w_rshow7 (v : Value) (xs : List Sp) (w : World) (h : SlR 3 stpR w v xs) (bx : ∀ x ∈ xs, bytesL x.1 ∧ bytesL x.2.2) (cx : ∀ x ∈ xs, cells x.2.1) (hz : (shpT xs).length ≤ 100000000000) (hsz : ∀ x ∈ xs, x.1.length ≤ 100000000000 ∧ x.2.1.length ≤ 100000000000 ∧ x.2.2.length ≤ 100000000000) :
    Calls Tryd.prog 61 #[v] w fun e w' => e = .returned (.tuple #[.string (strOfNums (shpF xs).1), .int .i64 (shpF xs).2]) ∧ Below w.heap.size w w' := by
  have hla := slr_len h uP (P := Tryd.prog)
  have hma := slr_max h
  unfold maxLen at hma
  obtain ⟨i0, hi0, hz0, hz1, hz2⟩ := info_parts infoU8
  obtain ⟨A, E, hAE⟩ : ∃ A E, shpF xs = (A, E) := ⟨_, _, rfl⟩
  have HAE := hid hAE
  rw [hAE]
  show Calls _ _ _ _ fun e w' => e = .returned (.tuple #[.string (strOfNums A), .int .i64 E]) ∧ _
  clear hAE
  go_enter Tryd.func61, Tryd.ntmps61
  go_wp2_with fail
  go_loopw [5] (fun I wx => ∃ (i : Nat), (i : Int) ≤ xs.length ∧ I = .int .i64 i ∧ Hid ((xs.take i).all okS = true) ∧ Below w.heap.size w wx) (fun I _ => (xs.length - intOf I).toNat)
  case atStart => exact ⟨0, by omega, rfl, hid rfl, Below.refl _ _⟩
  case round =>
    obtain ⟨i, hi, rfl, hall, hb⟩ := hrel
    by_cases hlt : (i : Int) < xs.length
    · have hil : i < xs.length := by omega
      obtain ⟨b, o, nm, ar, ao, n, cap, r, a0, a1, a2, e0, e2, hU⟩ := stp_at h i hil
      have hn := rd_n hU
      have c0 := below_cell hb a0
      have c1 := below_cell hb a1
      have c2 := below_cell hb a2
      have hNL : L nm = xs[i].1 := by rw [← e0]; exact LB_nums _ (bx _ (List.getElem_mem hil)).1
      have hAL : L ar = xs[i].2.2 := by rw [← e2]; exact LB_nums _ (bx _ (List.getElem_mem hil)).2
      have hNs : nm.size ≤ 100000000000 := by rw [← L_len, hNL]; exact (hsz _ (List.getElem_mem hil)).1
      have hAs : ar.size ≤ 100000000000 := by rw [← L_len, hAL]; exact (hsz _ (List.getElem_mem hil)).2.2
      have cn := fun w => w_rnamedQ nm w (by unfold maxLen; omega)
      have cp : ∀ w, Calls Tryd.prog 76 #[.string ar, .int .i64 0, .int .u8 47] w fun e w' => e = .returned (.int .i64 (pcF (L ar) 0 47)) ∧ w' = w := fun w => w_place ar 0 47 w (by unfold maxLen; omega) (by omega) (by decide) (by decide)
      rw [pc0] at cp
      rw [hNL] at cn
      rw [hAL] at cp
      have hpl := upTo_len 47 xs[i].2.2
      have hasz : ar.size = xs[i].2.2.length := by rw [← L_len, hAL]
      rw [← hasz] at hpl
      have hb0 := hb.alloc hb.size (.cells #[.string nm, .slice ao n cap, .string ar] 78)
      have st0 := stands_new wr #[.string nm, .slice ao n cap, .string ar] 78
      have x0 := st0.cell 0 _ rfl
      have x1 := st0.cell 1 _ rfl
      have x2 := st0.cell 2 _ rfl
      have HNn := hid hn
      clear hn
      have bad : okS xs[i] = false → Hid (shpF xs = ([], 1)) := fun g => shp_bad xs i hil g
      cases hnm : nmF xs[i].1
      · have e := bad (ok_nm hnm)
        rw [hnm] at cn
        clear e0 e2 hNL hAL hnm bad hpl hasz
        go_wp2_with fail
        go_quiet (first | (go_at_call 39; exact Calls.quiet_of (cn _)))
        go_wp2_with fail
        go_ret2
        obtain ⟨rfl, rfl⟩ := Prod.mk.inj (HAE.out.symm.trans e.out)
        exact ⟨rfl, below_drewN hb0 _⟩
      · rw [hnm] at cn
        by_cases hu4 : 4 < xs[i].2.1.length
        · have e := bad (ok_un hu4)
          have hn4 : (4 : Int) < n := by have := HNn.out; omega
          clear e0 e2 hNL hAL hnm bad hpl hasz hu4
          go_wp2_with fail
          go_quiet (first | (go_at_call 39; exact Calls.quiet_of (cn _)))
          go_wp2_with fail
          go_ret2
          obtain ⟨rfl, rfl⟩ := Prod.mk.inj (HAE.out.symm.trans e.out)
          exact ⟨rfl, below_drewN hb0 _⟩
        · have hn4 : ¬ (4 : Int) < n := by have := HNn.out; omega
          by_cases hsl : (upTo 47 xs[i].2.2).length < xs[i].2.2.length
          · have e := bad (ok_ar hsl)
            obtain ⟨q, hq⟩ : ∃ q, (upTo 47 xs[i].2.2).length = q := ⟨_, rfl⟩
            rw [hq] at cp hsl
            have hqs : (q : Int) < ar.size := by omega
            clear e0 e2 hNL hAL hnm bad hpl hasz hu4 hq
            go_wp2_with fail
            go_quiet (first | (go_at_call 39; exact Calls.quiet_of (cn _)) | (go_at_call 76; exact Calls.quiet_of_same (cp _)))
            go_wp2_with fail
            go_ret2
            obtain ⟨rfl, rfl⟩ := Prod.mk.inj (HAE.out.symm.trans e.out)
            exact ⟨rfl, below_drewN hb0 _⟩
          · have hall2 : Hid ((xs.take (i + 1)).all okS = true) := by
              show _ = _
              rw [List.take_succ_eq_append_getElem hil, List.all_append, hall.out]
              simp [ok_all hnm (by omega) hsl]
            obtain ⟨q, hq⟩ : ∃ q, (upTo 47 xs[i].2.2).length = q := ⟨_, rfl⟩
            rw [hq] at cp hsl
            have hqs : ¬ (q : Int) < ar.size := by omega
            clear e0 e2 hNL hAL hnm bad hpl hasz hu4 hq
            go_wp2_with fail
            go_quiet (first | (go_at_call 39; exact Calls.quiet_of (cn _)) | (go_at_call 76; exact Calls.quiet_of_same (cp _)))
            go_wp2_with fail
            go_roundw
            case rel => exact ⟨i + 1, by omega, by go_num, hall2, below_drewN hb0 _⟩
            case measure => simp [intOf]; omega
    · have hok : Hid (xs.all okS = true) := by
        show _ = _
        have := hall.out
        rw [List.take_of_length_le (by omega)] at this
        exact this
      have hb8 := hb
      clear hall
      go_wp2_with fail
      go_loopw [4, 7] (fun U I wx => ∃ (j : Nat) (ys : List Int), (j : Int) ≤ xs.length ∧ I = .int .i64 j ∧ Hid (ys = shpT (xs.take j)) ∧ OwnY w.heap.size wx U ys ∧ Below w.heap.size w wx) (fun _ I _ => (xs.length - intOf I).toNat)
      case atStart => exact ⟨0, [], by omega, rfl, hid rfl, World.ownsRow_nil _ _ _ _, hb8⟩
      case round =>
        obtain ⟨j, ys, hj, rfl, hys, ho, hb⟩ := hrel
        by_cases hjt : (j : Int) < xs.length
        · have hil : j < xs.length := by omega
          obtain ⟨b, o, nm, ar, ao, n, cap, r, a0, a1, a2, e0, e2, hU⟩ := stp_at h j hil
          have hn := rd_n hU
          have c0 := below_cell hb a0
          have c1 := below_cell hb a1
          have c2 := below_cell hb a2
          have hNL : LB nm = xs[j].1 := by rw [← e0]; exact LB_nums _ (bx _ (List.getElem_mem hil)).1
          have hAL : LB ar = xs[j].2.2 := by rw [← e2]; exact LB_nums _ (bx _ (List.getElem_mem hil)).2
          have hNs : nm.size ≤ 100000000000 := by rw [← LB_len, hNL]; exact (hsz _ (List.getElem_mem hil)).1
          have hAs : ar.size ≤ 100000000000 := by rw [← LB_len, hAL]; exact (hsz _ (List.getElem_mem hil)).2.2
          have hyl : (ys.length : Int) ≤ 100000000000 := by have h1 := shp_take xs j; rw [hys.out]; omega
          have hF : shpT (xs.take (j + 1)) = ys ++ 47 :: bodT xs[j] := by rw [List.take_succ_eq_append_getElem hil, shp_snoc, hys.out]
          have hol := shp_take xs (j + 1)
          rw [hF] at hol
          have cu := fun w (g : Rd .u32 w (.slice ao n cap) xs[j].2.1) => w_rsunit _ _ w g (cx _ (List.getElem_mem hil)) (by have := (hsz _ (List.getElem_mem hil)).2.1; omega)
          have st0 := stands_new wr #[.string nm, .slice ao n cap, .string ar] 78
          have ho0 := World.ownsRow.alloc ho (.cells #[.string nm, .slice ao n cap, .string ar] 78)
          have hb0 := hb.alloc hb.size (.cells #[.string nm, .slice ao n cap, .string ar] 78)
          have hao : ar.size = xs[j].2.2.length := by rw [← LB_len, hAL]
          have hnl : nm.size = xs[j].1.length := by rw [← LB_len, hNL]
          unfold bodT at hF hol
          rw [← hNL, ← hAL] at hF
          simp only [List.length_append, List.length_cons] at hol
          have hcu := cx _ (List.getElem_mem hil)
          obtain ⟨u, hu⟩ : ∃ u, xs[j].2.1 = u := ⟨_, rfl⟩
          simp only [hu] at hF cu hU hn hol hcu
          have hA0 : (LB ar = []) ↔ ar.size = 0 := by rw [← List.length_eq_zero_iff, LB_len]
          have HNn := hid hn
          clear e0 e2 hNL hAL hu hn
          rcases Nat.eq_zero_or_pos u.length with hu0 | hu0
          · have hn0 : ¬ (0 : Int) < n := by have := HNn.out; omega
            have hue : u = [] := List.eq_nil_of_length_eq_zero hu0
            rw [if_pos hue, List.nil_append] at hF
            clear hu0 cu
            rcases Nat.eq_zero_or_pos ar.size with ha0 | ha0
            · rw [if_pos (hA0.2 ha0), List.append_nil] at hF
              have q1 : (ar.toList == []) = true := by rw [beq_iff_eq, ByteArray.toList_eq]; exact List.eq_nil_of_length_eq_zero (by simpa using ha0)
              have q2 : (ar.toList != []) = false := by simp [bne, q1]
              have q3 : ar.toList.isEmpty = true := by rw [← q1]; cases ar.toList <;> rfl
              clear hA0 hue
              go_upto_region 12 with (fail)
              obtain ⟨w0, hw0⟩ : ∃ w0, wr.alloc (.cells #[.string nm, .slice ao n cap, .string ar] 78) = w0 := ⟨_, rfl⟩
              rw [hw0] at st0 ho0 hb0 ⊢
              clear hw0
              have ho0x := World.ownsRow.alloc ho0 (.cells #[.int .u8 47] 5)
              have hb0x := hb0.alloc hb0.size (.cells #[.int .u8 47] 5)
              have st0x := st0.below (box_below _ (.cells #[.int .u8 47] 5))
              go_upto_region 13 with (at_builtin; refine wpList_append_rd (k := .u8) rfl _ _ 28 rfl w.heap.size 5 i0 1 Tryd.underlying28 hi0 hz0 hz1 hz2 _ ys rfl ho0x _ [47] rfl (rd_one _ 47 5) (by unfold maxLen; simp only [List.length_cons, List.length_nil]; omega) (by simp only [List.length_cons, List.length_nil]; omega) hb0x.size ?_; intro v1 w1 ho1 hg1)
              have hb1 := below_grown hb0x hg1 (fun k hk => (World.ownsRow.lt ho0x k hk).1)
              have st1 := st0x.grown hg1 (stands_apart st0x ho0x (by decide))
              obtain ⟨Y1, hY1⟩ : ∃ Y1, ys ++ [47] = Y1 := ⟨_, rfl⟩
              have hY1l : (Y1.length : Int) = ys.length + 1 := by rw [← hY1, List.length_append]; simp [LB_len]
              rw [hY1] at ho1
              have z0 := st1.cell 0 _ rfl
              go_upto_region 14 with ((at_builtin; refine wpList_append_rds rfl _ _ 28 9 rfl w.heap.size 5 i0 Tryd.underlying28 Tryd.underlying9 hi0 hz0 hz1 hz2 _ Y1 rfl ho1 nm rfl (by unfold maxLen; omega) (by omega) hb1.size ?_; intro v2 w2 ho2 hg2))
              have hb2 := below_grown hb1 hg2 (fun k hk => (World.ownsRow.lt ho1 k hk).1)
              have st2 := st1.grown hg2 (stands_apart st1 ho1 (by decide))
              obtain ⟨Y2, hY2⟩ : ∃ Y2, Y1 ++ LB nm = Y2 := ⟨_, rfl⟩
              have hY2l : (Y2.length : Int) = Y1.length + nm.size := by rw [← hY2, List.length_append]; simp [LB_len]
              rw [hY2] at ho2
              have z1 := st2.cell 1 _ rfl
              have z2 := st2.cell 2 _ rfl
              go_wp2_with fail
              have hR : Hid (Y2 = shpT (xs.take (j + 1))) := by show _ = _; rw [hF, ← hY2, ← hY1]; simp
              go_roundw
              case rel => exact ⟨j + 1, Y2, by omega, by go_num, hR, ho2, hb2⟩
              case measure => simp [intOf]; omega
            · rw [if_neg (fun g => by have := hA0.1 g; omega)] at hF
              have q1 : (ar.toList == []) = false := by rw [Bool.eq_false_iff]; intro g; rw [beq_iff_eq, ByteArray.toList_eq] at g; have h9 := congrArg List.length g; rw [List.length_nil] at h9; have e9 : ar.data.toList.length = ar.size := (by simp); omega
              have q2 : (ar.toList != []) = true := by simp [bne, q1]
              have q3 : ar.toList.isEmpty = false := by rw [← q1]; cases ar.toList <;> rfl
              clear hA0 hue
              go_upto_region 12 with (fail)
              obtain ⟨w0, hw0⟩ : ∃ w0, wr.alloc (.cells #[.string nm, .slice ao n cap, .string ar] 78) = w0 := ⟨_, rfl⟩
              rw [hw0] at st0 ho0 hb0 ⊢
              clear hw0
              have ho0x := World.ownsRow.alloc ho0 (.cells #[.int .u8 47] 5)
              have hb0x := hb0.alloc hb0.size (.cells #[.int .u8 47] 5)
              have st0x := st0.below (box_below _ (.cells #[.int .u8 47] 5))
              go_upto_region 13 with (at_builtin; refine wpList_append_rd (k := .u8) rfl _ _ 28 rfl w.heap.size 5 i0 1 Tryd.underlying28 hi0 hz0 hz1 hz2 _ ys rfl ho0x _ [47] rfl (rd_one _ 47 5) (by unfold maxLen; simp only [List.length_cons, List.length_nil]; omega) (by simp only [List.length_cons, List.length_nil]; omega) hb0x.size ?_; intro v1 w1 ho1 hg1)
              have hb1 := below_grown hb0x hg1 (fun k hk => (World.ownsRow.lt ho0x k hk).1)
              have st1 := st0x.grown hg1 (stands_apart st0x ho0x (by decide))
              obtain ⟨Y1, hY1⟩ : ∃ Y1, ys ++ [47] = Y1 := ⟨_, rfl⟩
              have hY1l : (Y1.length : Int) = ys.length + 1 := by rw [← hY1, List.length_append]; simp [LB_len]
              rw [hY1] at ho1
              have z0 := st1.cell 0 _ rfl
              go_upto_region 14 with ((at_builtin; refine wpList_append_rds rfl _ _ 28 9 rfl w.heap.size 5 i0 Tryd.underlying28 Tryd.underlying9 hi0 hz0 hz1 hz2 _ Y1 rfl ho1 nm rfl (by unfold maxLen; omega) (by omega) hb1.size ?_; intro v2 w2 ho2 hg2))
              have hb2 := below_grown hb1 hg2 (fun k hk => (World.ownsRow.lt ho1 k hk).1)
              have st2 := st1.grown hg2 (stands_apart st1 ho1 (by decide))
              obtain ⟨Y2, hY2⟩ : ∃ Y2, Y1 ++ LB nm = Y2 := ⟨_, rfl⟩
              have hY2l : (Y2.length : Int) = Y1.length + nm.size := by rw [← hY2, List.length_append]; simp [LB_len]
              rw [hY2] at ho2
              have z1 := st2.cell 1 _ rfl
              have z2 := st2.cell 2 _ rfl
              go_upto_region 18 with (fail)
              have ho2x := World.ownsRow.alloc ho2 (.cells #[.int .u8 58] 5)
              have hb2x := hb2.alloc hb2.size (.cells #[.int .u8 58] 5)
              have st2x := st2.below (box_below _ (.cells #[.int .u8 58] 5))
              go_upto_region 19 with (at_builtin; refine wpList_append_rd (k := .u8) rfl _ _ 28 rfl w.heap.size 5 i0 1 Tryd.underlying28 hi0 hz0 hz1 hz2 _ Y2 rfl ho2x _ [58] rfl (rd_one _ 58 5) (by unfold maxLen; simp only [List.length_cons, List.length_nil]; omega) (by simp only [List.length_cons, List.length_nil]; omega) hb2x.size ?_; intro v3 w3 ho3 hg3)
              have hb3 := below_grown hb2x hg3 (fun k hk => (World.ownsRow.lt ho2x k hk).1)
              have st3 := st2x.grown hg3 (stands_apart st2x ho2x (by decide))
              obtain ⟨Y7, hY7⟩ : ∃ Y7, Y2 ++ [58] = Y7 := ⟨_, rfl⟩
              have hY7l : (Y7.length : Int) = Y2.length + 1 := by rw [← hY7, List.length_append]; simp [LB_len]
              rw [hY7] at ho3
              have z7 := st3.cell 2 _ rfl
              go_wp2_with ((at_builtin; refine wpList_append_rds rfl _ _ 28 9 rfl w.heap.size 5 i0 Tryd.underlying28 Tryd.underlying9 hi0 hz0 hz1 hz2 _ Y7 rfl ho3 ar rfl (by unfold maxLen; omega) (by omega) hb3.size ?_; intro v4 w4 ho4 hg4))
              have hb4 := below_grown hb3 hg4 (fun k hk => (World.ownsRow.lt ho3 k hk).1)
              have hR : Hid (Y7 ++ LB ar = shpT (xs.take (j + 1))) := by show _ = _; rw [hF, ← hY7, ← hY2, ← hY1]; simp
              go_roundw
              case rel => exact ⟨j + 1, Y7 ++ LB ar, by omega, by go_num, hR, ho4, hb4⟩
              case measure => simp [intOf]; omega
          · have hn0 : (0 : Int) < n := by have := HNn.out; omega
            have hue : ¬ u = [] := by intro g; rw [g] at hu0; simp at hu0
            rw [if_neg hue] at hF hol
            rw [List.length_cons] at hol
            have hsb : LB (strOfNums (shoF u)) = shoF u := LB_nums _ (shoF_bytes u hcu)
            have hss : (strOfNums (shoF u)).size = (shoF u).length := toB_size _
            obtain ⟨S, hS⟩ : ∃ S, strOfNums (shoF u) = S := ⟨_, rfl⟩
            simp only [hS] at cu hsb hss
            rw [← hsb] at hF
            clear hu0 hS hsb
            rcases Nat.eq_zero_or_pos ar.size with ha0 | ha0
            · rw [if_pos (hA0.2 ha0), List.append_nil] at hF
              have q1 : (ar.toList == []) = true := by rw [beq_iff_eq, ByteArray.toList_eq]; exact List.eq_nil_of_length_eq_zero (by simpa using ha0)
              have q2 : (ar.toList != []) = false := by simp [bne, q1]
              have q3 : ar.toList.isEmpty = true := by rw [← q1]; cases ar.toList <;> rfl
              clear hA0 hue
              go_upto_region 12 with (fail)
              obtain ⟨w0, hw0⟩ : ∃ w0, wr.alloc (.cells #[.string nm, .slice ao n cap, .string ar] 78) = w0 := ⟨_, rfl⟩
              rw [hw0] at st0 ho0 hb0 ⊢
              clear hw0
              have ho0x := World.ownsRow.alloc ho0 (.cells #[.int .u8 47] 5)
              have hb0x := hb0.alloc hb0.size (.cells #[.int .u8 47] 5)
              have st0x := st0.below (box_below _ (.cells #[.int .u8 47] 5))
              go_upto_region 13 with (at_builtin; refine wpList_append_rd (k := .u8) rfl _ _ 28 rfl w.heap.size 5 i0 1 Tryd.underlying28 hi0 hz0 hz1 hz2 _ ys rfl ho0x _ [47] rfl (rd_one _ 47 5) (by unfold maxLen; simp only [List.length_cons, List.length_nil]; omega) (by simp only [List.length_cons, List.length_nil]; omega) hb0x.size ?_; intro v1 w1 ho1 hg1)
              have hb1 := below_grown hb0x hg1 (fun k hk => (World.ownsRow.lt ho0x k hk).1)
              have st1 := st0x.grown hg1 (stands_apart st0x ho0x (by decide))
              obtain ⟨Y1, hY1⟩ : ∃ Y1, ys ++ [47] = Y1 := ⟨_, rfl⟩
              have hY1l : (Y1.length : Int) = ys.length + 1 := by rw [← hY1, List.length_append]; simp [LB_len]
              rw [hY1] at ho1
              have z0 := st1.cell 0 _ rfl
              go_upto_region 14 with ((at_builtin; refine wpList_append_rds rfl _ _ 28 9 rfl w.heap.size 5 i0 Tryd.underlying28 Tryd.underlying9 hi0 hz0 hz1 hz2 _ Y1 rfl ho1 nm rfl (by unfold maxLen; omega) (by omega) hb1.size ?_; intro v2 w2 ho2 hg2))
              have hb2 := below_grown hb1 hg2 (fun k hk => (World.ownsRow.lt ho1 k hk).1)
              have st2 := st1.grown hg2 (stands_apart st1 ho1 (by decide))
              obtain ⟨Y2, hY2⟩ : ∃ Y2, Y1 ++ LB nm = Y2 := ⟨_, rfl⟩
              have hY2l : (Y2.length : Int) = Y1.length + nm.size := by rw [← hY2, List.length_append]; simp [LB_len]
              rw [hY2] at ho2
              have z1 := st2.cell 1 _ rfl
              have z2 := st2.cell 2 _ rfl
              go_upto_region 15 with (fail)
              have ho2x := World.ownsRow.alloc ho2 (.cells #[.int .u8 64] 5)
              have hb2x := hb2.alloc hb2.size (.cells #[.int .u8 64] 5)
              have st2x := st2.below (box_below _ (.cells #[.int .u8 64] 5))
              go_upto_region 16 with (at_builtin; refine wpList_append_rd (k := .u8) rfl _ _ 28 rfl w.heap.size 5 i0 1 Tryd.underlying28 hi0 hz0 hz1 hz2 _ Y2 rfl ho2x _ [64] rfl (rd_one _ 64 5) (by unfold maxLen; simp only [List.length_cons, List.length_nil]; omega) (by simp only [List.length_cons, List.length_nil]; omega) hb2x.size ?_; intro v3 w3 ho3 hg3)
              have hb3 := below_grown hb2x hg3 (fun k hk => (World.ownsRow.lt ho2x k hk).1)
              have st3 := st2x.grown hg3 (stands_apart st2x ho2x (by decide))
              obtain ⟨Y3, hY3⟩ : ∃ Y3, Y2 ++ [64] = Y3 := ⟨_, rfl⟩
              have hY3l : (Y3.length : Int) = Y2.length + 1 := by rw [← hY3, List.length_append]; simp [LB_len]
              rw [hY3] at ho3
              have z3 := st3.cell 1 _ rfl
              go_upto_region 17 with (first | (go_at_call 77; refine (cu _ (hU.below hb3)).mono ?_; rintro e w4 ⟨rfl, b4⟩; have ho4 := own_below ho3 b4; have hb4 := below_trans hb3 b4; have st4 := st3.below b4) | (at_builtin; refine wpList_append_rds rfl _ _ 28 9 rfl w.heap.size 5 i0 Tryd.underlying28 Tryd.underlying9 hi0 hz0 hz1 hz2 _ Y3 rfl ho4 S rfl (by unfold maxLen; omega) (by omega) hb4.size ?_; intro v5 w5 ho5 hg5))
              have hb5 := below_grown hb4 hg5 (fun k hk => (World.ownsRow.lt ho4 k hk).1)
              have st5 := st4.grown hg5 (stands_apart st4 ho4 (by decide))
              obtain ⟨Y5, hY5⟩ : ∃ Y5, Y3 ++ LB S = Y5 := ⟨_, rfl⟩
              have hY5l : (Y5.length : Int) = Y3.length + S.size := by rw [← hY5, List.length_append]; simp [LB_len]
              rw [hY5] at ho5
              have z5 := st5.cell 2 _ rfl
              go_wp2_with fail
              have hR : Hid (Y5 = shpT (xs.take (j + 1))) := by show _ = _; rw [hF, ← hY5, ← hY3, ← hY2, ← hY1]; simp
              go_roundw
              case rel => exact ⟨j + 1, Y5, by omega, by go_num, hR, ho5, hb5⟩
              case measure => simp [intOf]; omega
            · rw [if_neg (fun g => by have := hA0.1 g; omega)] at hF
              have q1 : (ar.toList == []) = false := by rw [Bool.eq_false_iff]; intro g; rw [beq_iff_eq, ByteArray.toList_eq] at g; have h9 := congrArg List.length g; rw [List.length_nil] at h9; have e9 : ar.data.toList.length = ar.size := (by simp); omega
              have q2 : (ar.toList != []) = true := by simp [bne, q1]
              have q3 : ar.toList.isEmpty = false := by rw [← q1]; cases ar.toList <;> rfl
              clear hA0 hue
              go_upto_region 12 with (fail)
              obtain ⟨w0, hw0⟩ : ∃ w0, wr.alloc (.cells #[.string nm, .slice ao n cap, .string ar] 78) = w0 := ⟨_, rfl⟩
              rw [hw0] at st0 ho0 hb0 ⊢
              clear hw0
              have ho0x := World.ownsRow.alloc ho0 (.cells #[.int .u8 47] 5)
              have hb0x := hb0.alloc hb0.size (.cells #[.int .u8 47] 5)
              have st0x := st0.below (box_below _ (.cells #[.int .u8 47] 5))
              go_upto_region 13 with (at_builtin; refine wpList_append_rd (k := .u8) rfl _ _ 28 rfl w.heap.size 5 i0 1 Tryd.underlying28 hi0 hz0 hz1 hz2 _ ys rfl ho0x _ [47] rfl (rd_one _ 47 5) (by unfold maxLen; simp only [List.length_cons, List.length_nil]; omega) (by simp only [List.length_cons, List.length_nil]; omega) hb0x.size ?_; intro v1 w1 ho1 hg1)
              have hb1 := below_grown hb0x hg1 (fun k hk => (World.ownsRow.lt ho0x k hk).1)
              have st1 := st0x.grown hg1 (stands_apart st0x ho0x (by decide))
              obtain ⟨Y1, hY1⟩ : ∃ Y1, ys ++ [47] = Y1 := ⟨_, rfl⟩
              have hY1l : (Y1.length : Int) = ys.length + 1 := by rw [← hY1, List.length_append]; simp [LB_len]
              rw [hY1] at ho1
              have z0 := st1.cell 0 _ rfl
              go_upto_region 14 with ((at_builtin; refine wpList_append_rds rfl _ _ 28 9 rfl w.heap.size 5 i0 Tryd.underlying28 Tryd.underlying9 hi0 hz0 hz1 hz2 _ Y1 rfl ho1 nm rfl (by unfold maxLen; omega) (by omega) hb1.size ?_; intro v2 w2 ho2 hg2))
              have hb2 := below_grown hb1 hg2 (fun k hk => (World.ownsRow.lt ho1 k hk).1)
              have st2 := st1.grown hg2 (stands_apart st1 ho1 (by decide))
              obtain ⟨Y2, hY2⟩ : ∃ Y2, Y1 ++ LB nm = Y2 := ⟨_, rfl⟩
              have hY2l : (Y2.length : Int) = Y1.length + nm.size := by rw [← hY2, List.length_append]; simp [LB_len]
              rw [hY2] at ho2
              have z1 := st2.cell 1 _ rfl
              have z2 := st2.cell 2 _ rfl
              go_upto_region 15 with (fail)
              have ho2x := World.ownsRow.alloc ho2 (.cells #[.int .u8 64] 5)
              have hb2x := hb2.alloc hb2.size (.cells #[.int .u8 64] 5)
              have st2x := st2.below (box_below _ (.cells #[.int .u8 64] 5))
              go_upto_region 16 with (at_builtin; refine wpList_append_rd (k := .u8) rfl _ _ 28 rfl w.heap.size 5 i0 1 Tryd.underlying28 hi0 hz0 hz1 hz2 _ Y2 rfl ho2x _ [64] rfl (rd_one _ 64 5) (by unfold maxLen; simp only [List.length_cons, List.length_nil]; omega) (by simp only [List.length_cons, List.length_nil]; omega) hb2x.size ?_; intro v3 w3 ho3 hg3)
              have hb3 := below_grown hb2x hg3 (fun k hk => (World.ownsRow.lt ho2x k hk).1)
              have st3 := st2x.grown hg3 (stands_apart st2x ho2x (by decide))
              obtain ⟨Y3, hY3⟩ : ∃ Y3, Y2 ++ [64] = Y3 := ⟨_, rfl⟩
              have hY3l : (Y3.length : Int) = Y2.length + 1 := by rw [← hY3, List.length_append]; simp [LB_len]
              rw [hY3] at ho3
              have z3 := st3.cell 1 _ rfl
              go_upto_region 17 with (first | (go_at_call 77; refine (cu _ (hU.below hb3)).mono ?_; rintro e w4 ⟨rfl, b4⟩; have ho4 := own_below ho3 b4; have hb4 := below_trans hb3 b4; have st4 := st3.below b4) | (at_builtin; refine wpList_append_rds rfl _ _ 28 9 rfl w.heap.size 5 i0 Tryd.underlying28 Tryd.underlying9 hi0 hz0 hz1 hz2 _ Y3 rfl ho4 S rfl (by unfold maxLen; omega) (by omega) hb4.size ?_; intro v5 w5 ho5 hg5))
              have hb5 := below_grown hb4 hg5 (fun k hk => (World.ownsRow.lt ho4 k hk).1)
              have st5 := st4.grown hg5 (stands_apart st4 ho4 (by decide))
              obtain ⟨Y5, hY5⟩ : ∃ Y5, Y3 ++ LB S = Y5 := ⟨_, rfl⟩
              have hY5l : (Y5.length : Int) = Y3.length + S.size := by rw [← hY5, List.length_append]; simp [LB_len]
              rw [hY5] at ho5
              have z5 := st5.cell 2 _ rfl
              go_upto_region 18 with (fail)
              have ho5x := World.ownsRow.alloc ho5 (.cells #[.int .u8 58] 5)
              have hb5x := hb5.alloc hb5.size (.cells #[.int .u8 58] 5)
              have st5x := st5.below (box_below _ (.cells #[.int .u8 58] 5))
              go_upto_region 19 with (at_builtin; refine wpList_append_rd (k := .u8) rfl _ _ 28 rfl w.heap.size 5 i0 1 Tryd.underlying28 hi0 hz0 hz1 hz2 _ Y5 rfl ho5x _ [58] rfl (rd_one _ 58 5) (by unfold maxLen; simp only [List.length_cons, List.length_nil]; omega) (by simp only [List.length_cons, List.length_nil]; omega) hb5x.size ?_; intro v6 w6 ho6 hg6)
              have hb6 := below_grown hb5x hg6 (fun k hk => (World.ownsRow.lt ho5x k hk).1)
              have st6 := st5x.grown hg6 (stands_apart st5x ho5x (by decide))
              obtain ⟨Y7, hY7⟩ : ∃ Y7, Y5 ++ [58] = Y7 := ⟨_, rfl⟩
              have hY7l : (Y7.length : Int) = Y5.length + 1 := by rw [← hY7, List.length_append]; simp [LB_len]
              rw [hY7] at ho6
              have z7 := st6.cell 2 _ rfl
              go_wp2_with ((at_builtin; refine wpList_append_rds rfl _ _ 28 9 rfl w.heap.size 5 i0 Tryd.underlying28 Tryd.underlying9 hi0 hz0 hz1 hz2 _ Y7 rfl ho6 ar rfl (by unfold maxLen; omega) (by omega) hb6.size ?_; intro v7 w7 ho7 hg7))
              have hb7 := below_grown hb6 hg7 (fun k hk => (World.ownsRow.lt ho6 k hk).1)
              have hR : Hid (Y7 ++ LB ar = shpT (xs.take (j + 1))) := by show _ = _; rw [hF, ← hY7, ← hY5, ← hY3, ← hY2, ← hY1]; simp
              go_roundw
              case rel => exact ⟨j + 1, Y7 ++ LB ar, by omega, by go_num, hR, ho7, hb7⟩
              case measure => simp [intOf]; omega
        · have hfin : Hid (ys = shpT xs) := by
            show _ = _
            rw [hys.out, List.take_of_length_le (by omega)]
          have hlo := rd_len (Rd_own ho).1 uB (P := Tryd.prog)
          have cs := rd_strT (Rd_own ho).1
          rcases Nat.eq_zero_or_pos xs.length with hx0 | hx0
          · have e : Hid (shpF xs = ([47], 0)) := by
              show _ = _
              have : xs = [] := List.eq_nil_of_length_eq_zero hx0
              rw [this]
              rfl
            have hxb : ((xs.length : Int) == 0) = true := by simp; exact List.eq_nil_of_length_eq_zero hx0
            have es : strOfNums [47] = ⟨#[47]⟩ := by decide +kernel
            clear hx0
            go_wp2_with fail
            go_ret2
            obtain ⟨rfl, rfl⟩ := Prod.mk.inj (HAE.out.symm.trans e.out)
            rw [es]
            exact ⟨rfl, hb⟩
          · have hxb : ((xs.length : Int) == 0) = false := by rw [Bool.eq_false_iff]; intro g; rw [beq_iff_eq] at g; omega
            have hxe : ¬ xs = [] := by intro g; rw [g] at hx0; simp at hx0
            by_cases h256 : (256 : Int) < ys.length
            · have e : Hid (shpF xs = ([], 3)) := by
                show _ = _
                unfold shpF
                rw [if_neg (by rw [hok.out]; decide), if_neg hxe, if_pos (by rw [← hfin.out]; omega)]
              have es : strOfNums ([] : List Int) = ⟨#[]⟩ := by decide +kernel
              clear hx0 hxe
              go_wp2_with fail
              go_ret2
              obtain ⟨rfl, rfl⟩ := Prod.mk.inj (HAE.out.symm.trans e.out)
              rw [es]
              exact ⟨rfl, hb⟩
            · have e : Hid (shpF xs = (ys, 0)) := by
                show _ = _
                unfold shpF
                rw [if_neg (by rw [hok.out]; decide), if_neg hxe, if_neg (by rw [← hfin.out]; omega), hfin.out]
              clear hx0 hxe
              go_wp2_with fail
              go_ret2
              obtain ⟨rfl, rfl⟩ := Prod.mk.inj (HAE.out.symm.trans e.out)
              exact ⟨rfl, hb⟩

/-
  Children and Find of the document's answer for trees.
-/
theorem infoI : (Tryd.prog.info? 3).map (fun i => (i.zero, i.size, i.bytes)) = some (some (.int .i64 0), 1, 8) := by kernel_rfl
def OwnI (base : Nat) (w : World) (v : Value) (xs : List Int) : Prop := w.ownsRow base 3 1 v xs.length (xs.map (Value.int .i64))
def chiU (t : List Nd) (n : Int) (i : Nat) : List Int := ((List.range i).filter (fun i => decide (0 ≤ n ∧ (t.getD i ([], [], 0, [], [])).2.2.1 = n))).map (fun (i : Nat) => (i : Int))
theorem chi_len (t : List Nd) (n : Int) (i : Nat) : (chiU t n i).length ≤ i := by
  unfold chiU
  rw [List.length_map]
  exact Nat.le_trans (List.length_filter_le _ _) (by simp)
theorem chi_succ (t : List Nd) (n : Int) (i : Nat) : chiU t n (i + 1) = chiU t n i ++ if 0 ≤ n ∧ (t.getD i ([], [], 0, [], [])).2.2.1 = n then [(i : Int)] else [] := by
  unfold chiU
  rw [List.range_succ, List.filter_append, List.map_append, List.filter_cons, List.filter_nil]
  congr 1
  split
  · rename_i h
    rw [if_pos (by simpa using h)]
    rfl
  · rename_i h
    rw [if_neg (by simpa using h)]
    rfl

set_option maxHeartbeats 2000000 in
set_option maxRecDepth 100000 in
theorem w_r8children (v : Value) (t : List Nd) (n : Int) (w : World) (h : RdT w v t) (hz : t.length * 96 ≤ 140737488355328) :
    Calls Tryd.prog 30 #[v, .int .i64 n] w fun e w' => ∃ v1, e = .returned v1 ∧ Rd .i64 w' v1 (chiF t n) ∧ Below w.heap.size w w' := by
  have hla := slr_len h uN (P := Tryd.prog)
  obtain ⟨i0, hi0, hz0, hz1, hz2⟩ := info_parts infoI
  have hC : chiF t n = chiU t n t.length := rfl
  rw [hC]
  obtain ⟨R, hR⟩ : ∃ R, chiU t n t.length = R := ⟨_, rfl⟩
  rw [hR]
  have HR := hid hR
  clear hR hC
  go_enter Tryd.func30, Tryd.ntmps30
  go_wp2_with fail
  go_loopw [5, 6] (fun U I wx => ∃ (i : Nat) (ys : List Int), (i : Int) ≤ t.length ∧ I = .int .i64 i ∧ Hid (ys = chiU t n i) ∧ (ys.length : Int) ≤ i ∧ OwnI w.heap.size wx U ys ∧ Below w.heap.size w wx) (fun _ I _ => (t.length - intOf I).toNat)
  case atStart => exact ⟨0, [], by omega, rfl, hid rfl, by simp, World.ownsRow_nil _ _ _ _, Below.refl _ _⟩
  case round =>
    obtain ⟨i, ys, hi, rfl, hys, hyl, ho, hb⟩ := hrel
    by_cases hlt : (i : Int) < t.length
    · have hil : i < t.length := by omega
      obtain ⟨b1, o1, nm, u1, p1, c1, r1, f0, f1, f2, f3, f4, e1, hu1, hp1, hc1⟩ := nod_at (h.below hb) i hil
      have hs := chi_succ t n i
      have hg : (t.getD i ([], [], 0, [], [])).2.2.1 = t[i].2.2.1 := by rw [List.getD_eq_getElem?_getD, List.getElem?_eq_getElem hil]; rfl
      rw [hg] at hs
      obtain ⟨P, hP⟩ : ∃ P, t[i].2.2.1 = P := ⟨_, rfl⟩
      rw [hP] at f2 hs
      have skip : ¬ (0 ≤ n ∧ P = n) → Hid (ys = chiU t n (i + 1)) := fun g => by show _ = _; rw [hs, if_neg g, List.append_nil, hys.out]
      have take : (0 ≤ n ∧ P = n) → Hid (ys ++ [(i : Int)] = chiU t n (i + 1)) := fun g => by show _ = _; rw [hs, if_pos g, hys.out]
      clear hs hg hP e1 hu1 hp1 hc1
      by_cases h0 : 0 ≤ n
      · by_cases h1 : P = n
        · have hys2 := take ⟨h0, h1⟩
          have q : (P == n) = true := by simpa using h1
          clear skip take h1
          have ho3 := World.ownsRow.alloc ho (.cells #[.int .i64 (i : Int)] 3)
          have hb3 := hb.alloc hb.size (.cells #[.int .i64 (i : Int)] 3)
          go_wp2_with (at_builtin; refine wpList_append_rd (k := .i64) rfl _ _ 46 rfl w.heap.size 3 i0 8 Tryd.underlying46 hi0 hz0 hz1 hz2 _ ys rfl ho3 _ [(i : Int)] rfl (rd_one _ (i : Int) 3) (by unfold maxLen; simp only [List.length_cons, List.length_nil]; omega) (by simp only [List.length_cons, List.length_nil]; omega) hb3.size ?_; intro v4 w4 ho4 hg4)
          go_roundw
          case rel => exact ⟨i + 1, ys ++ [(i : Int)], by omega, by go_num, hys2, by simp; omega, ho4, below_grown hb3 hg4 (fun k hk => (World.ownsRow.lt ho k hk).1)⟩
          case measure => simp [intOf]; omega
        · have hys2 := skip (fun g => h1 g.2)
          have q : (P == n) = false := by simpa using h1
          clear skip take h1
          go_wp2_with fail
          go_roundw
          case rel => exact ⟨i + 1, ys, by omega, by go_num, hys2, by omega, ho, hb⟩
          case measure => simp [intOf]; omega
      · have hys2 := skip (fun g => h0 g.1)
        clear skip take
        go_wp2_with fail
        go_roundw
        case rel => exact ⟨i + 1, ys, by omega, by go_num, hys2, by omega, ho, hb⟩
        case measure => simp [intOf]; omega
    · have e : Hid (R = ys) := by show _ = _; rw [← HR.out, hys.out, show i = t.length by omega]
      go_wp2_with fail
      go_ret
      rw [e.out]
      exact ⟨_, rfl, (Rd_own ho).1, hb⟩

/-- the first device that such a step leads to, from k on -/
def ldG (t : List Nd) (p : Nd → Bool) (k : Nat) : Option Nat := ((t.drop k).findIdx? p).map (· + k)
theorem ldG_end (t : List Nd) (p : Nd → Bool) (k : Nat) (h : t.length ≤ k) : ldG t p k = none := by
  unfold ldG
  rw [List.drop_of_length_le h]
  rfl
theorem ldG_at (t : List Nd) (p : Nd → Bool) (k : Nat) (h : k < t.length) : ldG t p k = if p t[k] = true then some k else ldG t p (k + 1) := by
  unfold ldG
  rw [List.drop_eq_getElem_cons h, List.findIdx?_cons]
  split
  · simp
  · cases (t.drop (k + 1)).findIdx? p with
    | none => rfl
    | some j => simp; omega
theorem ldF_G {t : List Nd} (hf : frmT t = true) (a : Nat) (x : Sp) : ldF t a x = ldG t (matN a x.1 x.2.1) 1 := by
  obtain ⟨g0, g1, g2, g3⟩ := (frm_iff t).1 hf
  have e : ldF t a x = ldG t (matN a x.1 x.2.1) 0 := by
    unfold ldF ldG
    simp
  have hr : matN a x.1 x.2.1 t[0] = false := by
    unfold rootF at g2
    simp only [Bool.and_eq_true, decide_eq_true_eq] at g2
    unfold matN
    rw [g2.2.2, decide_eq_false (by omega)]
    rfl
  rw [e, ldG_at t _ 0 g0, if_neg (by rw [hr]; decide)]
theorem ldG_lt (t : List Nd) (p : Nd → Bool) (k j : Nat) (h : ldG t p k = some j) : j < t.length := by
  unfold ldG at h
  rw [Option.map_eq_some_iff] at h
  obtain ⟨m, h1, rfl⟩ := h
  rw [List.findIdx?_eq_some_iff_getElem] at h1
  obtain ⟨g, _⟩ := h1
  rw [List.length_drop] at g
  omega

end Go.Proofs.YtkdaimagdmbnfaaDoor
