/-
  Where a setting stands, a variable's value, whether a setting may be kept, Right and Get of the landed package vars.
-/
import Derived.Test.YtaiimfdcbdfbdaaDoorVa2
import Derived.Deep.RegionHeld
namespace Go.Proofs.YtaiimfdcbdfbdaaDoor
open Go.ChangeShapes Go.WideShapes Go.ChangeAt Go.RowKit
set_option linter.unusedVariables false
set_option linter.unusedSimpArgs false

/-- where a name's setting stands: -1, or its place -/
def AtS (l : List Stt) (nm : ByteArray) (i : Int) : Prop := (i = -1 ∧ vaV l nm = (vaD nm).1) ∨ ∃ k : Nat, i = k ∧ ∃ h : k < l.length, vaV l nm = l[k].2

set_option maxHeartbeats 1000000 in
set_option maxRecDepth 100000 in
theorem w_pinasked19 (nm A V : ByteArray) (B : Nat) (W : World) (hs : W.cell? ⟨B, 0, none⟩ = some (.string nm)) :
    Calls Tryd.prog 47 #[.agg #[.string A, .string V], .pointer (some ⟨B, 0, none⟩)] W fun e w' => e = .returned (.bool (decide (A = nm))) ∧ Below W.heap.size W w' := by
  have hq := str_beq A nm
  have bx := box_below W (.cells #[.string A, .string V] 46)
  have hs2 := below_cell bx hs
  have z0 := (stands_new W #[.string A, .string V] 46).cell 0 _ rfl
  go_enter Tryd.func47, Tryd.ntmps47
  go_wp2_with fail
  go_ret
  exact ⟨rfl, bx⟩

set_option maxHeartbeats 2000000 in
set_option maxRecDepth 100000 in
theorem w_pindex19 (v : Value) (l : List Stt) (nm : ByteArray) (B : Nat) (w : World) (h : SlR 2 stR w v l) (hs : w.cell? ⟨B, 0, none⟩ = some (.string nm)) :
    Calls Tryd.prog 46 #[v, .func (.func 47) #[] #[.pointer (some ⟨B, 0, none⟩)]] w fun e w' => ∃ i, e = .returned (.int .i64 i) ∧ AtS l nm i ∧ Below w.heap.size w w' := by
  have eg : ∀ args w, (callFunc 47 args).run Tryd.prog w = .ok (.enter 47 args) w := enters_of Tryd.func47 (by kernel_rfl) rfl
  have hlen := slr_len h uSt (P := Tryd.prog)
  have hmx := slr_max h
  unfold maxLen at hmx
  go_enter Tryd.func46, Tryd.ntmps46
  go_wp2_with fail
  go_loopw [8] (fun I wx => ∃ k : Nat, (k : Int) ≤ l.length ∧ I = .int .i64 k ∧ Hid (vaV l nm = vaV (l.drop k) nm) ∧ Below w.heap.size w wx) (fun I _ => (l.length - intOf I).toNat)
  case atStart => exact ⟨0, by omega, rfl, hid rfl, Below.refl _ _⟩
  case round =>
    obtain ⟨k, hk, rfl, hm, hg⟩ := hrel
    by_cases hlt : (k : Int) < l.length
    · have hkl : k < l.length := by omega
      obtain ⟨zb, zo, A, V, z1, z2, z3, z4, z5, z6⟩ := st_at (h.below hg stR_below) k hkl
      have hd : l.drop k = (A, V) :: l.drop (k + 1) := by rw [List.drop_eq_getElem_cons hkl, z4]
      have hm2 := hm.out
      rw [hd, vaV_cons] at hm2
      have cA := w_pinasked19 nm A V B wr (below_cell hg hs)
      by_cases he : A = nm
      · rw [decide_eq_true he] at cA
        rw [if_pos he] at hm2
        have hm3 : Hid (AtS l nm k) := Or.inr ⟨k, rfl, hkl, by rw [hm2, z4]⟩
        clear he hm hm2 hd z4
        go_wp2_with (go_at_fn 47; refine cA.mono ?_; rintro e w1 ⟨rfl, b1⟩)
        go_ret
        exact ⟨_, rfl, hm3.out, below_trans hg b1⟩
      · rw [decide_eq_false he] at cA
        rw [if_neg he] at hm2
        have hm3 := hid hm2
        clear he hm hm2 hd z4
        go_wp2_with (go_at_fn 47; refine cA.mono ?_; rintro e w1 ⟨rfl, b1⟩)
        go_roundw
        case rel => exact ⟨k + 1, by omega, by go_num, hm3, below_trans hg b1⟩
        case measure => simp [intOf]; omega
    · have hm2 := hm.out
      rw [List.drop_of_length_le (by omega)] at hm2
      have hm3 : Hid (AtS l nm (-1)) := Or.inl ⟨rfl, hm2⟩
      clear hm hm2
      go_wp2_with fail
      go_ret
      exact ⟨_, rfl, hm3.out, hg⟩

theorem vaD_at (k : Nat) (hk : k < 9) : (vaD (vaT k).1).1 = (vaT k).2.2 := by unfold vaD; rw [va_nm k hk, if_neg (by omega)]; rfl

set_option maxHeartbeats 2000000 in
set_option maxRecDepth 100000 in
theorem w_pin19 (k : Nat) (hk : k < 9) (v : Value) (l : List Stt) (w : World) (h : SlR 2 stR w v l) (hz : ∀ p ∈ l, p.2.size ≤ 281474976710656) :
    Calls Tryd.prog 35 #[.agg #[.string (vaT k).1, .int .i64 (kdF k), .string (vaT k).2.2], v] w fun e w' => e = .returned (.string (vaV l (vaT k).1)) ∧ Below w.heap.size w w' := by
  have hD := vaD_at k hk
  obtain ⟨X, hX⟩ : ∃ X, (vaT k).1 = X := ⟨_, rfl⟩
  obtain ⟨Y, hY⟩ : ∃ Y, (vaT k).2.2 = Y := ⟨_, rfl⟩
  obtain ⟨K, hK⟩ : ∃ K, kdF k = K := ⟨_, rfl⟩
  rw [hX, hY] at hD
  rw [hX, hY, hK]
  clear hX hY hK hk
  have bx := box_below w (.cells #[.string X, .int .i64 K, .string Y] 51)
  have z0 := box_cell w #[.string X, .int .i64 K, .string Y] 51 0 _ rfl
  have z2 := box_cell w #[.string X, .int .i64 K, .string Y] 51 2 _ rfl
  have cI := w_pindex19 v l X _ _ (h.below bx stR_below) z0
  go_enter Tryd.func35, Tryd.ntmps35
  go_wp2_with (go_at_call 46; refine cI.mono ?_; rintro e w1 ⟨i, rfl, hi, b1⟩; refine Hid.out ?_)
  rcases hi with ⟨rfl, h2⟩ | ⟨j, rfl, h2, h3⟩
  · refine hid ?_
    have y2 := below_cell b1 z2
    have hR : Hid (vaV l X = Y) := h2.trans hD
    clear h2 hD cI
    go_wp2_with fail
    go_ret
    exact ⟨congrArg (fun s => Ending.returned (Value.string s)) hR.out.symm, below_trans bx b1⟩
  · refine hid ?_
    have hg := below_trans bx b1
    obtain ⟨zb, zo, A, V, y1, y2, y3, y4, y5, y6⟩ := st_at (h.below hg stR_below) j h2
    rw [y4] at h3
    have hV : V.size ≤ 281474976710656 := by have := hz l[j] (List.getElem_mem h2); rw [y4] at this; exact this
    have cC := fun w => w_clone V w hV
    have hR : Hid (vaV l X = V) := h3
    clear h3 y4 hD cI hz hV
    go_wp2_with (go_at_call 44; refine (cC _).mono ?_; rintro e w2 ⟨rfl, b2⟩)
    go_ret
    exact ⟨congrArg (fun s => Ending.returned (Value.string s)) hR.out.symm, below_trans hg b2⟩

/-- may the setting of variable k have this value? -/
def kpF (k : Nat) (v : ByteArray) : Bool := decide (vaO k v = some v) && decide (¬ v = (vaT k).2.2)
theorem vf_none {k : Nat} {v : ByteArray} (h : vaO k v = none) : vfF k v = (⟨#[]⟩, 27) := by unfold vfF; rw [h]
theorem vf_some {k : Nat} {v s : ByteArray} (h : vaO k v = some s) : vfF k v = (s, 0) := by unfold vfF; rw [h]

set_option maxHeartbeats 2000000 in
set_option maxRecDepth 100000 in
theorem w_pkeeps19 (k : Nat) (hk : k < 9) (X v : ByteArray) (w : World) (hv : v.size ≤ maxLen) :
    Calls Tryd.prog 48 #[.agg #[.string X, .int .i64 (kdF k), .string (vaT k).2.2], .string v] w fun e w' => e = .returned (.bool (kpF k v)) ∧ Below w.heap.size w w' := by
  have cV := fun Y w => w_pvform19 k hk X Y v w hv
  unfold kpF
  obtain ⟨Y, hY⟩ : ∃ Y, (vaT k).2.2 = Y := ⟨_, rfl⟩
  obtain ⟨K, hK⟩ : ∃ K, kdF k = K := ⟨_, rfl⟩
  rw [hY, hK]
  rw [hK] at cV
  have bx := box_below w (.cells #[.string X, .int .i64 K, .string Y] 51)
  have z0 := box_cell w #[.string X, .int .i64 K, .string Y] 51 0 _ rfl
  have z1 := box_cell w #[.string X, .int .i64 K, .string Y] 51 1 _ rfl
  have z2 := box_cell w #[.string X, .int .i64 K, .string Y] 51 2 _ rfl
  cases ho : vaO k v with
  | none =>
    rw [vf_none ho] at cV
    rw [decide_eq_false (by simp), Bool.false_and]
    clear ho hY hK hk
    go_enter Tryd.func48, Tryd.ntmps48
    go_wp2_with (go_at_call 30; refine (cV _ _).mono ?_; rintro e w1 ⟨rfl, b1⟩)
    go_ret
    exact ⟨rfl, below_trans bx b1⟩
  | some s =>
    rw [vf_some ho] at cV
    by_cases hsv : s = v
    · subst hsv
      rw [decide_eq_true rfl, Bool.true_and]
      have hq := str_beq s Y
      have hq0 := str_beq s s
      rw [decide_eq_true rfl] at hq0
      clear ho hY hK hk
      by_cases hd : s = Y
      · rw [decide_eq_true hd] at hq
        rw [decide_eq_false (fun z => z hd)]
        clear hd
        go_enter Tryd.func48, Tryd.ntmps48
        go_wp2_with (go_at_call 30; refine (cV _ _).mono ?_; rintro e w1 ⟨rfl, b1⟩; have y2 := below_cell b1 z2)
        go_ret
        exact ⟨rfl, below_trans bx b1⟩
      · rw [decide_eq_false hd] at hq
        rw [decide_eq_true hd]
        clear hd
        go_enter Tryd.func48, Tryd.ntmps48
        go_wp2_with (go_at_call 30; refine (cV _ _).mono ?_; rintro e w1 ⟨rfl, b1⟩; have y2 := below_cell b1 z2)
        go_ret
        exact ⟨rfl, below_trans bx b1⟩
    · rw [decide_eq_false (fun z => hsv (by simpa using z)), Bool.false_and]
      have hq := str_beq s v
      rw [decide_eq_false hsv] at hq
      clear ho hY hK hk hsv
      go_enter Tryd.func48, Tryd.ntmps48
      go_wp2_with (go_at_call 30; refine (cV _ _).mono ?_; rintro e w1 ⟨rfl, b1⟩)
      go_ret
      exact ⟨rfl, below_trans bx b1⟩

/-- may a setting stand behind the variable at the place last? -/
def fwF (last : Int) (A V : ByteArray) : Bool := decide (last < vaF A) && kpF (vaF A).toNat V

set_option maxHeartbeats 2000000 in
set_option maxRecDepth 100000 in
theorem w_pfollow19 (last : Int) (A V : ByteArray) (w : World) (hT : Tab w) (h0 : -1 ≤ last) (h9 : last < 9) (hv : V.size ≤ maxLen) :
    Calls Tryd.prog 37 #[.int .i64 last, .agg #[.string A, .string V]] w fun e w' => e = .returned (.tuple #[.int .i64 (cond (fwF last A V) (vaF A) (-1)), .bool (fwF last A V)]) ∧ Below w.heap.size w w' := by
  have hb := va_lt A
  have bx := box_below w (.cells #[.string A, .string V] 46)
  have z0 := box_cell w #[.string A, .string V] 46 0 _ rfl
  have z1 := box_cell w #[.string A, .string V] 46 1 _ rfl
  have cF := w_pplaceOf19 A _ (hT.below bx)
  unfold fwF
  by_cases hlast : last < vaF A
  · rw [decide_eq_true hlast, Bool.true_and]
    obtain ⟨h1, h2⟩ := va_found (show 0 ≤ vaF A by omega)
    obtain ⟨k, hk⟩ : ∃ k : Nat, vaF A = k := ⟨(vaF A).toNat, by omega⟩
    rw [hk] at hlast cF h1 ⊢
    simp only [Int.toNat_natCast] at h1 ⊢
    have hk0 : (0 : Int) ≤ k := by omega
    have hk9 : (k : Int) < 9 := by omega
    have hdl : decide ((k : Int) ≤ last) = false := by simp; omega
    have cK := fun w => w_pkeeps19 k h1 (vaT k).1 V w hv
    have hTT := fun w hT => tab_at (w := w) hT k h1
    obtain ⟨X, hX⟩ : ∃ X, (vaT k).1 = X := ⟨_, rfl⟩
    obtain ⟨Y, hY⟩ : ∃ Y, (vaT k).2.2 = Y := ⟨_, rfl⟩
    obtain ⟨K, hK⟩ : ∃ K, kdF k = K := ⟨_, rfl⟩
    obtain ⟨G, hG⟩ : ∃ G, kpF k V = G := ⟨_, rfl⟩
    rw [hX, hY, hK] at cK hTT
    rw [hG] at cK ⊢
    clear hX hY hK hG hk h2 hlast
    cases G
    · have CK := hid cK
      clear cK
      go_enter Tryd.func37, Tryd.ntmps37
      go_upto_region 2 with (first | (go_at_call 29; refine cF.mono ?_; rintro e w1 ⟨rfl, b1⟩; have b01 := below_trans bx b1; have HS : Hid (∀ W, Below w1.heap.size w1 W → (W.cell? ⟨0, k * 3, none⟩ = some (.string X) ∧ W.cell? ⟨0, k * 3 + 1, none⟩ = some (.int .i64 K) ∧ W.cell? ⟨0, k * 3 + 2, none⟩ = some (.string Y) ∧ W.cell? ⟨w.heap.size, 1, none⟩ = some (.string V))) := (fun W g => by obtain ⟨t1, t2, t3⟩ := hTT W ((hT.below b01).below g); exact ⟨t1, t2, t3, below_cell g (below_cell b1 z1)⟩); have hrd : Hid (Below w1.heap.size w1 w1.drew) := below_drewN (Below.refl _ _) 1) | fail)
      refine wp_region_held_drew (S := fun W => W.cell? ⟨0, k * 3, none⟩ = some (.string X) ∧ W.cell? ⟨0, k * 3 + 1, none⟩ = some (.int .i64 K) ∧ W.cell? ⟨0, k * 3 + 2, none⟩ = some (.string Y) ∧ W.cell? ⟨w.heap.size, 1, none⟩ = some (.string V)) (by kernel_rfl) (HS.out _ hrd.out) (fun hHeld => ?_)
      refine wpAnyH_take (i := 0) (v := ?v1) rfl (by kernel_rfl) (by kernel_rfl) (by kernel_rfl) (fun _ _ _ h => h) (Or.inl ⟨by kernel_rfl, ?h1⟩) hHeld ?r1
      case h1 => intro W hSw; (try dsimp only at hSw); obtain ⟨t1, t2, t3, t4⟩ := hSw; go_simp; try with_reducible rfl
      simp only [Act.put, List.setIfInBounds_toArray, List.set_cons_zero, List.set_cons_succ]
      refine wpAnyH_take (i := 1) (v := ?v2) rfl (by kernel_rfl) (by kernel_rfl) (by kernel_rfl) (fun _ _ _ h => h) (Or.inl ⟨by kernel_rfl, ?h2⟩) hHeld ?r2
      case h2 => intro W hSw; (try dsimp only at hSw); obtain ⟨t1, t2, t3, t4⟩ := hSw; go_simp; try with_reducible rfl
      simp only [Act.put, List.setIfInBounds_toArray, List.set_cons_zero, List.set_cons_succ]
      refine wpAnyH_take (i := 2) (v := ?v3) rfl (by kernel_rfl) (by kernel_rfl) (by kernel_rfl) (fun _ _ _ h => h) (Or.inl ⟨by kernel_rfl, ?h3⟩) hHeld ?r3
      case h3 => intro W hSw; (try dsimp only at hSw); obtain ⟨t1, t2, t3, t4⟩ := hSw; go_simp; try with_reducible rfl
      simp only [Act.put, List.setIfInBounds_toArray, List.set_cons_zero, List.set_cons_succ]
      refine wpAnyH_take (i := 3) (v := ?v4) rfl (by kernel_rfl) (by kernel_rfl) (by kernel_rfl) (fun _ _ _ h => h) (Or.inl ⟨by kernel_rfl, ?h4⟩) hHeld ?r4
      case h4 => intro W hSw; (try dsimp only at hSw); obtain ⟨t1, t2, t3, t4⟩ := hSw; go_simp; try with_reducible rfl
      simp only [Act.put, List.setIfInBounds_toArray, List.set_cons_zero, List.set_cons_succ]
      refine wpAnyH_take (i := 4) (v := ?v5) rfl (by kernel_rfl) (by kernel_rfl) (by kernel_rfl) (fun _ _ _ h => h) (Or.inl ⟨by kernel_rfl, ?h5⟩) hHeld ?r5
      case h5 => intro W hSw; (try dsimp only at hSw); obtain ⟨t1, t2, t3, t4⟩ := hSw; go_simp; try with_reducible rfl
      simp only [Act.put, List.setIfInBounds_toArray, List.set_cons_zero, List.set_cons_succ]
      refine wpAnyH_take (i := 5) (v := ?v6) rfl (by kernel_rfl) (by kernel_rfl) (by kernel_rfl) (fun _ _ _ h => h) (Or.inl ⟨by kernel_rfl, ?h6⟩) hHeld ?r6
      case h6 => intro W hSw; (try dsimp only at hSw); obtain ⟨t1, t2, t3, t4⟩ := hSw; go_simp; try with_reducible rfl
      simp only [Act.put, List.setIfInBounds_toArray, List.set_cons_zero, List.set_cons_succ]
      refine wpAnyH_take (i := 6) (v := ?v7) rfl (by kernel_rfl) (by kernel_rfl) (by kernel_rfl) (fun _ _ _ h => h) (Or.inl ⟨by kernel_rfl, ?h7⟩) hHeld ?r7
      case h7 => intro W hSw; (try dsimp only at hSw); obtain ⟨t1, t2, t3, t4⟩ := hSw; go_simp; try with_reducible rfl
      simp only [Act.put, List.setIfInBounds_toArray, List.set_cons_zero, List.set_cons_succ]
      refine wpAnyH_take (i := 7) (v := ?v8) rfl (by kernel_rfl) (by kernel_rfl) (by kernel_rfl) (fun _ _ _ h => h) (Or.inl ⟨by kernel_rfl, ?h8⟩) hHeld ?r8
      case h8 => intro W hSw; (try dsimp only at hSw); obtain ⟨t1, t2, t3, t4⟩ := hSw; go_simp; try with_reducible rfl
      simp only [Act.put, List.setIfInBounds_toArray, List.set_cons_zero, List.set_cons_succ]
      refine wpAnyH_take (i := 8) (v := ?v9) rfl (by kernel_rfl) (by kernel_rfl) (by kernel_rfl) (fun _ _ _ h => h) (Or.inl ⟨by kernel_rfl, ?h9⟩) hHeld ?r9
      case h9 => intro W hSw; (try dsimp only at hSw); obtain ⟨t1, t2, t3, t4⟩ := hSw; go_simp; try with_reducible rfl
      simp only [Act.put, List.setIfInBounds_toArray, List.set_cons_zero, List.set_cons_succ]
      refine wpAnyH_ready (rs := [9]) (by kernel_rfl) (by simp) ?_
      refine AllReadyH.cons rfl (fun K hK => ?_) AllReadyH.nil
      go_simp
      go_wp2_with (first | (go_at_call 48; refine (CK.out _).mono ?_; rintro e w9 ⟨rfl, b9⟩; have R9 : Hid (Below w1.heap.size w1 w9) := below_trans hrd.out b9))
      refine hK.out _ _ (HS.out _ R9.out) (fun hHeld => ?_)
      clear hK K
      (try simp only [Act.put, List.setIfInBounds_toArray, List.set_cons_zero, List.set_cons_succ])
      refine wpAnyH_take (i := 10) (v := ?v10) rfl (by kernel_rfl) (by kernel_rfl) (by kernel_rfl) (fun _ _ _ h => h) (Or.inl ⟨by kernel_rfl, ?h10⟩) hHeld ?r10
      case h10 => intro W hSw; (try dsimp only at hSw); obtain ⟨t1, t2, t3, t4⟩ := hSw; go_simp; try with_reducible rfl
      simp only [Act.put, List.setIfInBounds_toArray, List.set_cons_zero, List.set_cons_succ]
      refine wpAnyH_take (i := 11) (v := ?v11) rfl (by kernel_rfl) (by kernel_rfl) (by kernel_rfl) (fun _ _ _ h => h) (Or.inl ⟨by kernel_rfl, ?h11⟩) hHeld ?r11
      case h11 => intro W hSw; (try dsimp only at hSw); obtain ⟨t1, t2, t3, t4⟩ := hSw; go_simp; try with_reducible rfl
      simp only [Act.put, List.setIfInBounds_toArray, List.set_cons_zero, List.set_cons_succ]
      refine wpAnyH_done (by kernel_rfl) ?_ _
      go_wp2_with fail
      go_ret2
      exact ⟨rfl, below_trans b01 R9.out⟩
    · have CK := hid cK
      clear cK
      go_enter Tryd.func37, Tryd.ntmps37
      go_upto_region 2 with (first | (go_at_call 29; refine cF.mono ?_; rintro e w1 ⟨rfl, b1⟩; have b01 := below_trans bx b1; have HS : Hid (∀ W, Below w1.heap.size w1 W → (W.cell? ⟨0, k * 3, none⟩ = some (.string X) ∧ W.cell? ⟨0, k * 3 + 1, none⟩ = some (.int .i64 K) ∧ W.cell? ⟨0, k * 3 + 2, none⟩ = some (.string Y) ∧ W.cell? ⟨w.heap.size, 1, none⟩ = some (.string V))) := (fun W g => by obtain ⟨t1, t2, t3⟩ := hTT W ((hT.below b01).below g); exact ⟨t1, t2, t3, below_cell g (below_cell b1 z1)⟩); have hrd : Hid (Below w1.heap.size w1 w1.drew) := below_drewN (Below.refl _ _) 1) | fail)
      refine wp_region_held_drew (S := fun W => W.cell? ⟨0, k * 3, none⟩ = some (.string X) ∧ W.cell? ⟨0, k * 3 + 1, none⟩ = some (.int .i64 K) ∧ W.cell? ⟨0, k * 3 + 2, none⟩ = some (.string Y) ∧ W.cell? ⟨w.heap.size, 1, none⟩ = some (.string V)) (by kernel_rfl) (HS.out _ hrd.out) (fun hHeld => ?_)
      refine wpAnyH_take (i := 0) (v := ?v12) rfl (by kernel_rfl) (by kernel_rfl) (by kernel_rfl) (fun _ _ _ h => h) (Or.inl ⟨by kernel_rfl, ?h12⟩) hHeld ?r12
      case h12 => intro W hSw; (try dsimp only at hSw); obtain ⟨t1, t2, t3, t4⟩ := hSw; go_simp; try with_reducible rfl
      simp only [Act.put, List.setIfInBounds_toArray, List.set_cons_zero, List.set_cons_succ]
      refine wpAnyH_take (i := 1) (v := ?v13) rfl (by kernel_rfl) (by kernel_rfl) (by kernel_rfl) (fun _ _ _ h => h) (Or.inl ⟨by kernel_rfl, ?h13⟩) hHeld ?r13
      case h13 => intro W hSw; (try dsimp only at hSw); obtain ⟨t1, t2, t3, t4⟩ := hSw; go_simp; try with_reducible rfl
      simp only [Act.put, List.setIfInBounds_toArray, List.set_cons_zero, List.set_cons_succ]
      refine wpAnyH_take (i := 2) (v := ?v14) rfl (by kernel_rfl) (by kernel_rfl) (by kernel_rfl) (fun _ _ _ h => h) (Or.inl ⟨by kernel_rfl, ?h14⟩) hHeld ?r14
      case h14 => intro W hSw; (try dsimp only at hSw); obtain ⟨t1, t2, t3, t4⟩ := hSw; go_simp; try with_reducible rfl
      simp only [Act.put, List.setIfInBounds_toArray, List.set_cons_zero, List.set_cons_succ]
      refine wpAnyH_take (i := 3) (v := ?v15) rfl (by kernel_rfl) (by kernel_rfl) (by kernel_rfl) (fun _ _ _ h => h) (Or.inl ⟨by kernel_rfl, ?h15⟩) hHeld ?r15
      case h15 => intro W hSw; (try dsimp only at hSw); obtain ⟨t1, t2, t3, t4⟩ := hSw; go_simp; try with_reducible rfl
      simp only [Act.put, List.setIfInBounds_toArray, List.set_cons_zero, List.set_cons_succ]
      refine wpAnyH_take (i := 4) (v := ?v16) rfl (by kernel_rfl) (by kernel_rfl) (by kernel_rfl) (fun _ _ _ h => h) (Or.inl ⟨by kernel_rfl, ?h16⟩) hHeld ?r16
      case h16 => intro W hSw; (try dsimp only at hSw); obtain ⟨t1, t2, t3, t4⟩ := hSw; go_simp; try with_reducible rfl
      simp only [Act.put, List.setIfInBounds_toArray, List.set_cons_zero, List.set_cons_succ]
      refine wpAnyH_take (i := 5) (v := ?v17) rfl (by kernel_rfl) (by kernel_rfl) (by kernel_rfl) (fun _ _ _ h => h) (Or.inl ⟨by kernel_rfl, ?h17⟩) hHeld ?r17
      case h17 => intro W hSw; (try dsimp only at hSw); obtain ⟨t1, t2, t3, t4⟩ := hSw; go_simp; try with_reducible rfl
      simp only [Act.put, List.setIfInBounds_toArray, List.set_cons_zero, List.set_cons_succ]
      refine wpAnyH_take (i := 6) (v := ?v18) rfl (by kernel_rfl) (by kernel_rfl) (by kernel_rfl) (fun _ _ _ h => h) (Or.inl ⟨by kernel_rfl, ?h18⟩) hHeld ?r18
      case h18 => intro W hSw; (try dsimp only at hSw); obtain ⟨t1, t2, t3, t4⟩ := hSw; go_simp; try with_reducible rfl
      simp only [Act.put, List.setIfInBounds_toArray, List.set_cons_zero, List.set_cons_succ]
      refine wpAnyH_take (i := 7) (v := ?v19) rfl (by kernel_rfl) (by kernel_rfl) (by kernel_rfl) (fun _ _ _ h => h) (Or.inl ⟨by kernel_rfl, ?h19⟩) hHeld ?r19
      case h19 => intro W hSw; (try dsimp only at hSw); obtain ⟨t1, t2, t3, t4⟩ := hSw; go_simp; try with_reducible rfl
      simp only [Act.put, List.setIfInBounds_toArray, List.set_cons_zero, List.set_cons_succ]
      refine wpAnyH_take (i := 8) (v := ?v20) rfl (by kernel_rfl) (by kernel_rfl) (by kernel_rfl) (fun _ _ _ h => h) (Or.inl ⟨by kernel_rfl, ?h20⟩) hHeld ?r20
      case h20 => intro W hSw; (try dsimp only at hSw); obtain ⟨t1, t2, t3, t4⟩ := hSw; go_simp; try with_reducible rfl
      simp only [Act.put, List.setIfInBounds_toArray, List.set_cons_zero, List.set_cons_succ]
      refine wpAnyH_ready (rs := [9]) (by kernel_rfl) (by simp) ?_
      refine AllReadyH.cons rfl (fun K hK => ?_) AllReadyH.nil
      go_simp
      go_wp2_with (first | (go_at_call 48; refine (CK.out _).mono ?_; rintro e w9 ⟨rfl, b9⟩; have R9 : Hid (Below w1.heap.size w1 w9) := below_trans hrd.out b9))
      refine hK.out _ _ (HS.out _ R9.out) (fun hHeld => ?_)
      clear hK K
      (try simp only [Act.put, List.setIfInBounds_toArray, List.set_cons_zero, List.set_cons_succ])
      refine wpAnyH_take (i := 10) (v := ?v21) rfl (by kernel_rfl) (by kernel_rfl) (by kernel_rfl) (fun _ _ _ h => h) (Or.inl ⟨by kernel_rfl, ?h21⟩) hHeld ?r21
      case h21 => intro W hSw; (try dsimp only at hSw); obtain ⟨t1, t2, t3, t4⟩ := hSw; go_simp; try with_reducible rfl
      simp only [Act.put, List.setIfInBounds_toArray, List.set_cons_zero, List.set_cons_succ]
      refine wpAnyH_take (i := 11) (v := ?v22) rfl (by kernel_rfl) (by kernel_rfl) (by kernel_rfl) (fun _ _ _ h => h) (Or.inl ⟨by kernel_rfl, ?h22⟩) hHeld ?r22
      case h22 => intro W hSw; (try dsimp only at hSw); obtain ⟨t1, t2, t3, t4⟩ := hSw; go_simp; try with_reducible rfl
      simp only [Act.put, List.setIfInBounds_toArray, List.set_cons_zero, List.set_cons_succ]
      refine wpAnyH_done (by kernel_rfl) ?_ _
      go_wp2_with fail
      go_ret2
      exact ⟨rfl, below_trans b01 R9.out⟩
  · rw [decide_eq_false hlast, Bool.false_and]
    obtain ⟨K, hK⟩ : ∃ K, vaF A = K := ⟨_, rfl⟩
    rw [hK] at cF hlast hb
    have hdl : decide (K ≤ last) = true := by simp; omega
    clear hK hlast
    go_enter Tryd.func37, Tryd.ntmps37
    go_upto_region 2 with (first | (go_at_call 29; refine cF.mono ?_; rintro e w1 ⟨rfl, b1⟩; have b01 := below_trans bx b1) | fail)
    go_quiet (fail)
    go_wp2_with fail
    go_ret2
    exact ⟨rfl, below_drewN b01 _⟩
end Go.Proofs.YtaiimfdcbdfbdaaDoor
