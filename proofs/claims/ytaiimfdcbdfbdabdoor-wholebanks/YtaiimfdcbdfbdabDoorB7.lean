/-
  Texts of one proof, laid one behind the other: Va2.
-/
import Derived.Test.YtaiimfdcbdfbdabDoorB6
namespace Go.Proofs.YtaiimfdcbdfbdabDoor
open Go.ChangeShapes Go.WideShapes Go.ChangeAt Go.RowKit
set_option linter.unusedVariables false
set_option linter.unusedSimpArgs false

/-
  Default, the forms of values, Form of the landed package vars.
-/
set_option maxRecDepth 100000

set_option maxHeartbeats 1000000 in
set_option maxRecDepth 100000 in
theorem w_pdefault19 (nm : ByteArray) (w : World) (hT : Tab w) :
    Calls Tryd.prog 19 #[.string nm] w fun e w' => e = .returned (.tuple #[.string (vaD nm).1, .int .i64 (vaD nm).2]) ∧ Below w.heap.size w w' := by
  have cF := w_pplaceOf19 nm w hT
  have hb := va_lt nm
  unfold vaD
  by_cases h : vaF nm < 0
  · rw [if_pos h]
    have h1 : vaF nm = -1 := by omega
    rw [h1] at cF
    clear h h1 hb
    go_enter Tryd.func19, Tryd.ntmps19
    go_wp2_with (go_at_call 32; refine cF.mono ?_; rintro e w1 ⟨rfl, b1⟩)
    go_ret2
    exact ⟨rfl, b1⟩
  · rw [if_neg h]
    obtain ⟨h1, h2⟩ := va_found (show 0 ≤ vaF nm by omega)
    obtain ⟨k, hk⟩ : ∃ k : Nat, vaF nm = k := ⟨(vaF nm).toNat, by omega⟩
    rw [hk] at h cF h1 ⊢
    simp only [Int.toNat_natCast] at h1 ⊢
    have hk9 : (k : Int) < 9 := by omega
    go_enter Tryd.func19, Tryd.ntmps19
    go_wp2_with (go_at_call 32; refine cF.mono ?_; rintro e w1 ⟨rfl, b1⟩; obtain ⟨t1, t2, t3⟩ := tab_at (hT.below b1) k h1)
    go_ret2
    exact ⟨rfl, b1⟩

/-- is this a text? -/
def txF (v : ByteArray) : Bool := decide ((∀ c ∈ L v, 32 ≤ c ∧ c ≤ 126) ∧ v.size ≤ 128)

set_option maxHeartbeats 1000000 in
set_option maxRecDepth 100000 in
theorem w_pistext19 (v : ByteArray) (w : World) (hv : v.size ≤ maxLen) :
    Calls Tryd.prog 66 #[.string v] w fun e w' => e = .returned (.bool (txF v)) ∧ w' = w := by
  have hvz : v.size ≤ 9223372036854775807 := by unfold maxLen at hv; omega
  have HS : ((∀ c ∈ L v, 32 ≤ c ∧ c ≤ 126) ∧ v.size ≤ 128) → Hid (txF v = true) := fun h => hid (decide_eq_true h)
  have HN : ¬ ((∀ c ∈ L v, 32 ≤ c ∧ c ≤ 126) ∧ v.size ≤ 128) → Hid (txF v = false) := fun h => hid (decide_eq_false h)
  obtain ⟨R, hR⟩ : ∃ R, txF v = R := ⟨_, rfl⟩
  rw [hR] at HS HN ⊢
  clear hR
  by_cases h128 : (128 : Int) < v.size
  · have hR := HN (fun z => by have := z.2; omega)
    clear HS HN
    go_enter Tryd.func66, Tryd.ntmps66
    go_wp2_with fail
    go_ret
    exact ⟨ret_b hR.out.symm, rfl⟩
  · go_enter Tryd.func66, Tryd.ntmps66
    go_wp2_with fail
    go_loopw [9] (fun I wx => ∃ j : Nat, (j : Int) ≤ v.size ∧ I = .int .i64 j ∧ Hid (∀ c ∈ (L v).take j, 32 ≤ c ∧ c ≤ 126) ∧ wx = w) (fun I _ => (v.size - intOf I).toNat)
    case atStart => exact ⟨0, by omega, rfl, hid (fun c hc => by simp at hc), rfl⟩
    case round =>
      obtain ⟨j, hj, rfl, hm, hw0⟩ := hrel
      obtain rfl := hw0.symm
      by_cases hlt : (j : Int) < v.size
      · have hjs : j < v.size := by omega
        have htk := L_take v j hjs
        have hmem : (v[j].toNat : Int) ∈ L v := by rw [← L_get v j hjs]; exact List.getElem_mem _
        by_cases c1 : (v[j].toNat : Int) < 32
        · have hR := HN (fun z => by have := z.1 _ hmem; omega)
          clear htk hmem HN HS hm
          go_wp2_with fail
          go_ret
          exact ⟨ret_b hR.out.symm, rfl⟩
        · by_cases c2 : 126 < (v[j].toNat : Int)
          · have hR := HN (fun z => by have := z.1 _ hmem; omega)
            clear htk hmem HN HS hm
            go_wp2_with fail
            go_ret
            exact ⟨ret_b hR.out.symm, rfl⟩
          · have hm2 : Hid (∀ c ∈ (L v).take (j + 1), 32 ≤ c ∧ c ≤ 126) := by
              intro c hc
              rw [htk] at hc
              rcases List.mem_append.1 hc with hc | hc
              · exact hm.out c hc
              · rw [List.mem_singleton.1 hc]; omega
            clear htk hmem HN HS hm
            go_wp2_with fail
            go_roundw
            case rel => exact ⟨j + 1, by omega, by go_num, hm2, trivial⟩
            case measure => simp [intOf]; omega
      · have hall : ∀ c ∈ L v, 32 ≤ c ∧ c ≤ 126 := by
          have := hm.out
          rw [List.take_of_length_le (by rw [L_len]; omega)] at this
          exact this
        have hR := HS ⟨hall, by omega⟩
        clear HN HS hm hall
        go_wp2_with fail
        go_ret
        exact ⟨ret_b hR.out.symm, rfl⟩

/-- a number's form, or the error of a type -/
def nfF (v : ByteArray) : ByteArray × Int := if (prs (L v) 10).2 = 0 then (shT (prs (L v) 10).1 10, 0) else (⟨#[]⟩, 27)

set_option maxHeartbeats 1000000 in
set_option maxRecDepth 100000 in
theorem w_pnumform19 (v : ByteArray) (w : World) (hv : v.size ≤ maxLen) :
    Calls Tryd.prog 65 #[.string v] w fun e w' => e = .returned (.tuple #[.string (nfF v).1, .int .i64 (nfF v).2]) ∧ Below w.heap.size w w' := by
  have cP := fun w => w_dparse v 10 w hv (by decide) (by decide)
  have hpb := prs_bd v
  unfold nfF
  by_cases e0 : (prs (L v) 10).2 = 0
  · rw [if_pos e0]
    have cS := fun w => w_dshow (prs (L v) 10).1 10 w hpb.1 hpb.2 (by decide) (by decide)
    rw [e0] at cP
    rw [show shE 10 = 0 from rfl] at cS
    obtain ⟨P, hP⟩ : ∃ P, (prs (L v) 10).1 = P := ⟨_, rfl⟩
    rw [hP] at cP cS ⊢
    obtain ⟨T, hTt⟩ : ∃ T, shT P 10 = T := ⟨_, rfl⟩
    rw [hTt] at cS ⊢
    clear hP hTt hpb e0
    go_enter Tryd.func65, Tryd.ntmps65
    go_wp2_with (first
      | (go_at_call 74; refine (cP _).mono ?_; rintro e w2 ⟨rfl, b2⟩)
      | (go_at_call 75; refine (cS _).mono ?_; rintro e w3 ⟨rfl, b3⟩))
    go_ret2
    exact ⟨rfl, below_trans b2 b3⟩
  · rw [if_neg e0]
    obtain ⟨⟨P, E⟩, hP⟩ : ∃ P, prs (L v) 10 = P := ⟨_, rfl⟩
    rw [hP] at cP e0
    simp only at cP e0
    clear hP hpb
    go_enter Tryd.func65, Tryd.ntmps65
    go_wp2_with (go_at_call 74; refine (cP _).mono ?_; rintro e w2 ⟨rfl, b2⟩)
    go_ret2
    exact ⟨rfl, b2⟩

/-- what the method form answers -/
def vfF (k : Nat) (v : ByteArray) : ByteArray × Int := match vaO k v with | some s => (s, 0) | none => (⟨#[]⟩, 27)
theorem vf_bool {k : Nat} (v : ByteArray) (h : (vaT k).2.1 = 98) : vfF k v = if v = vaTru ∨ v = vaFls then (v, 0) else (⟨#[]⟩, 27) := by
  unfold vfF vaO
  rw [if_pos h]
  by_cases c : v = vaTru ∨ v = vaFls
  · rw [if_pos c, if_pos c]
  · rw [if_neg c, if_neg c]
theorem vf_num {k : Nat} (v : ByteArray) (h : (vaT k).2.1 = 110) : vfF k v = nfF v := by
  unfold vfF vaO nfF
  rw [if_neg (by rw [h]; decide), if_pos h]
  split <;> simp_all
theorem vf_text {k : Nat} (v : ByteArray) (h : (vaT k).2.1 = 116) : vfF k v = if txF v = true then (v, 0) else (⟨#[]⟩, 27) := by
  unfold vfF vaO txF
  rw [if_neg (by rw [h]; decide), if_neg (by rw [h]; decide)]
  simp only [decide_eq_true_eq]
  by_cases c : (∀ c ∈ L v, 32 ≤ c ∧ c ≤ 126) ∧ v.size ≤ 128
  · rw [if_pos c, if_pos c]
  · rw [if_neg c, if_neg c]

set_option maxHeartbeats 1000000 in
set_option maxRecDepth 100000 in
theorem w_pvform19 (k : Nat) (hk : k < 9) (X Y v : ByteArray) (w : World) (hv : v.size ≤ maxLen) :
    Calls Tryd.prog 48 #[.agg #[.string X, .int .i64 (kdF k), .string Y], .string v] w fun e w' => e = .returned (.tuple #[.string (vfF k v).1, .int .i64 (vfF k v).2]) ∧ Below w.heap.size w w' := by
  have bx := fun K => box_below w (.cells #[.string X, .int .i64 K, .string Y] 60)
  have z1 := fun K => box_cell w #[.string X, .int .i64 K, .string Y] 60 1 _ rfl
  rcases va_kind k hk with h | h | h
  · rw [vf_bool v h, show kdF k = 0 by unfold kdF; rw [if_pos h]]
    have bx := bx 0
    have z1 := z1 0
    have hq1 := str_beq v vaTru
    have hq2 := str_beq v vaFls
    rw [vaTru_l] at hq1
    rw [vaFls_l] at hq2
    have hp1 : (v.toList == [116, 114, 117, 101]) = true → v.toList = [116, 114, 117, 101] := fun h => by simpa using h
    have hn1 : (v.toList == [116, 114, 117, 101]) = false → ¬ v.toList = [116, 114, 117, 101] := fun h => by simpa using h
    have hp2 : (v.toList == [102, 97, 108, 115, 101]) = true → v.toList = [102, 97, 108, 115, 101] := fun h => by simpa using h
    have hn2 : (v.toList == [102, 97, 108, 115, 101]) = false → ¬ v.toList = [102, 97, 108, 115, 101] := fun h => by simpa using h
    by_cases e1 : v = vaTru
    · rw [if_pos (Or.inl e1)]
      have hs : v.size ≤ 281474976710656 := by rw [e1]; decide
      have cC := fun w => w_clone v w hs
      rw [decide_eq_true e1] at hq1
      have hp := hp1 hq1
      clear e1 hq2 hp1 hn1 hp2 hn2 h hk
      go_enter Tryd.func48, Tryd.ntmps48
      go_wp2_with (go_at_call 51; refine (cC _).mono ?_; rintro e w2 ⟨rfl, b2⟩)
      go_ret2
      exact ⟨rfl, below_trans bx b2⟩
    · by_cases e2 : v = vaFls
      · rw [if_pos (Or.inr e2)]
        have hs : v.size ≤ 281474976710656 := by rw [e2]; decide
        have cC := fun w => w_clone v w hs
        rw [decide_eq_false e1] at hq1
        rw [decide_eq_true e2] at hq2
        have g1 := hn1 hq1
        have g2 := hp2 hq2
        clear e1 e2 hp1 hn1 hp2 hn2 h hk
        go_enter Tryd.func48, Tryd.ntmps48
        go_wp2_with (go_at_call 51; refine (cC _).mono ?_; rintro e w2 ⟨rfl, b2⟩)
        go_ret2
        exact ⟨rfl, below_trans bx b2⟩
      · rw [if_neg (fun z => z.elim e1 e2)]
        rw [decide_eq_false e1] at hq1
        rw [decide_eq_false e2] at hq2
        have g1 := hn1 hq1
        have g2 := hn2 hq2
        clear e1 e2 hp1 hn1 hp2 hn2 h hk
        go_enter Tryd.func48, Tryd.ntmps48
        go_wp2_with fail
        go_ret2
        exact ⟨rfl, bx⟩
  · rw [vf_num v h, show kdF k = 1 by unfold kdF; rw [if_neg (by rw [h]; decide), if_pos h]]
    have bx := bx 1
    have z1 := z1 1
    have cN := fun w => w_pnumform19 v w hv
    obtain ⟨⟨P, E⟩, hP⟩ : ∃ P, nfF v = P := ⟨_, rfl⟩
    simp only [hP] at cN ⊢
    clear hP h hk
    go_enter Tryd.func48, Tryd.ntmps48
    go_wp2_with (go_at_call 65; refine (cN _).mono ?_; rintro e w2 ⟨rfl, b2⟩)
    go_ret2
    exact ⟨rfl, below_trans bx b2⟩
  · rw [vf_text v h, show kdF k = 2 by unfold kdF; rw [if_neg (by rw [h]; decide), if_neg (by rw [h]; decide)]]
    have bx := bx 2
    have z1 := z1 2
    have cT := fun w => w_pistext19 v w hv
    cases ht : txF v
    · rw [if_neg (by decide)]
      rw [ht] at cT
      clear ht h hk
      go_enter Tryd.func48, Tryd.ntmps48
      go_wp2_with (go_at_call 66; refine (cT _).mono ?_; rintro e w2 ⟨rfl, hw⟩; obtain rfl := hw.symm)
      go_ret2
      exact ⟨rfl, bx⟩
    · rw [if_pos rfl]
      rw [ht] at cT
      have hs : v.size ≤ 281474976710656 := by have := of_decide_eq_true ht; have := this.2; omega
      have cC := fun w => w_clone v w hs
      clear ht h hk
      go_enter Tryd.func48, Tryd.ntmps48
      go_wp2_with (first
        | (go_at_call 66; refine (cT _).mono ?_; rintro e w2 ⟨rfl, hw⟩; obtain rfl := hw.symm)
        | (go_at_call 51; refine (cC _).mono ?_; rintro e w2 ⟨rfl, b2⟩))
      go_ret2
      exact ⟨rfl, below_trans bx b2⟩

theorem vaM_vf {nm : ByteArray} (v : ByteArray) (h : ¬ vaF nm < 0) : vaM nm v = vfF (vaF nm).toNat v := by unfold vaM vfF; rw [if_neg h]; cases vaO (vaF nm).toNat v <;> rfl

set_option maxHeartbeats 1000000 in
set_option maxRecDepth 100000 in
theorem w_pform19 (nm v : ByteArray) (w : World) (hT : Tab w) (hv : v.size ≤ maxLen) :
    Calls Tryd.prog 30 #[.string nm, .string v] w fun e w' => e = .returned (.tuple #[.string (vaM nm v).1, .int .i64 (vaM nm v).2]) ∧ Below w.heap.size w w' := by
  have cF := w_pplaceOf19 nm w hT
  have hb := va_lt nm
  by_cases h : vaF nm < 0
  · rw [vaM_not v h]
    have h1 : vaF nm = -1 := by omega
    rw [h1] at cF
    clear h h1 hb
    go_enter Tryd.func30, Tryd.ntmps30
    go_wp2_with (go_at_call 32; refine cF.mono ?_; rintro e w1 ⟨rfl, b1⟩)
    go_ret2
    exact ⟨rfl, b1⟩
  · rw [vaM_vf v h]
    obtain ⟨h1, h2⟩ := va_found (show 0 ≤ vaF nm by omega)
    obtain ⟨k, hk⟩ : ∃ k : Nat, vaF nm = k := ⟨(vaF nm).toNat, by omega⟩
    rw [hk] at h cF h1 ⊢
    simp only [Int.toNat_natCast] at h1 ⊢
    have hk9 : (k : Int) < 9 := by omega
    have cV := fun w => w_pvform19 k h1 (vaT k).1 (vaT k).2.2 v w hv
    obtain ⟨⟨P, E⟩, hP⟩ : ∃ P, vfF k v = P := ⟨_, rfl⟩
    simp only [hP] at cV ⊢
    clear hP h2
    go_enter Tryd.func30, Tryd.ntmps30
    go_wp2_with (first
      | (go_at_call 32; refine cF.mono ?_; rintro e w1 ⟨rfl, b1⟩; obtain ⟨t1, t2, t3⟩ := tab_at (hT.below b1) k h1)
      | (go_at_call 48; refine (cV _).mono ?_; rintro e w2 ⟨rfl, b2⟩))
    go_ret2
    exact ⟨rfl, below_trans b1 b2⟩

end Go.Proofs.YtaiimfdcbdfbdabDoor
