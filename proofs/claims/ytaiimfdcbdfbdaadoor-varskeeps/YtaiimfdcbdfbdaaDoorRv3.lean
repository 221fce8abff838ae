/-
  Form of the document's answer for layer 19.
-/
import Derived.Test.YtaiimfdcbdfbdaaDoorRv2
import Derived.Test.YtaiimfdcbdfbdaaDoorRpa
namespace Go.Proofs.YtaiimfdcbdfbdaaDoor
open Go.ChangeShapes Go.WideShapes Go.ChangeAt Go.RowKit
set_option linter.unusedVariables false
set_option linter.unusedSimpArgs false

theorem vaTru_l : vaTru.toList = [116, 114, 117, 101] := by rw [ByteArray.toList_eq]; rfl
theorem vaFls_l : vaFls.toList = [102, 97, 108, 115, 101] := by rw [ByteArray.toList_eq]; rfl
theorem vaM_not {nm : ByteArray} (v : ByteArray) (h : vaF nm < 0) : vaM nm v = (⟨#[]⟩, 2) := by unfold vaM; rw [if_pos h]
theorem vaM_some {nm v s : ByteArray} (h : ¬ vaF nm < 0) (hs : vaO (vaF nm).toNat v = some s) : vaM nm v = (s, 0) := by unfold vaM; rw [if_neg h, hs]
theorem vaM_none {nm v : ByteArray} (h : ¬ vaF nm < 0) (hs : vaO (vaF nm).toNat v = none) : vaM nm v = (⟨#[]⟩, 27) := by unfold vaM; rw [if_neg h, hs]

set_option maxHeartbeats 2000000 in
set_option maxRecDepth 10000 in
theorem w_rform (nm v : ByteArray) (w : World) (hv : v.size ≤ maxLen) :
    Calls Tryd.prog 11 #[.string nm, .string v] w fun e w' => e = .returned (.tuple #[.string (vaM nm v).1, .int .i64 (vaM nm v).2]) ∧ Below w.heap.size w w' := by
  have cF := w_rfind nm
  by_cases h : vaF nm < 0
  · rw [vaM_not v h]
    generalize vaF nm = k at cF h
    go_enter Tryd.func11, Tryd.ntmps11
    go_wp2_with (go_at_call 31; refine (cF _).mono ?_; rintro e w1 ⟨rfl, hw⟩; obtain rfl := hw.symm)
    go_ret2
    exact ⟨rfl, Below.refl _ _⟩
  · obtain ⟨h1, h2⟩ := va_found (show 0 ≤ vaF nm by omega)
    have hS := fun s => vaM_some (s := s) (v := v) h
    have hN := vaM_none (v := v) h
    obtain ⟨k, hk⟩ : ∃ k : Nat, vaF nm = k := ⟨(vaF nm).toNat, by omega⟩
    rw [hk] at cF h1 hS hN
    simp only [Int.toNat_natCast] at h1 hS hN
    have cV := w_rvariable k h1
    have hkd := va_kind k h1
    unfold vaO at hS hN
    obtain ⟨⟨T1, T2, T3⟩, hT⟩ : ∃ t, vaT k = t := ⟨_, rfl⟩
    rw [hT] at cV hkd hS hN
    simp only at hkd hS hN
    clear hT hk h2 h h1
    rcases hkd with rfl | rfl | rfl
    · simp only [if_true] at hS hN
      have hq1 := str_beq v vaTru
      have hq2 := str_beq v vaFls
      rw [vaTru_l] at hq1
      rw [vaFls_l] at hq2
      have hp1 : (v.toList == [116, 114, 117, 101]) = true → v.toList = [116, 114, 117, 101] := fun h => by simpa using h
      have hn1 : (v.toList == [116, 114, 117, 101]) = false → ¬ v.toList = [116, 114, 117, 101] := fun h => by simpa using h
      have hp2 : (v.toList == [102, 97, 108, 115, 101]) = true → v.toList = [102, 97, 108, 115, 101] := fun h => by simpa using h
      have hn2 : (v.toList == [102, 97, 108, 115, 101]) = false → ¬ v.toList = [102, 97, 108, 115, 101] := fun h => by simpa using h
      by_cases e1 : v = vaTru
      · have hR := hid (hS v (if_pos (Or.inl e1)))
        rw [decide_eq_true e1] at hq1
        have hp := hp1 hq1
        clear e1 hS hN hq2 hp1 hn1 hp2 hn2
        go_enter Tryd.func11, Tryd.ntmps11
        go_wp2_with (first
          | (go_at_call 31; refine (cF _).mono ?_; rintro e w1 ⟨rfl, hw⟩; obtain rfl := hw.symm)
          | (go_at_call 32; refine (cV _).mono ?_; rintro e w1 ⟨rfl, hw⟩; obtain rfl := hw.symm))
        go_ret2
        exact ⟨ret_si (congrArg Prod.fst hR.out).symm (congrArg Prod.snd hR.out).symm, Below.refl _ _⟩
      · by_cases e2 : v = vaFls
        · have hR := hid (hS v (if_pos (Or.inr e2)))
          rw [decide_eq_false e1] at hq1
          rw [decide_eq_true e2] at hq2
          have g1 := hn1 hq1
          have g2 := hp2 hq2
          clear e1 e2 hS hN hp1 hn1 hp2 hn2
          go_enter Tryd.func11, Tryd.ntmps11
          go_wp2_with (first
            | (go_at_call 31; refine (cF _).mono ?_; rintro e w1 ⟨rfl, hw⟩; obtain rfl := hw.symm)
            | (go_at_call 32; refine (cV _).mono ?_; rintro e w1 ⟨rfl, hw⟩; obtain rfl := hw.symm))
          go_ret2
          exact ⟨ret_si (congrArg Prod.fst hR.out).symm (congrArg Prod.snd hR.out).symm, Below.refl _ _⟩
        · have hR := hid (hN (if_neg (fun z => z.elim e1 e2)))
          rw [decide_eq_false e1] at hq1
          rw [decide_eq_false e2] at hq2
          have g1 := hn1 hq1
          have g2 := hn2 hq2
          clear e1 e2 hS hN hp1 hn1 hp2 hn2
          go_enter Tryd.func11, Tryd.ntmps11
          go_wp2_with (first
            | (go_at_call 31; refine (cF _).mono ?_; rintro e w1 ⟨rfl, hw⟩; obtain rfl := hw.symm)
            | (go_at_call 32; refine (cV _).mono ?_; rintro e w1 ⟨rfl, hw⟩; obtain rfl := hw.symm))
          go_ret2
          exact ⟨ret_si (congrArg Prod.fst hR.out).symm (congrArg Prod.snd hR.out).symm, Below.refl _ _⟩
    · rw [if_neg (by decide), if_pos rfl] at hN
      have hS' := fun s h => hS s (by rw [if_neg (by decide), if_pos rfl]; exact h)
      have cP := fun w => w_rparse v 10 w hv (by decide) (by decide)
      have hpb := prs_bd v
      by_cases e0 : (prs (L v) 10).2 = 0
      · have hR := hid (hS' _ (if_pos e0))
        have cS := fun w => w_rshow (prs (L v) 10).1 10 w hpb.1 hpb.2 (by decide) (by decide)
        rw [e0] at cP
        clear e0 hN hS hS'
        rw [show shE 10 = 0 from rfl] at cS
        obtain ⟨P, hP⟩ : ∃ P, (prs (L v) 10).1 = P := ⟨_, rfl⟩
        rw [hP] at cP cS hR
        obtain ⟨T, hTt⟩ : ∃ T, shT P 10 = T := ⟨_, rfl⟩
        rw [hTt] at cS hR
        clear hP hTt hpb
        go_enter Tryd.func11, Tryd.ntmps11
        go_wp2_with (first
          | (go_at_call 31; refine (cF _).mono ?_; rintro e w1 ⟨rfl, hw⟩; obtain rfl := hw.symm)
          | (go_at_call 32; refine (cV _).mono ?_; rintro e w1 ⟨rfl, hw⟩; obtain rfl := hw.symm)
          | (go_at_call 33; refine (cP _).mono ?_; rintro e w2 ⟨rfl, b2⟩)
          | (go_at_call 34; refine (cS _).mono ?_; rintro e w1 ⟨rfl, hw⟩; obtain rfl := hw.symm))
        go_ret2
        exact ⟨ret_si (congrArg Prod.fst hR.out).symm (congrArg Prod.snd hR.out).symm, b2⟩
      · have hR := hid (hN (if_neg e0))
        obtain ⟨⟨P, E⟩, hP⟩ : ∃ P, prs (L v) 10 = P := ⟨_, rfl⟩
        rw [hP] at cP e0
        simp only at cP e0
        clear hP hpb hN hS hS'
        go_enter Tryd.func11, Tryd.ntmps11
        go_wp2_with (first
          | (go_at_call 31; refine (cF _).mono ?_; rintro e w1 ⟨rfl, hw⟩; obtain rfl := hw.symm)
          | (go_at_call 32; refine (cV _).mono ?_; rintro e w1 ⟨rfl, hw⟩; obtain rfl := hw.symm)
          | (go_at_call 33; refine (cP _).mono ?_; rintro e w2 ⟨rfl, b2⟩))
        go_ret2
        exact ⟨ret_si (congrArg Prod.fst hR.out).symm (congrArg Prod.snd hR.out).symm, b2⟩
    · rw [if_neg (by decide), if_neg (by decide)] at hN
      have hS' := fun s h => hS s (by rw [if_neg (by decide), if_neg (by decide)]; exact h)
      have HS := fun h => hid (hS' v (if_pos h))
      have HN := fun h => hid (hN (if_neg h))
      clear hS hN hS'
      have hvz : v.size ≤ 9223372036854775807 := by unfold maxLen at hv; omega
      go_enter Tryd.func11, Tryd.ntmps11
      go_wp2_with (first
        | (go_at_call 31; refine (cF _).mono ?_; rintro e w1 ⟨rfl, hw⟩; obtain rfl := hw.symm)
        | (go_at_call 32; refine (cV _).mono ?_; rintro e w1 ⟨rfl, hw⟩; obtain rfl := hw.symm))
      go_loopw [14] (fun I wx => ∃ j : Nat, (j : Int) ≤ v.size ∧ I = .int .i64 j ∧ Hid (∀ c ∈ (L v).take j, 32 ≤ c ∧ c ≤ 126) ∧ wx = w) (fun I _ => (v.size - intOf I).toNat)
      case atStart => exact ⟨0, by omega, rfl, hid (fun c hc => by simp at hc), rfl⟩
      case round =>
        obtain ⟨j, hj, rfl, hm, hw0⟩ := hrel
        obtain rfl := hw0.symm
        by_cases hlt : (j : Int) < v.size
        · have hjs : j < v.size := by omega
          have htk := L_take v j hjs
          have hmem : (v[j].toNat : Int) ∈ L v := by rw [← L_get v j hjs]; exact List.getElem_mem _
          by_cases c1 : (v[j].toNat : Int) < 32
          · have hR := HN (fun z => by have := z.1 _ hmem; omega)
            clear htk hmem HN HS hm
            go_wp2_with fail
            go_ret2
            exact ⟨ret_si (congrArg Prod.fst hR.out).symm (congrArg Prod.snd hR.out).symm, Below.refl _ _⟩
          · by_cases c2 : 126 < (v[j].toNat : Int)
            · have hR := HN (fun z => by have := z.1 _ hmem; omega)
              clear htk hmem HN HS hm
              go_wp2_with fail
              go_ret2
              exact ⟨ret_si (congrArg Prod.fst hR.out).symm (congrArg Prod.snd hR.out).symm, Below.refl _ _⟩
            · have hm2 : Hid (∀ c ∈ (L v).take (j + 1), 32 ≤ c ∧ c ≤ 126) := by
                intro c hc
                rw [htk] at hc
                rcases List.mem_append.1 hc with hc | hc
                · exact hm.out c hc
                · rw [List.mem_singleton.1 hc]; omega
              clear htk hmem HN HS hm
              go_wp2_with fail
              go_roundw
              case rel => exact ⟨j + 1, by omega, by go_num, hm2, trivial⟩
              case measure => simp [intOf]; omega
        · have hall : ∀ c ∈ L v, 32 ≤ c ∧ c ≤ 126 := by
            have := hm.out
            rw [List.take_of_length_le (by rw [L_len]; omega)] at this
            exact this
          by_cases h128 : (v.size : Int) ≤ 128
          · have hR := HS ⟨hall, by omega⟩
            clear HN HS hm hall
            go_wp2_with fail
            go_ret2
            exact ⟨ret_si (congrArg Prod.fst hR.out).symm (congrArg Prod.snd hR.out).symm, Below.refl _ _⟩
          · have hR := HN (fun z => h128 (by have := z.2; omega))
            clear HN HS hm hall
            go_wp2_with fail
            go_ret2
            exact ⟨ret_si (congrArg Prod.fst hR.out).symm (congrArg Prod.snd hR.out).symm, Below.refl _ _⟩
end Go.Proofs.YtaiimfdcbdfbdaaDoor
