/-
  pathOf and Expand of package path.
-/
import Derived.Test.YtmjgiaomijghoaaDoorPlz
import Derived.Test.YtmjgiaomijghoaaDoorPld
import Derived.Test.YtmjgiaomijghoaaDoorPp3
namespace Go.Proofs.YtmjgiaomijghoaaDoor
open Go.ChangeShapes Go.WideShapes Go.ChangeAt Go.RowKit
set_option linter.unusedVariables false
set_option linter.unusedSimpArgs false

theorem fd_hit (al : List Al) (n : List Int) (i : Nat) (h : i < al.length) (hp : ∀ x ∈ al.take i, ¬ x.1 = n) (hi : al[i].1 = n) : al.find? (fun x => decide (x.1 = n)) = some al[i] := by
  rw [List.find?_eq_some_iff_append]
  refine ⟨by simpa using hi, al.take i, al.drop (i + 1), ?_, fun x hx => by simpa using hp x hx⟩
  rw [← List.drop_eq_getElem_cons h, List.take_append_drop]

/-- what pathOf answers -/
def PathR (al : List Al) (n : List Int) (P : ByteArray) (b : Bool) : Prop := match al.find? (fun x => decide (x.1 = n)) with
  | none => b = false
  | some x => b = true ∧ L P = x.2
theorem pathR_none {al : List Al} {n : List Int} {P : ByteArray} {b : Bool} (h : PathR al n P b) (hf : al.find? (fun x => decide (x.1 = n)) = none) : b = false := by
  unfold PathR at h
  rw [hf] at h
  exact h
theorem pathR_some {al : List Al} {n : List Int} {P : ByteArray} {b : Bool} {x : Al} (h : PathR al n P b) (hf : al.find? (fun x => decide (x.1 = n)) = some x) : b = true ∧ L P = x.2 := by
  unfold PathR at h
  rw [hf] at h
  exact h

set_option maxHeartbeats 1000000 in
set_option maxRecDepth 100000 in
theorem w_pathof (N : ByteArray) (v : Value) (al : List Al) (w : World) (h : SlR 2 aliR w v al) (ba : ∀ x ∈ al, bytesL x.1 ∧ bytesL x.2) :
    Calls Tryd.prog 33 #[.string N, v] w fun e w' => ∃ P b, e = .returned (.tuple #[.string P, .bool b]) ∧ PathR al (L N) P b ∧ Below w.heap.size w w' := by
  have hla := slr_len h uA (P := Tryd.prog)
  have hma := slr_max h
  unfold maxLen at hma
  go_enter Tryd.func33, Tryd.ntmps33
  go_wp2_with fail
  go_loopw [10] (fun I wx => ∃ (i : Nat), (i : Int) ≤ al.length ∧ I = .int .i64 i ∧ Hid (∀ x ∈ al.take i, ¬ x.1 = L N) ∧ Below w.heap.size w wx) (fun I _ => (al.length - intOf I).toNat)
  case atStart => exact ⟨0, by omega, rfl, hid (fun x hx => by simp at hx), Below.refl _ _⟩
  case round =>
    obtain ⟨i, hi, rfl, hno, hb⟩ := hrel
    by_cases hlt : (i : Int) < al.length
    · have hil : i < al.length := by omega
      obtain ⟨b, o, nm, pa, r, a0, a1, e0, e1⟩ := ali_at h i hil
      have c0 := below_cell hb a0
      have c1 := below_cell hb a1
      have hNL : L nm = al[i].1 := by rw [← e0]; exact LB_nums _ (ba _ (List.getElem_mem hil)).1
      have hPL : L pa = al[i].2 := by rw [← e1]; exact LB_nums _ (ba _ (List.getElem_mem hil)).2
      have hb0 := hb.alloc hb.size (.cells #[.string nm, .string pa] 66)
      have st0 := stands_new wr #[.string nm, .string pa] 66
      have x0 := st0.cell 0 _ rfl
      have x1 := st0.cell 1 _ rfl
      have heq := str_eqL nm N
      rw [hNL] at heq
      by_cases hc : al[i].1 = L N
      · have hf : Hid (al.find? (fun x => decide (x.1 = L N)) = some al[i]) := fd_hit al (L N) i hil hno.out hc
        rw [decide_eq_true hc] at heq
        have HPL := hid hPL
        clear hNL hPL e0 e1 hc
        go_wp2_with fail
        go_ret2
        refine ⟨pa, true, rfl, ?_, hb0⟩
        unfold PathR
        rw [hf.out]
        exact ⟨rfl, HPL.out⟩
      · have hno2 : Hid (∀ x ∈ al.take (i + 1), ¬ x.1 = L N) := by
          intro x hx
          rw [List.take_succ_eq_append_getElem hil, List.mem_append, List.mem_singleton] at hx
          rcases hx with hx | rfl
          · exact hno.out x hx
          · exact hc
        rw [decide_eq_false hc] at heq
        clear hNL hPL e0 e1 hc
        go_wp2_with fail
        go_roundw
        case rel => exact ⟨i + 1, by omega, by go_num, hno2, hb0⟩
        case measure => simp [intOf]; omega
    · have hf : Hid (al.find? (fun x => decide (x.1 = L N)) = none) := by
        show _ = _
        rw [List.find?_eq_none]
        intro x hx
        have := hno.out x (by rw [List.take_of_length_le (by omega)]; exact hx)
        simpa using this
      go_wp2_with fail
      go_ret2
      refine ⟨⟨#[]⟩, Or.inl ⟨rfl, ?_, hb⟩⟩
      unfold PathR
      rw [hf.out]

theorem hd_drop (l : List Int) (k : Nat) : (l[k]? = some 58) = ((l.drop k).head? = some 58) := by rw [List.head?_drop]

set_option maxHeartbeats 4000000 in
set_option maxRecDepth 100000 in
theorem w_pexpand (s : ByteArray) (v : Value) (al : List Al) (w : World) (hs : s.size ≤ 140737488351232) (h : SlR 2 aliR w v al) (ba : ∀ x ∈ al, bytesL x.1 ∧ bytesL x.2) (hsz : ∀ x ∈ al, x.1.length ≤ 140737488351232 ∧ x.2.length ≤ 140737488351232) :
    Calls Tryd.prog 14 #[.string s, v] w fun e w' => e = .returned (.tuple #[.string (strOfNums (expF (L s) al).1), .int .i64 (expF (L s) al).2]) ∧ Below w.heap.size w w' := by
  have hm : s.size ≤ maxLen := by unfold maxLen; omega
  have hp := w_hp47 s w hm
  by_cases hh : (L s).head? = some 47
  · have e : expF (L s) al = (L s, 0) := by unfold expF; rw [if_pos hh]
    rw [e]
    show Calls _ _ _ _ fun e w' => e = .returned (.tuple #[.string (strOfNums (LB s)), .int .i64 0]) ∧ _
    rw [nums_LB]
    rw [decide_eq_true hh] at hp
    clear e hh
    go_enter Tryd.func14, Tryd.ntmps14
    go_wp2_with (go_at_call 31; refine hp.mono ?_; rintro e w1 ⟨rfl, b1⟩)
    go_ret2
    exact ⟨rfl, b1⟩
  · rw [decide_eq_false hh] at hp
    have he : expF (L s) al = match al.find? (fun x => decide (x.1 = (L s).take (exK (L s)))) with | none => ([], 2) | some x => exQ (L s) x.2 := by
      unfold expF
      rw [if_neg hh]
      rfl
    obtain ⟨A, E, hAE⟩ : ∃ A E, expF (L s) al = (A, E) := ⟨_, _, rfl⟩
    rw [hAE] at he ⊢
    show Calls _ _ _ _ fun e w' => e = .returned (.tuple #[.string (strOfNums A), .int .i64 E]) ∧ _
    have He := hid he
    have hKle := exK_le (L s)
    rw [L_len] at hKle
    clear he hAE hh
    have cx := fun w => w_ixany s w hm
    go_enter Tryd.func14, Tryd.ntmps14
    go_wp2_with (first
      | (go_at_call 31; refine hp.mono ?_; rintro e w1 ⟨rfl, b1⟩)
      | (go_at_call 32; refine (cx _).mono ?_; rintro e w2 ⟨i, rfl, hi, b2⟩; refine Hid.out ?_))
    have hb2 := below_trans b1 b2
    rcases hi with ⟨rfl, hK⟩ | ⟨k, rfl, hK, hks⟩
    · rw [hK, L_len] at He
      rw [← L_len s, List.take_length] at He
      have hdr : Hid (∀ p, exQ (L s) p = if 256 < p.length then ([], 3) else (p, 0)) := by
        intro p
        unfold exQ
        rw [hK, List.drop_length, Nat.sub_self, List.append_nil, Nat.add_zero]
        simp
      clear hK hKle
      have cp := fun w' (g : Below w.heap.size w w') => w_pathof s v al w' (h.below g aliR_below) ba
      refine hid ?_
      cases hf : al.find? (fun x => decide (x.1 = L s)) with
      | none =>
        rw [hf] at He
        have Hf := hid hf
        clear hf
        go_wp2_with (go_at_call 33; refine (cp _ hb2).mono ?_; rintro e w3 ⟨P, b, rfl, hP, b3⟩; obtain rfl := pathR_none hP Hf.out; clear hP)
        go_ret2
        obtain ⟨rfl, rfl⟩ := Prod.mk.inj He.out
        exact ⟨rfl, below_trans hb2 b3⟩
      | some x =>
        have hxm := List.mem_of_find?_eq_some hf
        have hxl := (hsz x hxm).2
        have hxb := (ba x hxm).2
        rw [hf] at He
        have Hf := hid hf
        have ch := w_hp58 ⟨#[]⟩
        have HA : Hid ((A, E) = if 256 < x.2.length then ([], 3) else (x.2, 0)) := by show _ = _; rw [He.out]; exact hdr.out x.2
        clear hf hdr He
        go_wp2_with (go_at_call 33; refine (cp _ hb2).mono ?_; rintro e w3 ⟨P, b, rfl, hPR, b3⟩; obtain ⟨rfl, hP⟩ := pathR_some hPR Hf.out; refine Hid.out ?_)
        have hPs : P.size ≤ 140737488351232 := by rw [← L_len, hP]; exact hxl
        have hPn : strOfNums x.2 = P := by rw [← hP]; exact nums_LB P
        have hb3 := below_trans hb2 b3
        have hPa : P ++ ⟨#[]⟩ = P := by apply ByteArray.ext; simp
        have csh := fun w' => w_pshort P w' (by unfold maxLen; omega)
        rw [show x.2.length = P.size by rw [← L_len, hP]] at HA
        refine hid ?_
        by_cases hl : 256 < P.size
        · rw [if_pos hl] at HA
          simp only [hl, if_true] at csh
          go_wp2_with (first
            | (go_at_call 31; refine (ch _ (by decide +kernel)).mono ?_; rintro e w4 ⟨rfl, b4⟩; rw [show decide ((L ⟨#[]⟩).head? = some 58) = false by decide +kernel])
            | (go_at_call 27; rw [hPa]; refine (csh _).mono ?_; rintro e w5 ⟨rfl, rfl⟩)
            | (go_at_call 27; refine (csh _).mono ?_; rintro e w5 ⟨rfl, rfl⟩))
          go_ret2
          obtain ⟨rfl, rfl⟩ := Prod.mk.inj HA.out
          exact ⟨rfl, below_trans hb3 b4⟩
        · rw [if_neg hl] at HA
          simp only [hl, if_false] at csh
          go_wp2_with (first
            | (go_at_call 31; refine (ch _ (by decide +kernel)).mono ?_; rintro e w4 ⟨rfl, b4⟩; rw [show decide ((L ⟨#[]⟩).head? = some 58) = false by decide +kernel])
            | (go_at_call 27; rw [hPa]; refine (csh _).mono ?_; rintro e w5 ⟨rfl, rfl⟩)
            | (go_at_call 27; refine (csh _).mono ?_; rintro e w5 ⟨rfl, rfl⟩))
          go_ret2
          obtain ⟨rfl, rfl⟩ := Prod.mk.inj HA.out
          rw [hPn]
          exact ⟨rfl, below_trans hb3 b4⟩
    · rw [L_len] at hks
      have hNL : L (s.extract 0 k) = (L s).take k := by rw [L_extract s 0 k (by omega)]; simp
      have hRL : L (s.extract k s.size) = (L s).drop k := L_from s k
      have hRs : (s.extract k s.size).size = s.size - k := by rw [← L_len, hRL, List.length_drop, L_len]
      have z0 : (0 : Int) ≤ k := by omega
      have z1 : (k : Int) ≤ s.size := by omega
      have hns : Hid ((s.extract 0 k).size ≤ maxLen) := by show _ ≤ _; rw [← L_len, hNL, List.length_take, L_len]; unfold maxLen; omega
      have hQ : Hid (∀ p, exQ (L s) p = if 256 < (if ((L s).drop k).head? = some 58 then (tlF p).1 else p).length + (s.size - k) then ([], 3) else ((if ((L s).drop k).head? = some 58 then (tlF p).1 else p) ++ (L s).drop k, 0)) := by
        intro p
        unfold exQ
        rw [hK, L_len]
        simp only [hd_drop]
      rw [hK] at He
      have cp := fun w' (g : Below w.heap.size w w') => w_pathof (s.extract 0 k) v al w' (h.below g aliR_below) ba
      have ch := fun w' => w_hp58 (s.extract k s.size) w' (by rw [hRs]; unfold maxLen; omega)
      rw [hNL] at cp
      rw [hRL] at ch
      obtain ⟨R, hR⟩ : ∃ R, s.extract k s.size = R := ⟨_, rfl⟩
      obtain ⟨Nm, hNm⟩ : ∃ Nm, s.extract 0 k = Nm := ⟨_, rfl⟩
      rw [hR] at ch hRL hRs
      rw [hNm] at cp hNL
      clear hK hKle hp cx
      refine hid ?_
      go_wp2_with fail
      go_quiet (fail)
      have hbq := below_drewN hb2 nq
      try simp only [hR, hNm]
      cases hf : al.find? (fun x => decide (x.1 = (L s).take k)) with
      | none =>
        rw [hf] at He
        have Hf := hid hf
        clear hf
        go_wp2_with (go_at_call 33; refine (cp _ hbq).mono ?_; rintro e w3 ⟨P, b, rfl, hP, b3⟩; obtain rfl := pathR_none hP Hf.out; clear hP)
        go_ret2
        obtain ⟨rfl, rfl⟩ := Prod.mk.inj He.out
        exact ⟨rfl, below_trans hbq b3⟩
      | some x =>
        have hxm := List.mem_of_find?_eq_some hf
        have hxl := (hsz x hxm).2
        have hxb := (ba x hxm).2
        rw [hf] at He
        have Hf := hid hf
        have HA : Hid ((A, E) = exQ (L s) x.2) := He
        clear hf He
        go_wp2_with (go_at_call 33; refine (cp _ hbq).mono ?_; rintro e w3 ⟨P, b, rfl, hPR, b3⟩; obtain ⟨rfl, hP⟩ := pathR_some hPR Hf.out; refine Hid.out ?_)
        have hPs : P.size ≤ 140737488351232 := by rw [← L_len, hP]; exact hxl
        have hb3 := below_trans hbq b3
        have HA2 : Hid ((A, E) = if 256 < (if ((L s).drop k).head? = some 58 then (tlF (L P)).1 else L P).length + (s.size - k) then ([], 3) else ((if ((L s).drop k).head? = some 58 then (tlF (L P)).1 else L P) ++ (L s).drop k, 0)) := by show _ = _; rw [HA.out, hQ.out, hP]
        clear HA hQ hPR hP
        refine hid ?_
        by_cases h58 : ((L s).drop k).head? = some 58
        · simp only [h58, if_true] at HA2
          rw [decide_eq_true h58] at ch
          have ctl := fun w' => w_ptail P w' (by unfold maxLen; omega)
          have htl := (tl_len (L P)).1
          rw [L_len] at htl
          clear h58
          go_wp2_with (first
            | (go_at_call 31; refine (ch _).mono ?_; rintro e w4 ⟨rfl, b4⟩)
            | (go_at_call 16; refine (ctl _).mono ?_; rintro e w5 ⟨Q, B, rfl, hQL, hBL, b5⟩; refine Hid.out ?_))
          rw [← hQL] at HA2 htl
          rw [L_len] at htl
          have hb5 := below_trans (below_trans hb3 b4) b5
          have hQs : (Q ++ R).size = Q.size + R.size := by simp
          have hQn : strOfNums (L Q ++ (L s).drop k) = Q ++ R := by rw [← hRL, ← L_appS]; exact nums_LB _
          have hlen : (L Q).length + (s.size - k) = (Q ++ R).size := by rw [L_len, hQs, hRs]
          have csh := fun w' => w_pshort (Q ++ R) w' (by rw [hQs]; unfold maxLen; omega)
          have hcat : (Q.size : Int) + R.size ≤ 9223372036854775807 := by omega
          rw [hlen] at HA2
          refine hid ?_
          by_cases hl : 256 < (Q ++ R).size
          · rw [if_pos hl] at HA2
            simp only [hl, if_true] at csh
            clear hl
            go_wp2_with (go_at_call 27; refine (csh _).mono ?_; rintro e w6 ⟨rfl, rfl⟩)
            go_ret2
            obtain ⟨rfl, rfl⟩ := Prod.mk.inj HA2.out
            exact ⟨rfl, hb5⟩
          · rw [if_neg hl] at HA2
            simp only [hl, if_false] at csh
            clear hl
            go_wp2_with (go_at_call 27; refine (csh _).mono ?_; rintro e w6 ⟨rfl, rfl⟩)
            go_ret2
            obtain ⟨rfl, rfl⟩ := Prod.mk.inj HA2.out
            rw [hQn]
            exact ⟨rfl, hb5⟩
        · simp only [h58, if_false] at HA2
          rw [decide_eq_false h58] at ch
          clear h58
          go_wp2_with (go_at_call 31; refine (ch _).mono ?_; rintro e w4 ⟨rfl, b4⟩; refine Hid.out ?_)
          have hb5 := below_trans hb3 b4
          have hQs : (P ++ R).size = P.size + R.size := by simp
          have hQn : strOfNums (L P ++ (L s).drop k) = P ++ R := by rw [← hRL, ← L_appS]; exact nums_LB _
          have hlen : (L P).length + (s.size - k) = (P ++ R).size := by rw [L_len, hQs, hRs]
          have csh := fun w' => w_pshort (P ++ R) w' (by rw [hQs]; unfold maxLen; omega)
          have hcat : (P.size : Int) + R.size ≤ 9223372036854775807 := by omega
          rw [hlen] at HA2
          refine hid ?_
          by_cases hl : 256 < (P ++ R).size
          · rw [if_pos hl] at HA2
            simp only [hl, if_true] at csh
            clear hl
            go_wp2_with (go_at_call 27; refine (csh _).mono ?_; rintro e w6 ⟨rfl, rfl⟩)
            go_ret2
            obtain ⟨rfl, rfl⟩ := Prod.mk.inj HA2.out
            exact ⟨rfl, hb5⟩
          · rw [if_neg hl] at HA2
            simp only [hl, if_false] at csh
            clear hl
            go_wp2_with (go_at_call 27; refine (csh _).mono ?_; rintro e w6 ⟨rfl, rfl⟩)
            go_ret2
            obtain ⟨rfl, rfl⟩ := Prod.mk.inj HA2.out
            rw [hQn]
            exact ⟨rfl, hb5⟩
end Go.Proofs.YtmjgiaomijghoaaDoor
