/-
  Expand of the document's answer for paths.
-/
import Derived.Test.YtmjgiaomijghoaaDoorRa1
import Derived.Test.YtmjgiaomijghoaaDoorAlp
namespace Go.Proofs.YtmjgiaomijghoaaDoor
open Go.ChangeShapes Go.WideShapes Go.ChangeAt Go.RowKit
set_option linter.unusedVariables false
set_option linter.unusedSimpArgs false

/-- where the short name ends -/
def exK (s : List Int) : Nat := min (upTo 47 s).length (upTo 58 s).length
/-- its path p, and the rest -/
def exQ (s p : List Int) : List Int × Int :=
  if 256 < (if s[exK s]? = some 58 then (tlF p).1 else p).length + (s.length - exK s) then ([], 3) else ((if s[exK s]? = some 58 then (tlF p).1 else p) ++ s.drop (exK s), 0)
/-- what Expand answers -/
def expF (s : List Int) (al : List Al) : List Int × Int :=
  if s.head? = some 47 then (s, 0) else
  match al.find? (fun x => decide (x.1 = s.take (exK s))) with
  | none => ([], 2)
  | some x => exQ s x.2
theorem exK_le (s : List Int) : exK s ≤ s.length := by
  have := upTo_len 47 s
  unfold exK
  omega
theorem tl_bytes {l : List Int} (h : bytesL l) : bytesL (tlF l).1 ∧ bytesL (tlF l).2 := by
  unfold tlF
  split
  · exact ⟨h, fun x hx => by simp at hx⟩
  · exact ⟨fun x hx => h x (List.mem_of_mem_take hx), fun x hx => h x (List.mem_of_mem_drop hx)⟩
theorem tl_len (l : List Int) : (tlF l).1.length ≤ l.length ∧ (tlF l).2.length ≤ l.length := by
  unfold tlF
  split
  · simp
  · simp only [List.length_take, List.length_drop]
    omega
/-- the first part of a text, as a letter -/
theorem str_head (s : ByteArray) (k : Nat) (h2 : k ≤ s.size) : ∃ T : ByteArray, (∀ w, (Instr.slice 9 (.string s) none (some (.int .i64 (k : Int))) none).run Tryd.prog w = .ok (.string T) w) ∧ L T = (L s).take k ∧ T.size = k := by
  have e : L (s.extract 0 k) = (L s).take k := by rw [L_extract s 0 k h2]; simp
  refine ⟨s.extract 0 k, fun w => ?_, e, ?_⟩
  · simp [Instr.slice, Instr.sliceBounds, run_underlying Tryd.underlying9, run_sliceBound, h2]
  · rw [← L_len, e, List.length_take, L_len]; omega
theorem str_rest (s : ByteArray) (f : Nat) (h1 : f ≤ s.size) : ∃ T : ByteArray, (∀ w, (Instr.slice 9 (.string s) (some (.int .i64 (f : Int))) none none).run Tryd.prog w = .ok (.string T) w) ∧ L T = (L s).drop f ∧ T.size = s.size - f := by
  refine ⟨s.extract f s.size, fun w => ?_, L_from s f, ?_⟩
  · simp [Instr.slice, Instr.sliceBounds, run_underlying Tryd.underlying9, run_sliceBound, h1]
  · rw [← L_len, L_from, List.length_drop, L_len]
/-- an element of two cells -/
theorem slr_idx2 {α : Type} {P : Program} {R : World → List Value → α → Prop} {w : World} {v : Value} {xs : List α} (h : SlR 2 R w v xs) {t : TypeId} (ht : P.underlying t = some (.slice (P.elem t))) (hs : ∀ w, (sizeOf (P.elem t)).run P w = .ok 2 w) (i : Nat) (h1 : i < xs.length) :
    ∃ (b o : Nat) (c0 c1 : Value), (∀ w', (Instr.indexAt t v (.int .i64 (i : Int))).run P w' = .ok (.pointer (some ⟨b, o, none⟩)) w') ∧ w.cell? ⟨b, o, none⟩ = some c0 ∧ w.cell? ⟨b, o + 1, none⟩ = some c1 ∧ R w [c0, c1] xs[i] := by
  obtain ⟨rows, g1, g2, g3⟩ := h
  obtain ⟨ao, cap, rfl, hc, hn, hx⟩ := g1.form
  obtain ⟨hm, b, off, rfl, hcell⟩ := hx (by omega)
  obtain ⟨l1, l2⟩ := hcell i (by omega)
  have e0 := l2 0 (by omega)
  have e1 := l2 1 (by omega)
  have hr := g3 i h1
  match hrow : rows.getD i [], l1 with
  | [c0, c1], _ =>
    rw [hrow] at e0 e1 hr
    refine ⟨b, off + i * 2, c0, c1, fun w' => ?_, by simpa using e0, by simpa using e1, hr⟩
    rw [run_indexAt_slice (h := ht), if_pos ⟨by omega, by omega⟩, hs]
    simp only [Result.andThen, Int.toNat_natCast]
    congr 3
    unfold Addr.add
    split
    · rename_i hz; rw [hz]; rfl
    · rfl
theorem uA : Tryd.prog.underlying 32 = some (.slice (Tryd.prog.elem 32)) := by kernel_rfl
theorem eA : Tryd.prog.elem 32 = 66 := by kernel_rfl
theorem zA (w : World) : (sizeOf (Tryd.prog.elem 32)).run Tryd.prog w = .ok 2 w := by rw [eA]; exact Tryd.sizeOf66 w
theorem ali_at {w : World} {v : Value} {xs : List Al} (h : SlR 2 aliR w v xs) (i : Nat) (h1 : i < xs.length) :
    ∃ (b o : Nat) (nm pa : ByteArray), (∀ w', (Instr.indexAt 32 v (.int .i64 (i : Int))).run Tryd.prog w' = .ok (.pointer (some ⟨b, o, none⟩)) w') ∧ w.cell? ⟨b, o, none⟩ = some (.string nm) ∧ w.cell? ⟨b, o + 1, none⟩ = some (.string pa) ∧ strOfNums xs[i].1 = nm ∧ strOfNums xs[i].2 = pa := by
  obtain ⟨b, o, c0, c1, r, e0, e1, hR⟩ := slr_idx2 h uA zA i h1
  simp only [aliR, List.cons.injEq] at hR
  obtain ⟨rfl, rfl, _⟩ := hR
  exact ⟨b, o, _, _, r, e0, e1, rfl, rfl⟩
theorem find_hit (s : List Int) (al : List Al) (i : Nat) (h : i < al.length) (hp : ∀ x ∈ al.take i, ¬ x.1 = s.take (exK s)) (hi : al[i].1 = s.take (exK s)) (hh : ¬ s.head? = some 47) : expF s al = exQ s al[i].2 := by
  unfold expF
  rw [if_neg hh]
  have e : al.find? (fun x => decide (x.1 = s.take (exK s))) = some al[i] := by
    rw [List.find?_eq_some_iff_append]
    refine ⟨by simpa using hi, al.take i, al.drop (i + 1), ?_, fun x hx => by simpa using hp x hx⟩
    rw [← List.drop_eq_getElem_cons h, List.take_append_drop]
  rw [e]
theorem find_none (s : List Int) (al : List Al) (hp : ∀ x ∈ al, ¬ x.1 = s.take (exK s)) (hh : ¬ s.head? = some 47) : expF s al = ([], 2) := by
  unfold expF
  rw [if_neg hh]
  have e : al.find? (fun x => decide (x.1 = s.take (exK s))) = none := by
    rw [List.find?_eq_none]
    intro x hx
    simpa using hp x hx
  rw [e]
theorem L_appS (a b : ByteArray) : L (a ++ b) = L a ++ L b := by
  unfold L
  simp
theorem str_eqL (A B : ByteArray) : (A.toList == B.toList) = decide (L A = L B) := by
  rw [str_beq]
  congr 1
  apply propext
  constructor
  · intro h; rw [h]
  · intro h; rw [← toB_L A, ← toB_L B, h]

set_option maxHeartbeats 1000000 in
set_option maxRecDepth 100000 in
theorem w_rexpand (s : ByteArray) (v : Value) (al : List Al) (w : World) (hs : s.size ≤ maxLen) (h : SlR 2 aliR w v al) (ba : ∀ x ∈ al, bytesL x.1 ∧ bytesL x.2) (hsz : ∀ x ∈ al, x.1.length ≤ maxLen ∧ x.2.length ≤ maxLen) :
    Calls Tryd.prog 15 #[.string s, v] w fun e w' => e = .returned (.tuple #[.string (strOfNums (expF (L s) al).1), .int .i64 (expF (L s) al).2]) ∧ Below w.heap.size w w' := by
  have hs2 := hs
  unfold maxLen at hs2
  by_cases hh : (L s).head? = some 47
  · have e : expF (L s) al = (L s, 0) := by unfold expF; rw [if_pos hh]
    rw [e]
    have hs0 : 0 < s.size := by
      rcases Nat.eq_zero_or_pos s.size with g | g
      · rw [← L_len] at g
        rw [List.eq_nil_of_length_eq_zero g] at hh
        cases hh
      · exact g
    have hrun : ∀ w, (Instr.index 9 (.string s) (.int .i64 0)).run Tryd.prog w = .ok (.int .u8 47) w := by
      intro w
      have h1 := run_at (w := w) s 0 hs0 hs
      have h2 := L_drop s 0 hs0
      rw [List.drop_zero] at h2
      rw [h2] at hh
      simp at hh
      rw [hh] at h1
      exact h1
    have q1 : (s.toList == []) = false := by rw [Bool.eq_false_iff]; intro g; rw [beq_iff_eq, ByteArray.toList_eq] at g; have h9 := congrArg List.length g; rw [List.length_nil] at h9; have e9 : s.data.toList.length = s.size := (by simp); omega
    have q2 : (s.toList != []) = true := by simp [bne, q1]
    have q3 : s.toList.isEmpty = false := by rw [← q1]; cases s.toList <;> rfl
    have es : strOfNums (L s) = s := nums_LB s
    rw [es]
    clear e hh es
    go_enter Tryd.func15, Tryd.ntmps15
    go_wp2_with fail
    go_ret2
    exact ⟨rfl, Below.refl _ _⟩
  · have hla := slr_len h uA (P := Tryd.prog)
    have hma := slr_max h
    unfold maxLen at hma
    have cp1 : ∀ w, Calls Tryd.prog 21 #[.string s, .int .i64 0, .int .u8 47] w fun e w' => e = .returned (.int .i64 (pcF (L s) 0 47)) ∧ w' = w := fun w => w_place s 0 47 w hs (by omega) (by decide) (by decide)
    have cp2 : ∀ w, Calls Tryd.prog 21 #[.string s, .int .i64 0, .int .u8 58] w fun e w' => e = .returned (.int .i64 (pcF (L s) 0 58)) ∧ w' = w := fun w => w_place s 0 58 w hs (by omega) (by decide) (by decide)
    have p0 : ∀ c, pcF (L s) 0 c = (upTo c (L s)).length := fun c => by simp [pcF]
    rw [p0] at cp1 cp2
    have hkl := exK_le (L s)
    rw [L_len] at hkl
    have hk : exK (L s) = min (upTo 47 (L s)).length (upTo 58 (L s)).length := rfl
    have hit := fun i g hp hi => find_hit (L s) al i g hp hi hh
    have non := fun hp => find_none (L s) al hp hh
    obtain ⟨p1, h1⟩ : ∃ p, (upTo 47 (L s)).length = p := ⟨_, rfl⟩
    obtain ⟨p2, h2⟩ : ∃ p, (upTo 58 (L s)).length = p := ⟨_, rfl⟩
    rw [h1] at cp1 hk
    rw [h2] at cp2 hk
    obtain ⟨T, hT, hTL, hTs⟩ := str_head s (exK (L s)) hkl
    obtain ⟨Z, hZ, hZL, hZs⟩ := str_rest s (exK (L s)) hkl
    have hQ : ∀ p, exQ (L s) p = if 256 < (if (L s)[exK (L s)]? = some 58 then (tlF p).1 else p).length + Z.size then ([], 3) else ((if (L s)[exK (L s)]? = some 58 then (tlF p).1 else p) ++ L Z, 0) := fun p => by unfold exQ; rw [L_len, hZs, hZL]
    rw [← hTL] at hit non
    have hcol : (exK (L s) < s.size ∧ ∃ c : Int, (∀ w, (Instr.index 9 (.string s) (.int .i64 (exK (L s) : Int))).run Tryd.prog w = .ok (.int .u8 c) w) ∧ (L s)[exK (L s)]? = some c) ∨ (¬ exK (L s) < s.size ∧ (L s)[exK (L s)]? = none) := by
      by_cases g : exK (L s) < s.size
      · left
        refine ⟨g, (s[exK (L s)].toNat : Int), fun w => run_at s _ g hs, ?_⟩
        rw [List.getElem?_eq_getElem (by rw [L_len]; exact g), L_get s _ g]
      · right
        exact ⟨g, List.getElem?_eq_none (by rw [L_len]; omega)⟩
    obtain ⟨k, hkk⟩ : ∃ k, exK (L s) = k := ⟨_, rfl⟩
    simp only [hkk] at hk hkl hT hZ hQ hTs hZs hcol
    obtain ⟨A, E, hAE⟩ : ∃ A E, expF (L s) al = (A, E) := ⟨_, _, rfl⟩
    have HAE := hid hAE
    rw [hAE]
    show Calls _ _ _ _ fun e w' => e = .returned (.tuple #[.string (strOfNums A), .int .i64 E]) ∧ _
    have hs1 : (L s).head? = some 47 → False := hh
    have HS : (s.size = 0) ∨ (0 < s.size ∧ ∃ c : Int, (∀ w, (Instr.index 9 (.string s) (.int .i64 0)).run Tryd.prog w = .ok (.int .u8 c) w) ∧ (c == 47) = false) := by
      rcases Nat.eq_zero_or_pos s.size with g | g
      · exact Or.inl g
      · right
        refine ⟨g, (s[0].toNat : Int), fun w => run_at s 0 g hs, ?_⟩
        rw [Bool.eq_false_iff]
        intro hc
        apply hh
        have h3 := L_drop s 0 g
        rw [List.drop_zero] at h3
        rw [h3]
        simp
        simpa using hc
    have hN : ∀ i (g : i < al.length) nm, strOfNums al[i].1 = nm → (nm.toList == T.toList) = decide (al[i].1 = L T) := by
      intro i g nm e
      rw [str_eqL, ← e, show L (strOfNums al[i].1) = al[i].1 from LB_nums _ (ba _ (List.getElem_mem g)).1]
    have HP1 : s.size = 0 → p1 = 0 := by
      intro g
      have := upTo_len 47 (L s)
      rw [L_len, h1] at this
      omega
    have HN := hid hN
    have HQ := hid hQ
    have Hit := hid hit
    have Non := hid non
    have Hcol := hid hcol
    have Hkk := hid hkk
    clear hAE hh hs1 h1 h2 hN hQ hit non hcol hkk hTL hZL p0
    have hmin : k = p1 ∧ ¬ p2 < p1 ∨ k = p2 ∧ p2 < p1 := by omega
    have hp0 : s.size = 0 → p1 = 0 := HP1
    clear hk
    rcases HS with g0 | ⟨g0, c0, hr0, hc0⟩
    · have q1 : (s.toList == []) = true := by rw [beq_iff_eq, ByteArray.toList_eq]; exact List.eq_nil_of_length_eq_zero (by simpa using g0)
      have q2 : (s.toList != []) = false := by simp [bne, q1]
      have q3 : s.toList.isEmpty = true := by rw [← q1]; cases s.toList <;> rfl
      obtain rfl : k = p1 := by omega
      have hp12 : ¬ p2 < k := by omega
      have gI0 : ¬ (k : Int) < s.size := by omega
      clear g0 HP1 hp0 hmin
      go_enter Tryd.func15, Tryd.ntmps15
      go_wp2_with fail
      refine (cp1 _).mono ?_
      rintro e r1 ⟨rfl, hw1⟩
      have hw1 := hw1.symm
      subst hw1
      go_wp2_with fail
      refine (cp2 _).mono ?_
      rintro e r2 ⟨rfl, hw2⟩
      have hw2 := hw2.symm
      subst hw2
      go_wp2_with fail
      go_loopw [7] (fun I wx => ∃ (i : Nat), (i : Int) ≤ al.length ∧ I = .int .i64 i ∧ Hid (∀ x ∈ al.take i, ¬ x.1 = L T) ∧ Below w.heap.size w wx) (fun I _ => (al.length - intOf I).toNat)
      case atStart => exact ⟨0, by omega, rfl, hid (by simp), Below.refl _ _⟩
      case round =>
        obtain ⟨i, hi, rfl, hp, hb⟩ := hrel
        by_cases hlt : (i : Int) < al.length
        · have hil : i < al.length := by omega
          obtain ⟨b, o, nm, pa, r, a0, a1, e0, e1⟩ := ali_at h i hil
          have c0 := below_cell hb a0
          have c1 := below_cell hb a1
          have hq := HN.out i hil nm e0
          by_cases hm : al[i].1 = L T
          · rw [decide_eq_true hm] at hq
            have hq2 : (nm.toList != T.toList) = false := by simp [bne, hq]
            have HX : Hid (expF (L s) al = exQ (L s) al[i].2) := Hit.out i hil hp.out hm
            have hPL : L pa = al[i].2 := by rw [← e1]; exact LB_nums _ (ba _ (List.getElem_mem hil)).2
            have hPm : pa.size ≤ maxLen := by rw [← L_len, hPL]; exact (hsz _ (List.getElem_mem hil)).2
            have hP2 := hPm
            unfold maxLen at hP2
            have ct := fun w => w_rtail pa w hPm
            have htl := (tl_len (L pa)).1
            rw [L_len] at htl
            have hql := HQ.out al[i].2
            rcases Hcol.out with ⟨g, c, hr, hc⟩ | ⟨g, hc⟩
            · exfalso; omega
            · have gI : ¬ (k : Int) < s.size := by omega
              have HR : Hid (expF (L s) al = if 256 < pa.size + Z.size then ([], 3) else (L pa ++ L Z, 0)) := by show _ = _; rw [HX.out, hql, if_neg (show ¬ (L s)[k]? = some 58 by rw [hc]; simp), ← hPL, L_len]
              clear HX hPL hm e0 e1 hc hql ct
              go_wp2_with fail
              go_quiet (fail)
              by_cases y1 : (256 : Int) < pa.size
              · have e : Hid ((A, E) = ([], 3)) := by show _ = _; rw [← HAE.out, HR.out, if_pos (by omega)]
                have es : strOfNums ([] : List Int) = ⟨#[]⟩ := by decide +kernel
                go_wp2_with fail
                go_ret2
                obtain ⟨rfl, rfl⟩ := Prod.mk.inj e.out
                rw [es]
                exact ⟨rfl, below_drewN hb _⟩
              · have y2 : ¬ (256 : Int) - pa.size < (s.size : Int) - k := by omega
                have e : Hid ((A, E) = (L pa ++ L Z, 0)) := by show _ = _; rw [← HAE.out, HR.out, if_neg (by omega)]
                have es : strOfNums (L pa ++ L Z) = pa ++ Z := by rw [← L_appS]; exact nums_LB _
                go_wp2_with fail
                go_ret2
                obtain ⟨rfl, rfl⟩ := Prod.mk.inj e.out
                rw [es]
                exact ⟨rfl, below_drewN hb _⟩
          · rw [decide_eq_false hm] at hq
            have hq2 : (nm.toList != T.toList) = true := by simp [bne, hq]
            have hp2 : Hid (∀ x ∈ al.take (i + 1), ¬ x.1 = L T) := by
              show ∀ x ∈ _, _
              intro x hx
              rw [List.take_succ_eq_append_getElem hil, List.mem_append] at hx
              rcases hx with hx | hx
              · exact hp.out x hx
              · simp at hx; subst hx; exact hm
            clear hm e0 e1
            go_wp2_with fail
            go_quiet (fail)
            go_wp2_with fail
            go_roundw
            case rel => exact ⟨i + 1, by omega, by go_num, hp2, below_drewN hb _⟩
            case measure => simp [intOf]; omega
        · have e : Hid ((A, E) = ([], 2)) := by show _ = _; rw [← HAE.out]; refine Non.out ?_; have := hp.out; rwa [List.take_of_length_le (by omega)] at this
          have es : strOfNums ([] : List Int) = ⟨#[]⟩ := by decide +kernel
          go_wp2_with fail
          go_ret2
          obtain ⟨rfl, rfl⟩ := Prod.mk.inj e.out
          rw [es]
          exact ⟨rfl, hb⟩
    · have q1 : (s.toList == []) = false := by rw [Bool.eq_false_iff]; intro g; rw [beq_iff_eq, ByteArray.toList_eq] at g; have h9 := congrArg List.length g; rw [List.length_nil] at h9; have e9 : s.data.toList.length = s.size := (by simp); omega
      have q2 : (s.toList != []) = true := by simp [bne, q1]
      have q3 : s.toList.isEmpty = false := by rw [← q1]; cases s.toList <;> rfl
      by_cases hp12 : p2 < p1
      · obtain rfl : k = p2 := by omega
        go_enter Tryd.func15, Tryd.ntmps15
        go_wp2_with fail
        refine (cp1 _).mono ?_
        rintro e r1 ⟨rfl, hw1⟩
        have hw1 := hw1.symm
        subst hw1
        go_wp2_with fail
        refine (cp2 _).mono ?_
        rintro e r2 ⟨rfl, hw2⟩
        have hw2 := hw2.symm
        subst hw2
        go_wp2_with fail
        go_loopw [7] (fun I wx => ∃ (i : Nat), (i : Int) ≤ al.length ∧ I = .int .i64 i ∧ Hid (∀ x ∈ al.take i, ¬ x.1 = L T) ∧ Below w.heap.size w wx) (fun I _ => (al.length - intOf I).toNat)
        case atStart => exact ⟨0, by omega, rfl, hid (by simp), Below.refl _ _⟩
        case round =>
          obtain ⟨i, hi, rfl, hp, hb⟩ := hrel
          by_cases hlt : (i : Int) < al.length
          · have hil : i < al.length := by omega
            obtain ⟨b, o, nm, pa, r, a0, a1, e0, e1⟩ := ali_at h i hil
            have c0 := below_cell hb a0
            have c1 := below_cell hb a1
            have hq := HN.out i hil nm e0
            by_cases hm : al[i].1 = L T
            · rw [decide_eq_true hm] at hq
              have hq2 : (nm.toList != T.toList) = false := by simp [bne, hq]
              have HX : Hid (expF (L s) al = exQ (L s) al[i].2) := Hit.out i hil hp.out hm
              have hPL : L pa = al[i].2 := by rw [← e1]; exact LB_nums _ (ba _ (List.getElem_mem hil)).2
              have hPm : pa.size ≤ maxLen := by rw [← L_len, hPL]; exact (hsz _ (List.getElem_mem hil)).2
              have hP2 := hPm
              unfold maxLen at hP2
              have ct := fun w => w_rtail pa w hPm
              have htl := (tl_len (L pa)).1
              rw [L_len] at htl
              have hql := HQ.out al[i].2
              rcases Hcol.out with ⟨g, c, hr, hc⟩ | ⟨g, hc⟩
              · have gI : (k : Int) < s.size := by omega
                by_cases h58 : c = 58
                · subst h58
                  have HR0 : Hid (expF (L s) al = if 256 < (tlF (L pa)).1.length + Z.size then ([], 3) else ((tlF (L pa)).1 ++ L Z, 0)) := by show _ = _; rw [HX.out, hql, if_pos hc, hPL]
                  clear HX hPL hm e0 e1 hc hql
                  go_wp2_with fail
                  go_quiet (fail)
                  go_wp2_with (go_at_call 17; refine (ct _).mono ?_; rintro e w1 ⟨A1, B1, rfl, hA1, hB1, b1⟩; refine Hid.out ?_)
                  have HR : Hid (expF (L s) al = if 256 < A1.size + Z.size then ([], 3) else (L A1 ++ L Z, 0)) := by show _ = _; rw [HR0.out, ← hA1, L_len]
                  have hA1s : A1.size ≤ pa.size := by rw [← L_len, hA1]; exact htl
                  have hbb := below_trans (show Below w.heap.size w _ from below_drewN hb _) b1
                  clear hA1 hB1
                  refine hid ?_
                  by_cases y1 : (256 : Int) < A1.size
                  · have e : Hid ((A, E) = ([], 3)) := by show _ = _; rw [← HAE.out, HR.out, if_pos (by omega)]
                    have es : strOfNums ([] : List Int) = ⟨#[]⟩ := by decide +kernel
                    go_wp2_with fail
                    go_ret2
                    obtain ⟨rfl, rfl⟩ := Prod.mk.inj e.out
                    rw [es]
                    exact ⟨rfl, hbb⟩
                  · by_cases y2 : (256 : Int) - A1.size < (s.size : Int) - k
                    · have e : Hid ((A, E) = ([], 3)) := by show _ = _; rw [← HAE.out, HR.out, if_pos (by omega)]
                      have es : strOfNums ([] : List Int) = ⟨#[]⟩ := by decide +kernel
                      go_wp2_with fail
                      go_ret2
                      obtain ⟨rfl, rfl⟩ := Prod.mk.inj e.out
                      rw [es]
                      exact ⟨rfl, hbb⟩
                    · have e : Hid ((A, E) = (L A1 ++ L Z, 0)) := by show _ = _; rw [← HAE.out, HR.out, if_neg (by omega)]
                      have es : strOfNums (L A1 ++ L Z) = A1 ++ Z := by rw [← L_appS]; exact nums_LB _
                      go_wp2_with fail
                      go_ret2
                      obtain ⟨rfl, rfl⟩ := Prod.mk.inj e.out
                      rw [es]
                      exact ⟨rfl, hbb⟩
                · have HR : Hid (expF (L s) al = if 256 < pa.size + Z.size then ([], 3) else (L pa ++ L Z, 0)) := by show _ = _; rw [HX.out, hql, if_neg (show ¬ (L s)[k]? = some 58 by rw [hc]; simpa using h58), ← hPL, L_len]
                  have h58b : (c == 58) = false := by simpa using h58
                  clear HX hPL hm e0 e1 hc hql h58 ct
                  go_wp2_with fail
                  go_quiet (fail)
                  by_cases y1 : (256 : Int) < pa.size
                  · have e : Hid ((A, E) = ([], 3)) := by show _ = _; rw [← HAE.out, HR.out, if_pos (by omega)]
                    have es : strOfNums ([] : List Int) = ⟨#[]⟩ := by decide +kernel
                    go_wp2_with fail
                    go_ret2
                    obtain ⟨rfl, rfl⟩ := Prod.mk.inj e.out
                    rw [es]
                    exact ⟨rfl, below_drewN hb _⟩
                  · by_cases y2 : (256 : Int) - pa.size < (s.size : Int) - k
                    · have e : Hid ((A, E) = ([], 3)) := by show _ = _; rw [← HAE.out, HR.out, if_pos (by omega)]
                      have es : strOfNums ([] : List Int) = ⟨#[]⟩ := by decide +kernel
                      go_wp2_with fail
                      go_ret2
                      obtain ⟨rfl, rfl⟩ := Prod.mk.inj e.out
                      rw [es]
                      exact ⟨rfl, below_drewN hb _⟩
                    · have e : Hid ((A, E) = (L pa ++ L Z, 0)) := by show _ = _; rw [← HAE.out, HR.out, if_neg (by omega)]
                      have es : strOfNums (L pa ++ L Z) = pa ++ Z := by rw [← L_appS]; exact nums_LB _
                      go_wp2_with fail
                      go_ret2
                      obtain ⟨rfl, rfl⟩ := Prod.mk.inj e.out
                      rw [es]
                      exact ⟨rfl, below_drewN hb _⟩
              · have gI : ¬ (k : Int) < s.size := by omega
                have HR : Hid (expF (L s) al = if 256 < pa.size + Z.size then ([], 3) else (L pa ++ L Z, 0)) := by show _ = _; rw [HX.out, hql, if_neg (show ¬ (L s)[k]? = some 58 by rw [hc]; simp), ← hPL, L_len]
                clear HX hPL hm e0 e1 hc hql ct
                go_wp2_with fail
                go_quiet (fail)
                by_cases y1 : (256 : Int) < pa.size
                · have e : Hid ((A, E) = ([], 3)) := by show _ = _; rw [← HAE.out, HR.out, if_pos (by omega)]
                  have es : strOfNums ([] : List Int) = ⟨#[]⟩ := by decide +kernel
                  go_wp2_with fail
                  go_ret2
                  obtain ⟨rfl, rfl⟩ := Prod.mk.inj e.out
                  rw [es]
                  exact ⟨rfl, below_drewN hb _⟩
                · have y2 : ¬ (256 : Int) - pa.size < (s.size : Int) - k := by omega
                  have e : Hid ((A, E) = (L pa ++ L Z, 0)) := by show _ = _; rw [← HAE.out, HR.out, if_neg (by omega)]
                  have es : strOfNums (L pa ++ L Z) = pa ++ Z := by rw [← L_appS]; exact nums_LB _
                  go_wp2_with fail
                  go_ret2
                  obtain ⟨rfl, rfl⟩ := Prod.mk.inj e.out
                  rw [es]
                  exact ⟨rfl, below_drewN hb _⟩
            · rw [decide_eq_false hm] at hq
              have hq2 : (nm.toList != T.toList) = true := by simp [bne, hq]
              have hp2 : Hid (∀ x ∈ al.take (i + 1), ¬ x.1 = L T) := by
                show ∀ x ∈ _, _
                intro x hx
                rw [List.take_succ_eq_append_getElem hil, List.mem_append] at hx
                rcases hx with hx | hx
                · exact hp.out x hx
                · simp at hx; subst hx; exact hm
              clear hm e0 e1
              go_wp2_with fail
              go_quiet (fail)
              go_wp2_with fail
              go_roundw
              case rel => exact ⟨i + 1, by omega, by go_num, hp2, below_drewN hb _⟩
              case measure => simp [intOf]; omega
          · have e : Hid ((A, E) = ([], 2)) := by show _ = _; rw [← HAE.out]; refine Non.out ?_; have := hp.out; rwa [List.take_of_length_le (by omega)] at this
            have es : strOfNums ([] : List Int) = ⟨#[]⟩ := by decide +kernel
            go_wp2_with fail
            go_ret2
            obtain ⟨rfl, rfl⟩ := Prod.mk.inj e.out
            rw [es]
            exact ⟨rfl, hb⟩
      · obtain rfl : k = p1 := by omega
        go_enter Tryd.func15, Tryd.ntmps15
        go_wp2_with fail
        refine (cp1 _).mono ?_
        rintro e r1 ⟨rfl, hw1⟩
        have hw1 := hw1.symm
        subst hw1
        go_wp2_with fail
        refine (cp2 _).mono ?_
        rintro e r2 ⟨rfl, hw2⟩
        have hw2 := hw2.symm
        subst hw2
        go_wp2_with fail
        go_loopw [7] (fun I wx => ∃ (i : Nat), (i : Int) ≤ al.length ∧ I = .int .i64 i ∧ Hid (∀ x ∈ al.take i, ¬ x.1 = L T) ∧ Below w.heap.size w wx) (fun I _ => (al.length - intOf I).toNat)
        case atStart => exact ⟨0, by omega, rfl, hid (by simp), Below.refl _ _⟩
        case round =>
          obtain ⟨i, hi, rfl, hp, hb⟩ := hrel
          by_cases hlt : (i : Int) < al.length
          · have hil : i < al.length := by omega
            obtain ⟨b, o, nm, pa, r, a0, a1, e0, e1⟩ := ali_at h i hil
            have c0 := below_cell hb a0
            have c1 := below_cell hb a1
            have hq := HN.out i hil nm e0
            by_cases hm : al[i].1 = L T
            · rw [decide_eq_true hm] at hq
              have hq2 : (nm.toList != T.toList) = false := by simp [bne, hq]
              have HX : Hid (expF (L s) al = exQ (L s) al[i].2) := Hit.out i hil hp.out hm
              have hPL : L pa = al[i].2 := by rw [← e1]; exact LB_nums _ (ba _ (List.getElem_mem hil)).2
              have hPm : pa.size ≤ maxLen := by rw [← L_len, hPL]; exact (hsz _ (List.getElem_mem hil)).2
              have hP2 := hPm
              unfold maxLen at hP2
              have ct := fun w => w_rtail pa w hPm
              have htl := (tl_len (L pa)).1
              rw [L_len] at htl
              have hql := HQ.out al[i].2
              rcases Hcol.out with ⟨g, c, hr, hc⟩ | ⟨g, hc⟩
              · have gI : (k : Int) < s.size := by omega
                by_cases h58 : c = 58
                · subst h58
                  have HR0 : Hid (expF (L s) al = if 256 < (tlF (L pa)).1.length + Z.size then ([], 3) else ((tlF (L pa)).1 ++ L Z, 0)) := by show _ = _; rw [HX.out, hql, if_pos hc, hPL]
                  clear HX hPL hm e0 e1 hc hql
                  go_wp2_with fail
                  go_quiet (fail)
                  go_wp2_with (go_at_call 17; refine (ct _).mono ?_; rintro e w1 ⟨A1, B1, rfl, hA1, hB1, b1⟩; refine Hid.out ?_)
                  have HR : Hid (expF (L s) al = if 256 < A1.size + Z.size then ([], 3) else (L A1 ++ L Z, 0)) := by show _ = _; rw [HR0.out, ← hA1, L_len]
                  have hA1s : A1.size ≤ pa.size := by rw [← L_len, hA1]; exact htl
                  have hbb := below_trans (show Below w.heap.size w _ from below_drewN hb _) b1
                  clear hA1 hB1
                  refine hid ?_
                  by_cases y1 : (256 : Int) < A1.size
                  · have e : Hid ((A, E) = ([], 3)) := by show _ = _; rw [← HAE.out, HR.out, if_pos (by omega)]
                    have es : strOfNums ([] : List Int) = ⟨#[]⟩ := by decide +kernel
                    go_wp2_with fail
                    go_ret2
                    obtain ⟨rfl, rfl⟩ := Prod.mk.inj e.out
                    rw [es]
                    exact ⟨rfl, hbb⟩
                  · by_cases y2 : (256 : Int) - A1.size < (s.size : Int) - k
                    · have e : Hid ((A, E) = ([], 3)) := by show _ = _; rw [← HAE.out, HR.out, if_pos (by omega)]
                      have es : strOfNums ([] : List Int) = ⟨#[]⟩ := by decide +kernel
                      go_wp2_with fail
                      go_ret2
                      obtain ⟨rfl, rfl⟩ := Prod.mk.inj e.out
                      rw [es]
                      exact ⟨rfl, hbb⟩
                    · have e : Hid ((A, E) = (L A1 ++ L Z, 0)) := by show _ = _; rw [← HAE.out, HR.out, if_neg (by omega)]
                      have es : strOfNums (L A1 ++ L Z) = A1 ++ Z := by rw [← L_appS]; exact nums_LB _
                      go_wp2_with fail
                      go_ret2
                      obtain ⟨rfl, rfl⟩ := Prod.mk.inj e.out
                      rw [es]
                      exact ⟨rfl, hbb⟩
                · have HR : Hid (expF (L s) al = if 256 < pa.size + Z.size then ([], 3) else (L pa ++ L Z, 0)) := by show _ = _; rw [HX.out, hql, if_neg (show ¬ (L s)[k]? = some 58 by rw [hc]; simpa using h58), ← hPL, L_len]
                  have h58b : (c == 58) = false := by simpa using h58
                  clear HX hPL hm e0 e1 hc hql h58 ct
                  go_wp2_with fail
                  go_quiet (fail)
                  by_cases y1 : (256 : Int) < pa.size
                  · have e : Hid ((A, E) = ([], 3)) := by show _ = _; rw [← HAE.out, HR.out, if_pos (by omega)]
                    have es : strOfNums ([] : List Int) = ⟨#[]⟩ := by decide +kernel
                    go_wp2_with fail
                    go_ret2
                    obtain ⟨rfl, rfl⟩ := Prod.mk.inj e.out
                    rw [es]
                    exact ⟨rfl, below_drewN hb _⟩
                  · by_cases y2 : (256 : Int) - pa.size < (s.size : Int) - k
                    · have e : Hid ((A, E) = ([], 3)) := by show _ = _; rw [← HAE.out, HR.out, if_pos (by omega)]
                      have es : strOfNums ([] : List Int) = ⟨#[]⟩ := by decide +kernel
                      go_wp2_with fail
                      go_ret2
                      obtain ⟨rfl, rfl⟩ := Prod.mk.inj e.out
                      rw [es]
                      exact ⟨rfl, below_drewN hb _⟩
                    · have e : Hid ((A, E) = (L pa ++ L Z, 0)) := by show _ = _; rw [← HAE.out, HR.out, if_neg (by omega)]
                      have es : strOfNums (L pa ++ L Z) = pa ++ Z := by rw [← L_appS]; exact nums_LB _
                      go_wp2_with fail
                      go_ret2
                      obtain ⟨rfl, rfl⟩ := Prod.mk.inj e.out
                      rw [es]
                      exact ⟨rfl, below_drewN hb _⟩
              · have gI : ¬ (k : Int) < s.size := by omega
                have HR : Hid (expF (L s) al = if 256 < pa.size + Z.size then ([], 3) else (L pa ++ L Z, 0)) := by show _ = _; rw [HX.out, hql, if_neg (show ¬ (L s)[k]? = some 58 by rw [hc]; simp), ← hPL, L_len]
                clear HX hPL hm e0 e1 hc hql ct
                go_wp2_with fail
                go_quiet (fail)
                by_cases y1 : (256 : Int) < pa.size
                · have e : Hid ((A, E) = ([], 3)) := by show _ = _; rw [← HAE.out, HR.out, if_pos (by omega)]
                  have es : strOfNums ([] : List Int) = ⟨#[]⟩ := by decide +kernel
                  go_wp2_with fail
                  go_ret2
                  obtain ⟨rfl, rfl⟩ := Prod.mk.inj e.out
                  rw [es]
                  exact ⟨rfl, below_drewN hb _⟩
                · have y2 : ¬ (256 : Int) - pa.size < (s.size : Int) - k := by omega
                  have e : Hid ((A, E) = (L pa ++ L Z, 0)) := by show _ = _; rw [← HAE.out, HR.out, if_neg (by omega)]
                  have es : strOfNums (L pa ++ L Z) = pa ++ Z := by rw [← L_appS]; exact nums_LB _
                  go_wp2_with fail
                  go_ret2
                  obtain ⟨rfl, rfl⟩ := Prod.mk.inj e.out
                  rw [es]
                  exact ⟨rfl, below_drewN hb _⟩
            · rw [decide_eq_false hm] at hq
              have hq2 : (nm.toList != T.toList) = true := by simp [bne, hq]
              have hp2 : Hid (∀ x ∈ al.take (i + 1), ¬ x.1 = L T) := by
                show ∀ x ∈ _, _
                intro x hx
                rw [List.take_succ_eq_append_getElem hil, List.mem_append] at hx
                rcases hx with hx | hx
                · exact hp.out x hx
                · simp at hx; subst hx; exact hm
              clear hm e0 e1
              go_wp2_with fail
              go_quiet (fail)
              go_wp2_with fail
              go_roundw
              case rel => exact ⟨i + 1, by omega, by go_num, hp2, below_drewN hb _⟩
              case measure => simp [intOf]; omega
          · have e : Hid ((A, E) = ([], 2)) := by show _ = _; rw [← HAE.out]; refine Non.out ?_; have := hp.out; rwa [List.take_of_length_le (by omega)] at this
            have es : strOfNums ([] : List Int) = ⟨#[]⟩ := by decide +kernel
            go_wp2_with fail
            go_ret2
            obtain ⟨rfl, rfl⟩ := Prod.mk.inj e.out
            rw [es]
            exact ⟨rfl, hb⟩
end Go.Proofs.YtmjgiaomijghoaaDoor
