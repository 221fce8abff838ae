/-
  Texts of one proof, laid one behind the other: Seq Rd2 Rd3.
-/
import Derived.Test.YtfljcfpcokimcaaB15
import Derived.Test.YtfljcfpcokimcaaProg
import Derived.WalkKit
import Derived.Laws.StructEq
import Derived.ChangeKeysEq
namespace Go.Proofs.Ytfljcfpcokimcaa
open Go.ChangeShapes Go.WideShapes Go.ChangeAt Go.RowKit
set_option linter.unusedVariables false
set_option linter.unusedSimpArgs false

/-
  Equality of structs of two fields of one cell each, as one step of the model runs it.
-/
theorem equalIn_st2 {P : Program} (w : World) {t a b : TypeId} {s0 s1 : String} (ht : P.underlying t = some (.struct (P.fieldsOf t))) (hp : P.stoodInHeld t = false) (hf : (P.fieldsOf t).toList.map (fun f => (f.name, f.type, f.offset)) = [(s0, a, 0), (s1, b, 1)]) (h0 : s0 ≠ "_") (h1 : s1 ≠ "_")
    (p0 : P.plainKey a = true) (p1 : P.plainKey b = true) {x0 x1 y0 y1 : Value} {c0 c1 : Bool} (e0 : ∀ w, (Op.equalIn 9999 a x0 y0).run P w = .ok c0 w) (e1 : ∀ w, (Op.equalIn 9999 b x1 y1).run P w = .ok c1 w) :
    (Op.equalIn 10000 t (.agg #[x0, x1]) (.agg #[y0, y1])).run P w = .ok (c0 && c1) w := by
  rw [show (10000 : Nat) = 9999 + 1 from rfl, run_equalIn_struct w 9999 t _ _ ht hp]
  obtain ⟨f0, f1, hfs⟩ : ∃ f0 f1, (P.fieldsOf t).toList = [f0, f1] := by
    have hl := congrArg List.length hf
    simp only [List.length_map] at hl
    generalize (P.fieldsOf t).toList = l at hl
    match l, hl with
    | [f0, f1], _ => exact ⟨f0, f1, rfl⟩
  rw [hfs] at hf ⊢
  simp only [List.map_cons, List.map_nil, List.cons.injEq, Prod.mk.injEq, and_true] at hf
  obtain ⟨⟨n0, t0, o0⟩, n1, t1, o1⟩ := hf
  have r0 : ∀ w, (part a #[x0, x1] 0).run P w = .ok x0 w := fun w => run_part_plain w p0 rfl
  have r1 : ∀ w, (part a #[y0, y1] 0).run P w = .ok y0 w := fun w => run_part_plain w p0 rfl
  have r2 : ∀ w, (part b #[x0, x1] 1).run P w = .ok x1 w := fun w => run_part_plain w p1 rfl
  have r3 : ∀ w, (part b #[y0, y1] 1).run P w = .ok y1 w := fun w => run_part_plain w p1 rfl
  simp only [Op.eqFields, n0, n1, t0, t1, o0, o1, h0, h1, ne_eq, not_false_eq_true, if_true, Sem.run_bind, r0, r1, Result.andThen_ok, e0]
  cases c0
  · simp
  · simp only [Bool.not_true, Bool.false_eq_true, if_false, Sem.run_bind, r2, r3, Result.andThen_ok, e1]
    cases c1 <;> simp

/-
  SameWord and SameInst of the document's answer.
-/
theorem neq_op (w : World) (A B C D : Int) : (binOp .neq 78 (.agg #[.int .i64 A, .int .u32 B]) (.agg #[.int .i64 C, .int .u32 D])).run Try.prog w = .ok (.bool (!(A == C && B == D))) w := by
  rw [run_neq_struct, equalIn_st2 (a := 3) (b := 28) (s0 := "Kind") (s1 := "N") w (by kernel_rfl) (by kernel_rfl) (by kernel_rfl) (by decide) (by decide) (by kernel_rfl) (by kernel_rfl) (fun w => run_equalIn_int w 9998 3 .i64 .i64 A C Try.underlying3) (fun w => run_equalIn_int w 9998 28 .u32 .u32 B D Try.underlying28)]
  rfl
theorem grd_op : Try.prog.eqGuardType Try.prog.depth 78 = false := by kernel_rfl

def eqW (x y : Wd) : Bool := decide (x = y)
theorem wd_ext (x y : Wd) (h1 : x.1 = y.1) (h2 : x.2.1 = y.2.1) (h3 : x.2.2.1 = y.2.2.1) (h4 : x.2.2.2.1 = y.2.2.2.1) (h5 : x.2.2.2.2 = y.2.2.2.2) : x = y := Prod.ext h1 (Prod.ext h2 (Prod.ext h3 (Prod.ext h4 h5)))

set_option maxHeartbeats 4000000 in
set_option maxRecDepth 100000 in
theorem w_r9word (x y : Wd) (n1 n2 : ByteArray) (v1 v2 : Value) (w : World) (e1 : strOfNums x.1 = n1) (e2 : strOfNums y.1 = n2) (hc1 : RdO w v1 x.2.2.2.2) (hc2 : RdO w v2 y.2.2.2.2) (bx : bytesL x.1) (by' : bytesL y.1) :
    Calls Try.prog 49 #[.agg #[.string n1, .int .i64 x.2.1, .int .i64 x.2.2.1, .int .u32 x.2.2.2.1, v1], .agg #[.string n2, .int .i64 y.2.1, .int .i64 y.2.2.1, .int .u32 y.2.2.2.1, v2]] w fun e w' => e = .returned (.bool (eqW x y)) ∧ Below w.heap.size w w' := by
  obtain ⟨a1, q1, rfl⟩ := slr_slice hc1
  obtain ⟨a2, q2, rfl⟩ := slr_slice hc2
  have hm1 := slr_max hc1
  unfold maxLen at hm1
  have hN := str_eq8 n1 n2 _ _ bx by' e1 e2
  have yes : x = y → Hid (eqW x y = true) := fun h => decide_eq_true h
  have no : ¬ x = y → Hid (eqW x y = false) := fun h => decide_eq_false h
  have ext := wd_ext x y
  obtain ⟨x1, x2, x3, x4, x5⟩ := x
  obtain ⟨y1, y2, y3, y4, y5⟩ := y
  obtain ⟨R, hR⟩ : ∃ R, eqW (x1, x2, x3, x4, x5) (y1, y2, y3, y4, y5) = R := ⟨_, rfl⟩
  rw [hR]
  simp only [hR] at yes no
  simp only at hc1 hc2 hm1 hN ext e1 e2 bx by' ⊢
  obtain ⟨s1, s2, bw⟩ := two_boxes w #[.string n1, .int .i64 x2, .int .i64 x3, .int .u32 x4, .slice a1 x5.length q1] #[.string n2, .int .i64 y2, .int .i64 y3, .int .u32 y4, .slice a2 y5.length q2] 51
  have f0 := s1.cell 0 _ rfl
  have f1 := s1.cell 1 _ rfl
  have f2 := s1.cell 2 _ rfl
  have f3 := s1.cell 3 _ rfl
  have f4 := s1.cell 4 _ rfl
  have g0 := s2.cell 0 _ rfl
  have g1 := s2.cell 1 _ rfl
  have g2 := s2.cell 2 _ rfl
  have g3 := s2.cell 3 _ rfl
  have g4 := s2.cell 4 _ rfl
  clear hR e1 e2
  by_cases h1 : x1 = y1
  · rw [decide_eq_true h1] at hN
    have hN2 : (n1.toList != n2.toList) = false := by simp [bne, hN]
    by_cases h2 : x2 = y2
    · have k2 : (x2 != y2) = false := by simp [h2]
      by_cases h3 : x3 = y3
      · have k3 : (x3 != y3) = false := by simp [h3]
        by_cases h4 : x4 = y4
        · have k4 : (x4 != y4) = false := by simp [h4]
          by_cases h5 : x5.length = y5.length
          · have k5 : ((x5.length : Int) != (y5.length : Int)) = false := by simp [h5]
            have HL := hid h5
            have Yes := hid (fun h => yes (ext h1 h2 h3 h4 h))
            have No := hid (fun (h : ¬ x5 = y5) => no (fun g => h (by cases g; rfl)))
            clear yes no ext h1 h2 h3 h4 h5
            go_enter Try.func49, Try.ntmps49
            go_wp2_with fail
            go_loopw [5] (fun I wx => ∃ k : Nat, (k : Int) ≤ x5.length ∧ I = .int .i64 k ∧ Hid (x5.take k = y5.take k) ∧ Below ((w.alloc (.cells #[.string n1, .int .i64 x2, .int .i64 x3, .int .u32 x4, .slice a1 x5.length q1] 51)).alloc (.cells #[.string n2, .int .i64 y2, .int .i64 y3, .int .u32 y4, .slice a2 y5.length q2] 51)).heap.size ((w.alloc (.cells #[.string n1, .int .i64 x2, .int .i64 x3, .int .u32 x4, .slice a1 x5.length q1] 51)).alloc (.cells #[.string n2, .int .i64 y2, .int .i64 y3, .int .u32 y4, .slice a2 y5.length q2] 51)) wx) (fun I _ => (x5.length - intOf I).toNat)
            case atStart => exact ⟨0, by omega, rfl, hid (by simp), Below.refl _ _⟩
            case round =>
              obtain ⟨k, hk, rfl, ht, hg⟩ := hrel
              have t1 := (s1.below hg).cell 4 _ rfl
              have t2 := (s2.below hg).cell 4 _ rfl
              have bwk := below_trans bw hg
              by_cases hlt : (k : Int) < x5.length
              · have hka : k < x5.length := by omega
                have hkb : k < y5.length := by have := HL.out; omega
                obtain ⟨b1, o1, i1, j0, j1⟩ := op_at (RdO.below hc1 bwk) k hka
                obtain ⟨b2, o2, i2, l0, l1⟩ := op_at (RdO.below hc2 bwk) k hkb
                obtain ⟨A, hA⟩ : ∃ A, x5[k].1 = A := ⟨_, rfl⟩
                obtain ⟨B, hB⟩ : ∃ A, x5[k].2 = A := ⟨_, rfl⟩
                obtain ⟨C, hC⟩ : ∃ A, y5[k].1 = A := ⟨_, rfl⟩
                obtain ⟨D, hD⟩ : ∃ A, y5[k].2 = A := ⟨_, rfl⟩
                rw [hA] at j0
                rw [hB] at j1
                rw [hC] at l0
                rw [hD] at l1
                have hq := fun w => neq_op w A B C D
                have hgd := grd_op
                by_cases hAC : A = C ∧ B = D
                · have ht2 : Hid (x5.take (k + 1) = y5.take (k + 1)) := by
                    show _ = _
                    rw [List.take_succ_eq_append_getElem hka, List.take_succ_eq_append_getElem hkb, ht.out, show x5[k] = y5[k] from Prod.ext (by rw [hA, hC]; exact hAC.1) (by rw [hB, hD]; exact hAC.2)]
                  have hq2 : (!(A == C && B == D)) = false := by simp [hAC.1, hAC.2]
                  simp only [hq2] at hq
                  clear hA hB hC hD hAC ht hq2
                  go_wp2_with fail
                  go_quiet (fail)
                  go_wp2_with fail
                  go_roundw
                  case rel => exact ⟨k + 1, by omega, by go_num, ht2, below_drewN hg _⟩
                  case measure => simp [intOf]; omega
                · have hf := No.out (fun h => hAC (by subst h; exact ⟨by rw [← hA, ← hC], by rw [← hB, ← hD]⟩))
                  have hq2 : (!(A == C && B == D)) = true := by
                    simp only [Bool.not_eq_true', Bool.and_eq_false_iff, beq_eq_false_iff_ne]
                    omega
                  simp only [hq2] at hq
                  clear hA hB hC hD hAC ht hq2
                  go_wp2_with fail
                  go_quiet (fail)
                  go_wp2_with fail
                  go_ret
                  exact ⟨ret_b hf.out.symm, below_trans bw (below_drewN hg _)⟩
              · have hf := Yes.out (by
                  have h1 : x5.take k = x5 := List.take_of_length_le (by omega)
                  have h2 : y5.take k = y5 := List.take_of_length_le (by have := HL.out; omega)
                  have := ht.out
                  rw [h1, h2] at this
                  exact this)
                go_wp2_with fail
                go_ret
                exact ⟨ret_b hf.out.symm, bwk⟩
          · have k5 : ((x5.length : Int) != (y5.length : Int)) = true := by simp; omega
            have hf := no (fun g => h5 (by cases g; rfl))
            clear yes no ext h1 h2 h3 h4 h5
            go_enter Try.func49, Try.ntmps49
            go_wp2_with fail
            go_ret
            exact ⟨ret_b hf.out.symm, bw⟩
        · have k4 : (x4 != y4) = true := by simpa using h4
          have hf := no (fun g => h4 (by cases g; rfl))
          clear yes no ext h1 h2 h3 h4
          go_enter Try.func49, Try.ntmps49
          go_wp2_with fail
          go_ret
          exact ⟨ret_b hf.out.symm, bw⟩
      · have k3 : (x3 != y3) = true := by simpa using h3
        have hf := no (fun g => h3 (by cases g; rfl))
        clear yes no ext h1 h2 h3
        go_enter Try.func49, Try.ntmps49
        go_wp2_with fail
        go_ret
        exact ⟨ret_b hf.out.symm, bw⟩
    · have k2 : (x2 != y2) = true := by simpa using h2
      have hf := no (fun g => h2 (by cases g; rfl))
      clear yes no ext h1 h2
      go_enter Try.func49, Try.ntmps49
      go_wp2_with fail
      go_ret
      exact ⟨ret_b hf.out.symm, bw⟩
  · rw [decide_eq_false h1] at hN
    have hN2 : (n1.toList != n2.toList) = true := by simp [bne, hN]
    have hf := no (fun g => h1 (by cases g; rfl))
    clear yes no ext h1
    go_enter Try.func49, Try.ntmps49
    go_wp2_with fail
    go_ret
    exact ⟨ret_b hf.out.symm, bw⟩

/-
  SameInst of the document's answer.
-/
def eqI (x y : Iz) : Bool := decide (x = y)
theorem iz_ext (x y : Iz) (h1 : x.1 = y.1) (h2 : x.2.1 = y.2.1) (h3 : x.2.2.1 = y.2.2.1) (h4 : x.2.2.2 = y.2.2.2) : x = y := Prod.ext h1 (Prod.ext h2 (Prod.ext h3 h4))

set_option maxHeartbeats 4000000 in
set_option maxRecDepth 100000 in
theorem w_r9inst (x y : Iz) (n1 n2 : ByteArray) (v1 v2 : Value) (w : World) (e1 : strOfNums x.2.2.1 = n1) (e2 : strOfNums y.2.2.1 = n2) (hc1 : Rd .u32 w v1 x.2.2.2) (hc2 : Rd .u32 w v2 y.2.2.2) (bx : bytesL x.2.2.1) (by' : bytesL y.2.2.1) :
    Calls Try.prog 68 #[.agg #[.int .i64 x.1, .int .i64 x.2.1, .string n1, v1], .agg #[.int .i64 y.1, .int .i64 y.2.1, .string n2, v2]] w fun e w' => e = .returned (.bool (eqI x y)) ∧ Below w.heap.size w w' := by
  have hN := str_eq8 n1 n2 _ _ bx by' e1 e2
  have yes : x = y → Hid (eqI x y = true) := fun h => decide_eq_true h
  have no : ¬ x = y → Hid (eqI x y = false) := fun h => decide_eq_false h
  have ext := iz_ext x y
  obtain ⟨x1, x2, x3, x4⟩ := x
  obtain ⟨y1, y2, y3, y4⟩ := y
  obtain ⟨R, hR⟩ : ∃ R, eqI (x1, x2, x3, x4) (y1, y2, y3, y4) = R := ⟨_, rfl⟩
  rw [hR]
  simp only [hR] at yes no
  simp only at hc1 hc2 hN ext e1 e2 bx by' ⊢
  obtain ⟨s1, s2, bw⟩ := two_boxes w #[.int .i64 x1, .int .i64 x2, .string n1, v1] #[.int .i64 y1, .int .i64 y2, .string n2, v2] 83
  have f0 := s1.cell 0 _ rfl
  have f1 := s1.cell 1 _ rfl
  have f2 := s1.cell 2 _ rfl
  have f3 := s1.cell 3 _ rfl
  have g0 := s2.cell 0 _ rfl
  have g1 := s2.cell 1 _ rfl
  have g2 := s2.cell 2 _ rfl
  have g3 := s2.cell 3 _ rfl
  have cu := w_r3sameQ _ _ _ _ _ (hc1.below bw) (hc2.below bw)
  clear hR e1 e2
  by_cases h1 : x1 = y1
  · have k1 : (x1 == y1) = true := by simp [h1]
    by_cases h2 : x2 = y2
    · have k2 : (x2 == y2) = true := by simp [h2]
      by_cases h3 : x3 = y3
      · rw [decide_eq_true h3] at hN
        by_cases h4 : x4 = y4
        · rw [decide_eq_true h4] at cu
          have hf := yes (ext h1 h2 h3 h4)
          clear yes no ext h1 h2 h3 h4
          go_enter Try.func68, Try.ntmps68
          go_wp2_with (go_at_call 65; refine cu.mono ?_; rintro e r1 ⟨rfl, d1⟩)
          go_ret
          exact ⟨ret_b hf.out.symm, below_trans bw (dr_below d1)⟩
        · rw [decide_eq_false h4] at cu
          have hf := no (fun g => h4 (by cases g; rfl))
          clear yes no ext h1 h2 h3 h4
          go_enter Try.func68, Try.ntmps68
          go_wp2_with (go_at_call 65; refine cu.mono ?_; rintro e r1 ⟨rfl, d1⟩)
          go_ret
          exact ⟨ret_b hf.out.symm, below_trans bw (dr_below d1)⟩
      · rw [decide_eq_false h3] at hN
        have hf := no (fun g => h3 (by cases g; rfl))
        clear yes no ext h1 h2 h3 cu
        go_enter Try.func68, Try.ntmps68
        go_wp2_with fail
        go_ret
        exact ⟨ret_b hf.out.symm, bw⟩
    · have k2 : (x2 == y2) = false := by simpa using h2
      have hf := no (fun g => h2 (by cases g; rfl))
      clear yes no ext h1 h2 cu
      go_enter Try.func68, Try.ntmps68
      go_wp2_with fail
      go_ret
      exact ⟨ret_b hf.out.symm, bw⟩
  · have k1 : (x1 == y1) = false := by simpa using h1
    have hf := no (fun g => h1 (by cases g; rfl))
    clear yes no ext h1 cu
    go_enter Try.func68, Try.ntmps68
    go_wp2_with fail
    go_ret
    exact ⟨ret_b hf.out.symm, bw⟩

end Go.Proofs.Ytfljcfpcokimcaa
