/-
  Rows of places and bytes (api.Byte) in memory: two cells each, read, compared, written out; SameBytes of the document's answer.
-/
import Derived.Test.YtlnlifijnijgmaaNr2
import Derived.Test.YtlnlifijnijgmaaSd
import Derived.Laws.StructEq
namespace Go.Proofs.Ytlnlifijnijgmaa
open Go.ChangeShapes Go.WideShapes Go.ChangeAt Go.RowKit
set_option linter.unusedVariables false
set_option linter.unusedSimpArgs false

def pbC (p : Int × Int) : List Value := [.int .i64 p.1, .int .u8 p.2]
def pbR (_ : World) (cs : List Value) (p : Int × Int) : Prop := cs = pbC p
theorem pbR_below {w w' : World} (cs : List Value) (x : Int × Int) (h : pbR w cs x) : pbR w' cs x := h
theorem uPb : Try.prog.underlying 32 = some (.slice (Try.prog.elem 32)) := by kernel_rfl
theorem ePb : Try.prog.elem 32 = 62 := by kernel_rfl
theorem zPb (w : World) : (sizeOf (Try.prog.elem 32)).run Try.prog w = .ok 2 w := by rw [ePb]; exact Try.sizeOf62 w
theorem infoPb : (Try.prog.info? 62).map (fun i => (i.zero, i.size, i.bytes)) = some (some (.agg #[.int .i64 0, .int .u8 0]), 2, 16) := by kernel_rfl
/-- an element of two cells: its address' rule, its cells, what it reads as -/
theorem slr_idx2 {α : Type} {P : Program} {R : World → List Value → α → Prop} {w : World} {v : Value} {xs : List α} (h : SlR 2 R w v xs) {t : TypeId} (ht : P.underlying t = some (.slice (P.elem t))) (hs : ∀ w, (sizeOf (P.elem t)).run P w = .ok 2 w) (i : Nat) (h1 : i < xs.length) :
    ∃ (b o : Nat) (c0 c1 : Value), (∀ w', (Instr.indexAt t v (.int .i64 (i : Int))).run P w' = .ok (.pointer (some ⟨b, o, none⟩)) w') ∧ w.cell? ⟨b, o, none⟩ = some c0 ∧ w.cell? ⟨b, o + 1, none⟩ = some c1 ∧ R w [c0, c1] xs[i] := by
  obtain ⟨rows, g1, g2, g3⟩ := h
  obtain ⟨ao, cap, rfl, hc, hn, hx⟩ := g1.form
  obtain ⟨hm, b, off, rfl, hcell⟩ := hx (by omega)
  obtain ⟨l1, l2⟩ := hcell i (by omega)
  have e0 := l2 0 (by omega)
  have e1 := l2 1 (by omega)
  have hr := g3 i h1
  match hrow : rows.getD i [], l1 with
  | [c0, c1], _ =>
    rw [hrow] at e0 e1 hr
    refine ⟨b, off + i * 2, c0, c1, fun w' => ?_, by simpa using e0, by simpa using e1, hr⟩
    rw [run_indexAt_slice (h := ht), if_pos ⟨by omega, by omega⟩, hs]
    simp only [Result.andThen, Int.toNat_natCast]
    congr 3
    unfold Addr.add
    split
    · rename_i hz; rw [hz]; rfl
    · rfl
theorem pb_at {w : World} {v : Value} {xs : List (Int × Int)} (h : SlR 2 pbR w v xs) (i : Nat) (h1 : i < xs.length) :
    ∃ (b o : Nat) (A V : Int), (∀ w', (Instr.indexAt 32 v (.int .i64 (i : Int))).run Try.prog w' = .ok (.pointer (some ⟨b, o, none⟩)) w') ∧ w.cell? ⟨b, o, none⟩ = some (.int .i64 A) ∧ w.cell? ⟨b, o + 1, none⟩ = some (.int .u8 V) ∧ xs[i] = (A, V) := by
  obtain ⟨b, o, c0, c1, r, e0, e1, hR⟩ := slr_idx2 h uPb zPb i h1
  simp only [pbR, pbC, List.cons.injEq] at hR
  obtain ⟨rfl, rfl, _⟩ := hR
  exact ⟨b, o, _, _, r, e0, e1, rfl⟩
theorem pb_str : Try.prog.underlying 62 = some (.struct (Try.prog.fieldsOf 62)) := by kernel_rfl
theorem pb_held : Try.prog.stoodInHeld 62 = false := by kernel_rfl
theorem pb_guard : Try.prog.eqGuardType Try.prog.depth 62 = false := by kernel_rfl
theorem pb_neq (w : World) (a1 v1 a2 v2 : Int) : (binOp .neq 62 (.agg #[.int .i64 a1, .int .u8 v1]) (.agg #[.int .i64 a2, .int .u8 v2])).run Try.prog w = .ok (.bool (!(a1 == a2 && v1 == v2))) w := by
  rw [run_neq_struct, run_equalIn_agg w _ _ _ _ pb_str pb_held]
  cases h1 : (a1 == a2) <;> cases h2 : (v1 == v2)
  all_goals simp [go_sem, h1, h2]
def OwP (base : Nat) (w : World) (v : Value) (out : List (Int × Int)) : Prop := w.ownsRow base 62 2 v out.length (out.flatMap pbC)
theorem OwP.read {base : Nat} {w : World} {v : Value} {out : List (Int × Int)} (h : OwP base w v out) : SlR 2 pbR w v out :=
  slr_rows pbC (fun _ _ => rfl) (by decide) h (fun _ _ => rfl)
theorem own_belowP {w w' : World} {base : Nat} {v : Value} {out : List (Int × Int)} (h : OwP base w v out) (g : Below w.heap.size w w') : OwP base w' v out := by
  obtain ⟨hl, h⟩ := h
  refine ⟨hl, ?_⟩
  rcases h with h | ⟨b, cap, cur, rfl, hb, hg, hc, hm, hs, ht⟩
  · exact Or.inl h
  · refine Or.inr ⟨b, cap, cur, rfl, hb, ?_, hc, hm, hs, ht⟩
    rw [g.block b (Array.getElem?_eq_some_iff.1 hg).1]
    exact hg
theorem pb_one (p : Int × Int) : ∀ u ∈ pbC p, u.oneCell' = true := by
  intro u hu
  simp [pbC] at hu
  rcases hu with rfl | rfl <;> rfl

set_option maxHeartbeats 1000000 in
theorem w_rsameB (va vb : Value) (xs ys : List (Int × Int)) (w : World) (ha : SlR 2 pbR w va xs) (hb : SlR 2 pbR w vb ys) :
    Calls Try.prog 18 #[va, vb] w fun e w' => e = .returned (.bool (decide (xs = ys))) ∧ Below w.heap.size w w' := by
  have hla := slr_len ha uPb (P := Try.prog)
  have hlb := slr_len hb uPb (P := Try.prog)
  have hma := slr_max ha
  have hmb := slr_max hb
  unfold maxLen at hma hmb
  by_cases hl : xs.length = ys.length
  · have hn : ((xs.length : Int) != (ys.length : Int)) = false := by simp [hl]
    have Hl := hid hl
    clear hl
    go_enter Try.func18, Try.ntmps18
    go_wp2_with fail
    go_loopw [5] (fun i wx => ∃ k : Nat, (k : Int) ≤ xs.length ∧ i = .int .i64 k ∧ Hid (xs.take k = ys.take k) ∧ Below w.heap.size w wx) (fun i _ => (xs.length - intOf i).toNat)
    case atStart => exact ⟨0, by omega, rfl, hid (by simp), Below.refl _ _⟩
    case round =>
      obtain ⟨j, hj, rfl, ht, hg⟩ := hrel
      by_cases hlt : (j : Int) < xs.length
      · have hka : j < xs.length := by omega
        have hkb : j < ys.length := by have := Hl.out; omega
        obtain ⟨b1, o1, k1, n1, r1, a0, a1, e0⟩ := pb_at (ha.below hg pbR_below) j hka
        obtain ⟨b2, o2, k2, n2, r2, d0, d1, f0⟩ := pb_at (hb.below hg pbR_below) j hkb
        have hne := fun w => pb_neq w k1 n1 k2 n2
        have hgd := fun w x y => run_eqGuard_agg (P := Try.prog) w .neq 62 x y #[.int .i64 k1, .int .u8 n1] #[.int .i64 k2, .int .u8 n2] pb_guard
        have hq : (k1 == k2 && n1 == n2) = decide (xs[j] = ys[j]) := by
          rw [e0, f0, Bool.eq_iff_iff]
          simp
        by_cases hxy : xs[j] = ys[j]
        · have ht2 : Hid (xs.take (j + 1) = ys.take (j + 1)) := by
            show _ = _
            rw [List.take_succ_eq_append_getElem hka, List.take_succ_eq_append_getElem hkb, ht.out, hxy]
          rw [show decide (xs[j] = ys[j]) = true by simp [hxy]] at hq
          simp only [hq, Bool.not_true] at hne
          clear e0 f0 hq hxy
          go_wp2_with fail
          go_quiet (fail)
          go_wp2_with fail
          go_roundw
          case rel => exact ⟨j + 1, by omega, by go_num, ht2, below_drewN hg _⟩
          case measure => simp [intOf]; omega
        · have hf : Hid (decide (xs = ys) = false) := by
            show _ = _
            simp
            intro h
            subst h
            exact hxy rfl
          rw [show decide (xs[j] = ys[j]) = false by simp [hxy]] at hq
          simp only [hq, Bool.not_false] at hne
          clear e0 f0 hq hxy
          go_wp2_with fail
          go_quiet (fail)
          go_wp2_with fail
          go_ret
          rw [hf.out]
          exact ⟨rfl, below_drewN hg _⟩
      · have hf : Hid (decide (xs = ys) = true) := by
          show _ = _
          have h1 := ht.out
          rw [List.take_of_length_le (by omega), List.take_of_length_le (by have := Hl.out; omega)] at h1
          simpa using h1
        go_wp2_with fail
        go_ret
        rw [hf.out]
        exact ⟨rfl, hg⟩
  · have hn : ((xs.length : Int) != (ys.length : Int)) = true := by simp; omega
    have hf : Hid (decide (xs = ys) = false) := by
      show _ = _
      simp
      intro h
      subst h
      exact hl rfl
    clear hl
    go_enter Try.func18, Try.ntmps18
    go_wp2_with fail
    go_ret
    rw [hf.out]
    exact ⟨rfl, Below.refl _ _⟩
end Go.Proofs.Ytlnlifijnijgmaa
