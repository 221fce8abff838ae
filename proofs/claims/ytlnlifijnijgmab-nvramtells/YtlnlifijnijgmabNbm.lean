/-
  Rows of places and bytes (api.Byte) in memory: two cells each, read, compared, written out; SameBytes of the document's answer.
-/
import Derived.Test.YtlnlifijnijgmabNr2
import Derived.Test.YtlnlifijnijgmabSd
import Derived.Laws.StructEq
namespace Go.Proofs.Ytlnlifijnijgmab
open Go.ChangeShapes Go.WideShapes Go.ChangeAt Go.RowKit
set_option linter.unusedVariables false
set_option linter.unusedSimpArgs false

def pbC (p : Int × Int) : List Value := [.int .i64 p.1, .int .u8 p.2]
def pbR (_ : World) (cs : List Value) (p : Int × Int) : Prop := cs = pbC p
theorem pbR_below {w w' : World} (cs : List Value) (x : Int × Int) (h : pbR w cs x) : pbR w' cs x := h
theorem uPb : Try.prog.underlying 25 = some (.slice (Try.prog.elem 25)) := by kernel_rfl
theorem ePb : Try.prog.elem 25 = 48 := by kernel_rfl
theorem zPb (w : World) : (sizeOf (Try.prog.elem 25)).run Try.prog w = .ok 2 w := by rw [ePb]; exact Try.sizeOf48 w
theorem infoPb : (Try.prog.info? 48).map (fun i => (i.zero, i.size, i.bytes)) = some (some (.agg #[.int .i64 0, .int .u8 0]), 2, 16) := by kernel_rfl
/-- an element of two cells: its address' rule, its cells, what it reads as -/
theorem slr_idx2 {α : Type} {P : Program} {R : World → List Value → α → Prop} {w : World} {v : Value} {xs : List α} (h : SlR 2 R w v xs) {t : TypeId} (ht : P.underlying t = some (.slice (P.elem t))) (hs : ∀ w, (sizeOf (P.elem t)).run P w = .ok 2 w) (i : Nat) (h1 : i < xs.length) :
    ∃ (b o : Nat) (c0 c1 : Value), (∀ w', (Instr.indexAt t v (.int .i64 (i : Int))).run P w' = .ok (.pointer (some ⟨b, o, none⟩)) w') ∧ w.cell? ⟨b, o, none⟩ = some c0 ∧ w.cell? ⟨b, o + 1, none⟩ = some c1 ∧ R w [c0, c1] xs[i] := by
  obtain ⟨rows, g1, g2, g3⟩ := h
  obtain ⟨ao, cap, rfl, hc, hn, hx⟩ := g1.form
  obtain ⟨hm, b, off, rfl, hcell⟩ := hx (by omega)
  obtain ⟨l1, l2⟩ := hcell i (by omega)
  have e0 := l2 0 (by omega)
  have e1 := l2 1 (by omega)
  have hr := g3 i h1
  match hrow : rows.getD i [], l1 with
  | [c0, c1], _ =>
    rw [hrow] at e0 e1 hr
    refine ⟨b, off + i * 2, c0, c1, fun w' => ?_, by simpa using e0, by simpa using e1, hr⟩
    rw [run_indexAt_slice (h := ht), if_pos ⟨by omega, by omega⟩, hs]
    simp only [Result.andThen, Int.toNat_natCast]
    congr 3
    unfold Addr.add
    split
    · rename_i hz; rw [hz]; rfl
    · rfl
theorem pb_at {w : World} {v : Value} {xs : List (Int × Int)} (h : SlR 2 pbR w v xs) (i : Nat) (h1 : i < xs.length) :
    ∃ (b o : Nat) (A V : Int), (∀ w', (Instr.indexAt 25 v (.int .i64 (i : Int))).run Try.prog w' = .ok (.pointer (some ⟨b, o, none⟩)) w') ∧ w.cell? ⟨b, o, none⟩ = some (.int .i64 A) ∧ w.cell? ⟨b, o + 1, none⟩ = some (.int .u8 V) ∧ xs[i] = (A, V) := by
  obtain ⟨b, o, c0, c1, r, e0, e1, hR⟩ := slr_idx2 h uPb zPb i h1
  simp only [pbR, pbC, List.cons.injEq] at hR
  obtain ⟨rfl, rfl, _⟩ := hR
  exact ⟨b, o, _, _, r, e0, e1, rfl⟩
theorem pb_str : Try.prog.underlying 48 = some (.struct (Try.prog.fieldsOf 48)) := by kernel_rfl
theorem pb_held : Try.prog.stoodInHeld 48 = false := by kernel_rfl
theorem pb_guard : Try.prog.eqGuardType Try.prog.depth 48 = false := by kernel_rfl
theorem pb_neq (w : World) (a1 v1 a2 v2 : Int) : (binOp .neq 48 (.agg #[.int .i64 a1, .int .u8 v1]) (.agg #[.int .i64 a2, .int .u8 v2])).run Try.prog w = .ok (.bool (!(a1 == a2 && v1 == v2))) w := by
  rw [run_neq_struct, run_equalIn_agg w _ _ _ _ pb_str pb_held]
  cases h1 : (a1 == a2) <;> cases h2 : (v1 == v2)
  all_goals simp [go_sem, h1, h2]
def OwP (base : Nat) (w : World) (v : Value) (out : List (Int × Int)) : Prop := w.ownsRow base 48 2 v out.length (out.flatMap pbC)
theorem OwP.read {base : Nat} {w : World} {v : Value} {out : List (Int × Int)} (h : OwP base w v out) : SlR 2 pbR w v out :=
  slr_rows pbC (fun _ _ => rfl) (by decide) h (fun _ _ => rfl)
theorem own_belowP {w w' : World} {base : Nat} {v : Value} {out : List (Int × Int)} (h : OwP base w v out) (g : Below w.heap.size w w') : OwP base w' v out := by
  obtain ⟨hl, h⟩ := h
  refine ⟨hl, ?_⟩
  rcases h with h | ⟨b, cap, cur, rfl, hb, hg, hc, hm, hs, ht⟩
  · exact Or.inl h
  · refine Or.inr ⟨b, cap, cur, rfl, hb, ?_, hc, hm, hs, ht⟩
    rw [g.block b (Array.getElem?_eq_some_iff.1 hg).1]
    exact hg
theorem pb_one (p : Int × Int) : ∀ u ∈ pbC p, u.oneCell' = true := by
  intro u hu
  simp [pbC] at hu
  rcases hu with rfl | rfl <;> rfl
end Go.Proofs.Ytlnlifijnijgmab
