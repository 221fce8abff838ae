/-
  Tokens of FCode in memory: rows of four cells, read, compared, written out.
-/
import Derived.Test.YtbllblikigogoaaPtk
import Derived.Test.YtbllblikigogoaaRmm
import Derived.Test.YtbllblikigogoaaSd
import Derived.Test.YtbllblikigogoaaAgr
import Derived.Laws.StructEq
namespace Go.Proofs.Ytbllblikigogoaa
open Go.ChangeShapes Go.WideShapes Go.ChangeAt Go.RowKit
set_option linter.unusedVariables false
set_option linter.unusedSimpArgs false

def tqC (t : Tq) : List Value := [.int .i64 t.c, .int .u32 t.n, .string (strOfNums t.t), .int .i64 t.o]
def tqR (_ : World) (cs : List Value) (t : Tq) : Prop := cs = tqC t
theorem tqR_below {w w' : World} (cs : List Value) (x : Tq) (h : tqR w cs x) : tqR w' cs x := h
theorem uQ : Try.prog.underlying 22 = some (.slice (Try.prog.elem 22)) := by kernel_rfl
theorem eQ : Try.prog.elem 22 = 37 := by kernel_rfl
theorem zQ (w : World) : (sizeOf (Try.prog.elem 22)).run Try.prog w = .ok 4 w := by rw [eQ]; exact Try.sizeOf37 w
theorem infoTok : (Try.prog.info? 37).map (fun i => (i.zero, i.size, i.bytes)) = some (some (.agg #[.int .i64 0, .int .u32 0, .string ⟨#[]⟩, .int .i64 0]), 4, 40) := by kernel_rfl
/-- an element of four cells: its address' rule, its cells, what it reads as -/
theorem slr_idx4 {α : Type} {P : Program} {R : World → List Value → α → Prop} {w : World} {v : Value} {xs : List α} (h : SlR 4 R w v xs) {t : TypeId} (ht : P.underlying t = some (.slice (P.elem t))) (hs : ∀ w, (sizeOf (P.elem t)).run P w = .ok 4 w) (i : Nat) (h1 : i < xs.length) :
    ∃ (b o : Nat) (c0 c1 c2 c3 : Value), (∀ w', (Instr.indexAt t v (.int .i64 (i : Int))).run P w' = .ok (.pointer (some ⟨b, o, none⟩)) w') ∧ w.cell? ⟨b, o, none⟩ = some c0 ∧ w.cell? ⟨b, o + 1, none⟩ = some c1 ∧ w.cell? ⟨b, o + 2, none⟩ = some c2 ∧ w.cell? ⟨b, o + 3, none⟩ = some c3 ∧ R w [c0, c1, c2, c3] xs[i] := by
  obtain ⟨rows, g1, g2, g3⟩ := h
  obtain ⟨ao, cap, rfl, hc, hn, hx⟩ := g1.form
  obtain ⟨hm, b, off, rfl, hcell⟩ := hx (by omega)
  obtain ⟨l1, l2⟩ := hcell i (by omega)
  have e0 := l2 0 (by omega)
  have e1 := l2 1 (by omega)
  have e2 := l2 2 (by omega)
  have e3 := l2 3 (by omega)
  have hr := g3 i h1
  match hrow : rows.getD i [], l1 with
  | [c0, c1, c2, c3], _ =>
    rw [hrow] at e0 e1 e2 e3 hr
    refine ⟨b, off + i * 4, c0, c1, c2, c3, fun w' => ?_, by simpa using e0, by simpa using e1, by simpa using e2, by simpa using e3, hr⟩
    rw [run_indexAt_slice (h := ht), if_pos ⟨by omega, by omega⟩, hs]
    simp only [Result.andThen, Int.toNat_natCast]
    congr 3
    unfold Addr.add
    split
    · rename_i hz; rw [hz]; rfl
    · rfl
theorem tq_at {w : World} {v : Value} {xs : List Tq} (h : SlR 4 tqR w v xs) (i : Nat) (h1 : i < xs.length) :
    ∃ (b o : Nat) (C N O : Int) (T : ByteArray), (∀ w', (Instr.indexAt 22 v (.int .i64 (i : Int))).run Try.prog w' = .ok (.pointer (some ⟨b, o, none⟩)) w') ∧ w.cell? ⟨b, o, none⟩ = some (.int .i64 C) ∧ w.cell? ⟨b, o + 1, none⟩ = some (.int .u32 N) ∧ w.cell? ⟨b, o + 2, none⟩ = some (.string T) ∧ w.cell? ⟨b, o + 3, none⟩ = some (.int .i64 O) ∧ xs[i].c = C ∧ xs[i].n = N ∧ strOfNums xs[i].t = T ∧ xs[i].o = O := by
  obtain ⟨b, o, c0, c1, c2, c3, r, e0, e1, e2, e3, hR⟩ := slr_idx4 h uQ zQ i h1
  simp only [tqR, tqC, List.cons.injEq] at hR
  obtain ⟨rfl, rfl, rfl, rfl, _⟩ := hR
  exact ⟨b, o, _, _, _, _, r, e0, e1, e2, e3, rfl, rfl, rfl, rfl⟩
theorem tq_str : Try.prog.underlying 37 = some (.struct (Try.prog.fieldsOf 37)) := by kernel_rfl
theorem tq_held : Try.prog.stoodInHeld 37 = false := by kernel_rfl
theorem tq_guard : Try.prog.eqGuardType Try.prog.depth 37 = false := by kernel_rfl
theorem tq_neq (w : World) (c1 n1 o1 c2 n2 o2 : Int) (T1 T2 : ByteArray) : (binOp .neq 37 (.agg #[.int .i64 c1, .int .u32 n1, .string T1, .int .i64 o1]) (.agg #[.int .i64 c2, .int .u32 n2, .string T2, .int .i64 o2])).run Try.prog w = .ok (.bool (!(c1 == c2 && (n1 == n2 && (T1.toList == T2.toList && o1 == o2))))) w := by
  rw [run_neq_struct, run_equalIn_agg w _ _ _ _ tq_str tq_held]
  cases h1 : (c1 == c2) <;> cases h2 : (n1 == n2) <;> cases h3 : (T1.toList == T2.toList) <;> cases h4 : (o1 == o2)
  all_goals simp [go_sem, h1, h2, h3, h4]
theorem tq_eql (w : World) (c1 n1 o1 c2 n2 o2 : Int) (T1 T2 : ByteArray) : (binOp .eql 37 (.agg #[.int .i64 c1, .int .u32 n1, .string T1, .int .i64 o1]) (.agg #[.int .i64 c2, .int .u32 n2, .string T2, .int .i64 o2])).run Try.prog w = .ok (.bool (c1 == c2 && (n1 == n2 && (T1.toList == T2.toList && o1 == o2)))) w := by
  rw [run_eql_struct, run_equalIn_agg w _ _ _ _ tq_str tq_held]
  cases h1 : (c1 == c2) <;> cases h2 : (n1 == n2) <;> cases h3 : (T1.toList == T2.toList) <;> cases h4 : (o1 == o2)
  all_goals simp [go_sem, h1, h2, h3, h4]
/-- a row of tokens that reads as a list -/
theorem LB_eq (A B : ByteArray) : (A = B) = (LB A = LB B) := by
  apply propext
  constructor
  · intro h; rw [h]
  · intro h; rw [← nums_LB A, ← nums_LB B, h]
theorem nil_beq (S : ByteArray) : (S.toList == (⟨#[]⟩ : ByteArray).toList) = decide (LB S = []) := by
  rw [str_beq]
  simp only [LB_eq]
  rfl
theorem nil_emp (S : ByteArray) : S.toList.isEmpty = decide (LB S = []) := by
  rw [← nil_beq, Bool.eq_iff_iff]
  have : (⟨#[]⟩ : ByteArray).toList = [] := by decide +kernel
  rw [this]
  simp
end Go.Proofs.Ytbllblikigogoaa
