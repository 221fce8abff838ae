/-
  Tokens of FCode that came in: one by itself, and a slice of them.
-/
import Derived.Test.YtbllblikigogoaaRows
import Derived.Test.YtbllblikigogoaaTr4
import Derived.Test.YtbllblikigogoaaTr3
import Derived.ChangeSame
import Derived.WalkKit
import Derived.ProofKit
import Derived.OpenShut
import Derived.SizedLaws
namespace Go.Proofs.Ytbllblikigogoaa
open Go.ChangeShapes Go.WideShapes Go.ChangeAt Go.RowKit
set_option linter.unusedVariables false
set_option linter.unusedSimpArgs false

theorem tqF0 : (Try.prog.fieldsOf 37)[0]?.map (fun f => (f.type, f.offset)) = some (3, 0) := by kernel_rfl
theorem tqF1 : (Try.prog.fieldsOf 37)[1]?.map (fun f => (f.type, f.offset)) = some (35, 1) := by kernel_rfl
theorem tqF2 : (Try.prog.fieldsOf 37)[2]?.map (fun f => (f.type, f.offset)) = some (9, 2) := by kernel_rfl
theorem tqF3 : (Try.prog.fieldsOf 37)[3]?.map (fun f => (f.type, f.offset)) = some (3, 3) := by kernel_rfl
theorem tqFs : (Try.prog.fieldsOf 37).size = 4 := by kernel_rfl
/-- what a token in memory is like -/
structure aQ (t : Tq) : Prop where
  g : gQ t
  l : t.t.length ≤ maxLen
  o : oQ t
  c : -9223372036854775808 ≤ t.c ∧ t.c < 9223372036854775808
/-- one token's cells -/
theorem tq_trod {H : Type} {enc : TypeId × Value → H} {W : World} {fuel : Nat} {cs : List Value} {y : DataW H × List MemPlace} (h : DataW.trod enc Try.prog W 0 (fun _ => true) true fuel 37 cs = some y) :
    ∃ x : Tq, cs = tqC x ∧ aQ x := by
  obtain ⟨xs, n, _, rfl, hl, hlen, hf⟩ := DataW.trod_struct tq_str h
  rw [show Try.prog.cellsOf 37 = 4 by kernel_rfl] at hl
  rw [tqFs] at hlen
  match cs, hl with
  | [c0, c1, c2, c3], _ =>
    match xs, hlen with
    | [y0, y1, y2, y3], _ =>
      obtain ⟨f0, g0, e0⟩ := Option.map_eq_some_iff.1 tqF0
      obtain ⟨f1, g1, e1⟩ := Option.map_eq_some_iff.1 tqF1
      obtain ⟨f2, g2, e2⟩ := Option.map_eq_some_iff.1 tqF2
      obtain ⟨f3, g3, e3⟩ := Option.map_eq_some_iff.1 tqF3
      obtain ⟨a0, b0⟩ := Prod.mk.inj e0
      obtain ⟨a1, b1⟩ := Prod.mk.inj e1
      obtain ⟨a2, b2⟩ := Prod.mk.inj e2
      obtain ⟨a3, b3⟩ := Prod.mk.inj e3
      have h0 := hf 0 f0 g0
      have h1 := hf 1 f1 g1
      have h2 := hf 2 f2 g2
      have h3 := hf 3 f3 g3
      rw [a0, b0, show Try.prog.cellsOf 3 = 1 by kernel_rfl] at h0
      rw [a1, b1, show Try.prog.cellsOf 35 = 1 by kernel_rfl] at h1
      rw [a2, b2, show Try.prog.cellsOf 9 = 1 by kernel_rfl] at h2
      rw [a3, b3, show Try.prog.cellsOf 3 = 1 by kernel_rfl] at h3
      simp at h0 h1 h2 h3
      obtain ⟨k, k1, k2, k3⟩ := DataW.trod_int Try.underlying3 h0
      obtain ⟨n, n1, n2, n3⟩ := DataW.trod_int Try.underlying35 h1
      obtain ⟨t, t1, t2, t3⟩ := DataW.trod_string Try.underlying9 h2
      obtain ⟨p, p1, p2, p3⟩ := DataW.trod_int Try.underlying3 h3
      simp at k1 n1 t1 p1
      subst k1 n1 t1 p1 k2 n2 t2 p2
      refine ⟨⟨k, n, LB t, p⟩, by simp [tqC, nums_LB], ⟨⟨?_, ?_, LB_bytes t⟩, by rw [LB_len]; exact t3, ⟨?_, ?_⟩, ⟨?_, ?_⟩⟩⟩ <;> (simp [Lit.wf, IntKind.min, IntKind.max, IntKind.bits, IntKind.signed] at k3 n3 p3; simp only; omega)
theorem tqs_open {H : Type} {enc : TypeId × Value → H} {W : World} {a : Option Addr} {len cap : Nat} {d : DataW H} {ps : List MemPlace} (h : DataW.Trod enc Try.prog W 0 (fun _ => true) true 22 (.slice a len cap) d ps) :
    ∃ xs : List Tq, SlR 4 tqR W (.slice a len cap) xs ∧ ∀ x ∈ xs, aQ x := by
  obtain ⟨fuel, hf⟩ := h
  obtain ⟨rows, h1, h2, h3⟩ := slc_open (e := 37) Try.underlying22 (show Try.prog.cellsOf 37 = 4 by kernel_rfl) (by omega) (show DataW.trod enc Try.prog W 0 (fun _ => true) true fuel 22 [.slice a len cap] = some (d, ps) from hf)
  rcases h3 with ⟨rfl, rfl⟩ | ⟨ds, zs, rfl, hl, h3⟩
  · exact ⟨[], ⟨[], h1, rfl, fun i hi => by simp at hi⟩, fun x hx => by simp at hx⟩
  · obtain ⟨xs, hx1, hx2⟩ := choose_list (rows.zip ds) (fun (r : List Value × DataW H) (x : Tq) => r.1 = tqC x ∧ aQ x) (fun r hr => by
      obtain ⟨i, hi, rfl⟩ := List.getElem_of_mem hr
      have hi2 : i < rows.length := by simp at hi; omega
      obtain ⟨n, y, g, g2⟩ := h3 i hi2
      rw [List.getD_eq_getElem?_getD, List.getElem?_eq_getElem hi2] at g
      obtain ⟨x, k1, k2⟩ := tq_trod g
      refine ⟨x, ?_, k2⟩
      rw [List.getElem_zip]; exact k1)
    have hzl : (rows.zip ds).length = rows.length := by simp [hl]
    refine ⟨xs, ⟨rows, h1, by omega, fun i hi => ?_⟩, fun x hx => ?_⟩
    · have := (hx2 i (by omega) hi).1
      rw [List.getElem_zip] at this
      rw [List.getD_eq_getElem?_getD, List.getElem?_eq_getElem (by omega)]
      exact this
    · obtain ⟨i, hi, rfl⟩ := List.getElem_of_mem hx
      exact (hx2 i (by omega) hi).2
/-- one token by itself -/
theorem tqp_open {H : Type} {enc : TypeId × Value → H} {W : World} {base : Nat} {v : Value} {d : DataW H} {ps : List MemPlace} (ok : Value.okWide Try.prog W .any base 37 v) (h : DataW.Trod enc Try.prog W 0 (fun _ => true) true 37 v d ps) :
    ∃ (C N O : Int) (S : ByteArray), v = .agg #[.int .i64 C, .int .u32 N, .string S, .int .i64 O] ∧ aQ ⟨C, N, LB S, O⟩ := by
  obtain ⟨cs0, rfl, _, _⟩ : ∃ cs, v = .agg cs ∧ cs.size = Try.prog.cellsOf 37 ∧ Row.okWide Try.prog W .any base 37 cs := by
    simpa [Value.okWide, tq_str] using ok
  obtain ⟨fuel, hf0⟩ := h
  obtain ⟨x, h1, h3⟩ := tq_trod (cs := cs0.toList) hf0
  obtain ⟨cs⟩ := cs0
  simp only at h1
  subst h1
  obtain ⟨c, n, t, o⟩ := x
  have e := LB_nums t h3.g.2.2
  exact ⟨c, n, o, strOfNums t, rfl, by rw [e]; exact h3⟩
end Go.Proofs.Ytbllblikigogoaa
