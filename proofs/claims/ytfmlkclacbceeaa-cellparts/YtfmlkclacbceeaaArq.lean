/-
  Equality of arrays of two and of four integers, as one step of the model runs it: element by element. No condition.
-/
import Derived.Test.YtfmlkclacbceeaaArr
import Derived.Test.YtfmlkclacbceeaaProg
namespace Go.Proofs.Ytfmlkclacbceeaa
open Go.ChangeShapes Go.WideShapes Go.ChangeAt Go.RowKit
set_option linter.unusedVariables false
set_option linter.unusedSimpArgs false

section
variable {P : Program}
theorem run_equalIn_num (w : World) (d : Nat) {e : TypeId} {k : IntKind} (he : P.underlying e = some (.int k)) (a b : Int) :
    (Op.equalIn (d + 1) e (.int k a) (.int k b)).run P w = .ok (a == b) w := by
  simp [Op.equalIn, run_underlying he]
theorem run_equalIn_arr2 (w : World) (d : Nat) {t e : TypeId} {k : IntKind} (ht : P.underlying t = some (.array 2 e)) (he : P.underlying e = some (.int k)) (hs : ∀ w, (sizeOf e).run P w = .ok 1 w) (hp : ∀ w cs off v, cs[off]? = some v → (part e cs off).run P w = .ok v w) (x0 x1 y0 y1 : Int) :
    (Op.equalIn (d + 2) t (.agg #[.int k x0, .int k x1]) (.agg #[.int k y0, .int k y1])).run P w = .ok (x0 == y0 && x1 == y1) w := by
  have p0 := fun w => hp w #[.int k x0, .int k x1] 0 (.int k x0) rfl
  have q0 := fun w => hp w #[.int k y0, .int k y1] 0 (.int k y0) rfl
  have p1 := fun w => hp w #[.int k x0, .int k x1] 1 (.int k x1) rfl
  have q1 := fun w => hp w #[.int k y0, .int k y1] 1 (.int k y1) rfl
  rw [show d + 2 = (d + 1) + 1 from rfl]
  unfold Op.equalIn
  simp only [Sem.run_bind, run_underlying ht, Result.andThen_ok, hs]
  simp
  rw [show List.range' 0 2 = [0, 1] from rfl]
  cases b0 : (x0 == y0)
  · simp [List.forIn_cons, Sem.run_bind, p0, q0, run_equalIn_num _ d he, b0]
  cases b1 : (x1 == y1)
  · simp [List.forIn_cons, Sem.run_bind, p0, q0, p1, q1, run_equalIn_num _ d he, b0, b1]
  simp [List.forIn_cons, Sem.run_bind, p0, q0, p1, q1, run_equalIn_num _ d he, b0, b1]
theorem run_eql_arr2 (w : World) {t e : TypeId} {k : IntKind} (ht : P.underlying t = some (.array 2 e)) (he : P.underlying e = some (.int k)) (hs : ∀ w, (sizeOf e).run P w = .ok 1 w) (hp : ∀ w cs off v, cs[off]? = some v → (part e cs off).run P w = .ok v w) (x0 x1 y0 y1 : Int) :
    (binOp .eql t (.agg #[.int k x0, .int k x1]) (.agg #[.int k y0, .int k y1])).run P w = .ok (.bool (x0 == y0 && x1 == y1)) w := by
  simp only [binOp]
  simp [Op.equal, Op.maxDepth, run_equalIn_arr2 w 9998 ht he hs hp]
theorem run_neq_arr2 (w : World) {t e : TypeId} {k : IntKind} (ht : P.underlying t = some (.array 2 e)) (he : P.underlying e = some (.int k)) (hs : ∀ w, (sizeOf e).run P w = .ok 1 w) (hp : ∀ w cs off v, cs[off]? = some v → (part e cs off).run P w = .ok v w) (x0 x1 y0 y1 : Int) :
    (binOp .neq t (.agg #[.int k x0, .int k x1]) (.agg #[.int k y0, .int k y1])).run P w = .ok (.bool !(x0 == y0 && x1 == y1)) w := by
  simp only [binOp]
  simp [Op.equal, Op.maxDepth, run_equalIn_arr2 w 9998 ht he hs hp]
theorem run_equalIn_arr4 (w : World) (d : Nat) {t e : TypeId} {k : IntKind} (ht : P.underlying t = some (.array 4 e)) (he : P.underlying e = some (.int k)) (hs : ∀ w, (sizeOf e).run P w = .ok 1 w) (hp : ∀ w cs off v, cs[off]? = some v → (part e cs off).run P w = .ok v w) (x0 x1 x2 x3 y0 y1 y2 y3 : Int) :
    (Op.equalIn (d + 2) t (.agg #[.int k x0, .int k x1, .int k x2, .int k x3]) (.agg #[.int k y0, .int k y1, .int k y2, .int k y3])).run P w = .ok (x0 == y0 && x1 == y1 && x2 == y2 && x3 == y3) w := by
  have p0 := fun w => hp w #[.int k x0, .int k x1, .int k x2, .int k x3] 0 (.int k x0) rfl
  have q0 := fun w => hp w #[.int k y0, .int k y1, .int k y2, .int k y3] 0 (.int k y0) rfl
  have p1 := fun w => hp w #[.int k x0, .int k x1, .int k x2, .int k x3] 1 (.int k x1) rfl
  have q1 := fun w => hp w #[.int k y0, .int k y1, .int k y2, .int k y3] 1 (.int k y1) rfl
  have p2 := fun w => hp w #[.int k x0, .int k x1, .int k x2, .int k x3] 2 (.int k x2) rfl
  have q2 := fun w => hp w #[.int k y0, .int k y1, .int k y2, .int k y3] 2 (.int k y2) rfl
  have p3 := fun w => hp w #[.int k x0, .int k x1, .int k x2, .int k x3] 3 (.int k x3) rfl
  have q3 := fun w => hp w #[.int k y0, .int k y1, .int k y2, .int k y3] 3 (.int k y3) rfl
  rw [show d + 2 = (d + 1) + 1 from rfl]
  unfold Op.equalIn
  simp only [Sem.run_bind, run_underlying ht, Result.andThen_ok, hs]
  simp
  rw [show List.range' 0 4 = [0, 1, 2, 3] from rfl]
  cases b0 : (x0 == y0)
  · simp [List.forIn_cons, Sem.run_bind, p0, q0, run_equalIn_num _ d he, b0]
  cases b1 : (x1 == y1)
  · simp [List.forIn_cons, Sem.run_bind, p0, q0, p1, q1, run_equalIn_num _ d he, b0, b1]
  cases b2 : (x2 == y2)
  · simp [List.forIn_cons, Sem.run_bind, p0, q0, p1, q1, p2, q2, run_equalIn_num _ d he, b0, b1, b2]
  cases b3 : (x3 == y3)
  · simp [List.forIn_cons, Sem.run_bind, p0, q0, p1, q1, p2, q2, p3, q3, run_equalIn_num _ d he, b0, b1, b2, b3]
  simp [List.forIn_cons, Sem.run_bind, p0, q0, p1, q1, p2, q2, p3, q3, run_equalIn_num _ d he, b0, b1, b2, b3]
theorem run_eql_arr4 (w : World) {t e : TypeId} {k : IntKind} (ht : P.underlying t = some (.array 4 e)) (he : P.underlying e = some (.int k)) (hs : ∀ w, (sizeOf e).run P w = .ok 1 w) (hp : ∀ w cs off v, cs[off]? = some v → (part e cs off).run P w = .ok v w) (x0 x1 x2 x3 y0 y1 y2 y3 : Int) :
    (binOp .eql t (.agg #[.int k x0, .int k x1, .int k x2, .int k x3]) (.agg #[.int k y0, .int k y1, .int k y2, .int k y3])).run P w = .ok (.bool (x0 == y0 && x1 == y1 && x2 == y2 && x3 == y3)) w := by
  simp only [binOp]
  simp [Op.equal, Op.maxDepth, run_equalIn_arr4 w 9998 ht he hs hp]
theorem run_neq_arr4 (w : World) {t e : TypeId} {k : IntKind} (ht : P.underlying t = some (.array 4 e)) (he : P.underlying e = some (.int k)) (hs : ∀ w, (sizeOf e).run P w = .ok 1 w) (hp : ∀ w cs off v, cs[off]? = some v → (part e cs off).run P w = .ok v w) (x0 x1 x2 x3 y0 y1 y2 y3 : Int) :
    (binOp .neq t (.agg #[.int k x0, .int k x1, .int k x2, .int k x3]) (.agg #[.int k y0, .int k y1, .int k y2, .int k y3])).run P w = .ok (.bool !(x0 == y0 && x1 == y1 && x2 == y2 && x3 == y3)) w := by
  simp only [binOp]
  simp [Op.equal, Op.maxDepth, run_equalIn_arr4 w 9998 ht he hs hp]
end

theorem szU32 (w : World) : (sizeOf 22).run Try.prog w = .ok 1 w := by kernel_rfl
theorem ptU32 (w : World) (cs : Array Value) (off : Nat) (v : Value) (h : cs[off]? = some v) : (part 22 cs off).run Try.prog w = .ok v w := by
  have : (isAgg 22).run Try.prog w = .ok false w := by kernel_rfl
  simp [part, this, h]
end Go.Proofs.Ytfmlkclacbceeaa
