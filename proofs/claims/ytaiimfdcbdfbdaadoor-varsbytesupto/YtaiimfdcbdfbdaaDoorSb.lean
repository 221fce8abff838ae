/-
  Slices of bytes as texts, and cells of a call's own row written. No Go text in sight.
-/
import Derived.Test.YtaiimfdcbdfbdaaDoorSl
import Derived.Laws.BytesArg
import Derived.Laws.OwnMore
import Derived.Lib.AppendStr
namespace Go.Proofs.YtaiimfdcbdfbdaaDoor
open Go.ChangeShapes Go.WideShapes Go.ChangeAt Go.RowKit
set_option linter.unusedVariables false
set_option linter.unusedSimpArgs false

/-- a text's bytes as numbers -/
def LB (s : ByteArray) : List Int := s.data.toList.map fun c => (c.toNat : Int)
/-- numbers that are bytes -/
def bytesL (xs : List Int) : Prop := ∀ x ∈ xs, 0 ≤ x ∧ x < 256
theorem LB_len (s : ByteArray) : (LB s).length = s.size := by simp [LB]
theorem LB_bytes (s : ByteArray) : bytesL (LB s) := by
  intro x hx
  simp only [LB, List.mem_map] at hx
  obtain ⟨c, _, rfl⟩ := hx
  have := c.toNat_lt
  omega
theorem LB_nums (xs : List Int) (h : bytesL xs) : LB (strOfNums xs) = xs := by
  simp only [LB, strOfNums_data, List.map_map]
  conv => rhs; rw [← List.map_id xs]
  apply List.map_congr_left
  intro x hx
  have := h x hx
  simp only [Function.comp, id]
  rw [UInt8.toNat_ofNat']
  omega
theorem nums_LB (s : ByteArray) : strOfNums (LB s) = s := by
  cases s with
  | mk d =>
    simp only [strOfNums, LB, List.map_map]
    congr 1
    rw [show ((fun n : Int => UInt8.ofNat n.toNat) ∘ fun c : UInt8 => (c.toNat : Int)) = id by funext c; simp]
    simp
theorem nums_eq (xs ys : List Int) (hx : bytesL xs) (hy : bytesL ys) : (strOfNums xs = strOfNums ys) = (xs = ys) := by
  apply propext
  constructor
  · intro h
    rw [← LB_nums xs hx, ← LB_nums ys hy, h]
  · intro h
    rw [h]
/-- '==' of two texts, as the walk leaves it -/
theorem str_beq (A B : ByteArray) : (A.toList == B.toList) = decide (A = B) := by
  rw [Bool.eq_iff_iff]
  simp only [beq_iff_eq, decide_eq_true_eq, ByteArray.toList_eq]
  constructor
  · intro h
    cases A; cases B
    congr 1
    exact Array.ext' h
  · intro h; rw [h]
theorem strCells_LB (s : ByteArray) : Lib.strCells s = (LB s).map (Value.int .u8) := by simp [Lib.strCells, LB]

/-- a slice of bytes turned into a text -/
theorem rd_str {P : Program} {w : World} {v : Value} {xs : List Int} (h : Rd .u8 w v xs) {src dst e : TypeId} (hs : P.underlying src = some (.slice e)) (he : P.underlying e = some (.int .u8)) (hd : P.underlying dst = some .string) :
    (convert src dst v).run P w = .ok (.string (strOfNums xs)) w := by
  rcases h with ⟨ao, cap, rfl, hn, rfl⟩ | ⟨b, off, cap, rfl, h0, hc1, hc2, hc⟩
  · cases ao with
    | none => rw [run_convert_bytes_nil w src e hs he 0 cap dst hd]; rfl
    | some a =>
      rw [run_convert_bytes_string w src dst e _ 0 cap hs he hd, run_bytesToString w a 0 cap [] (by simp [loadCells, loadCellsFrom])]
      rfl
  · exact run_convert_bytes_arg w src e hs he b off xs.length cap xs rfl hc dst hd

/-- a cell of the call's own row: its address, and what is there once it is written -/
theorem own_set {P : Program} {k : IntKind} {w : World} {base : Nat} {e : TypeId} {v : Value} {ys : List Int} (h : w.ownsRow base e 1 v ys.length (ys.map (Value.int k))) {t : TypeId} (ht : P.underlying t = some (.slice (P.elem t))) (hs : ∀ w, (sizeOf (P.elem t)).run P w = .ok 1 w) (i : Int) (h0 : 0 ≤ i) (h1 : i < ys.length) :
    ∃ a : Addr, (∀ w', (Instr.indexAt t v (.int .i64 i)).run P w' = .ok (.pointer (some a)) w') ∧ w.cell? a = some (.int k (ys.getD i.toNat 0)) ∧ w.frozen? a = false ∧ base ≤ a.block ∧
      ∀ y, (w.setCell a (.int k y)).ownsRow base e 1 v (ys.set i.toNat y).length ((ys.set i.toNat y).map (Value.int k)) := by
  rcases h.2 with ⟨rfl, hz⟩ | ⟨g, cap, cur, rfl, hb, hg, hnc, hcm, hcs, htake⟩
  · omega
  · refine ⟨⟨g, i.toNat, none⟩, fun w' => ?_, ?_, h.frozenAt i.toNat, hb, fun y => ?_⟩
    · rw [run_indexAt_slice (h := ht), if_pos ⟨h0, h1⟩, hs]
      simp only [Result.andThen, Nat.mul_one]
      congr 3
      unfold Addr.add
      split
      · rename_i hz; rw [hz]
      · simp
    · rw [h.cellAt i.toNat (by omega), List.getElem?_map, List.getElem?_eq_getElem (by omega)]
      simp [List.getD_eq_getElem?_getD, List.getElem?_eq_getElem (show i.toNat < ys.length by omega)]
    · have := (h.stored i.toNat (.int k y)).1
      rw [List.length_set, List.map_set]
      exact this
/-- append of a text onto a row of the call's own -/
theorem wpList_append_rds {P : Program} {w : World} {ops : Array Oper} {rest : List Oper} {o : Oper} {a : Act} {Q : Exit → Act → World → Prop} (hgd : o.guard = none) (s x : Operand) (t u : TypeId)
    (ho : o.op = .call { callee := .builtin .append, args := #[s, x], argTypes := #[t, u] })
    (base : Nat) (e : TypeId) (i : TypeInfo) (ht : P.underlying t = some (.slice e)) (hu : P.underlying u = some .string) (hi : P.info? e = some i) (hz : i.zero = some (.int .u8 0)) (hsize : i.size = 1) (hby : i.bytes = 1)
    (v : Value) (ys : List Int) (hs : a.eval s = v) (hown : w.ownsRow base e 1 v ys.length (ys.map (Value.int .u8)))
    (S : ByteArray) (hx : a.eval x = .string S) (h63 : ys.length + S.size ≤ maxLen) (hbytes : ys.length + S.size ≤ 140737488355328) (hbase : base ≤ w.heap.size)
    (h : ∀ v' w', w'.ownsRow base e 1 v' (ys ++ LB S).length ((ys ++ LB S).map (Value.int .u8)) → w.grownBy w' v.ownBlock → wpList P ops Q rest (a.put o.dst v') w') : wpList P ops Q (o :: rest) a w := by
  obtain ⟨v', w', hr, ho2, hg, _⟩ := Lib.run_append_own_string w base t u o.type e i ht hu hi hz hsize hby v ys.length _ hown S h63 hbytes hbase
  refine wpList_plain hgd fun _ hK => ?_
  unfold Oper.wp
  simp [execOp, ho, resolve, invoke, builtin, hs, hx, hr, Result.andThen]
  refine hK _ _ (h v' w' ?_ hg)
  rw [strCells_LB] at ho2
  simpa [LB_len] using ho2
end Go.Proofs.YtaiimfdcbdfbdaaDoor
