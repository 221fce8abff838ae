/-
  Blocks of a call's own as lists of integers: cut with three indexes, written cell by cell, copied into. No Go text in sight.
-/
import Derived.Test.YtlnlifijnijgmaaSb
import Derived.Laws.CopyOwn
import Derived.Lib.BufferWrite
import Derived.Deep.OwnRows
namespace Go.Proofs.Ytlnlifijnijgmaa
open Go.ChangeShapes Go.WideShapes Go.ChangeAt Go.RowKit
set_option linter.unusedVariables false
set_option linter.unusedSimpArgs false

/-- block g holds the integers xs and no other cell -/
def Blk (k : IntKind) (e : TypeId) (w : World) (g : Nat) (xs : List Int) : Prop := w.heap[g]? = some (.cells (xs.map (Value.int k)).toArray e (0, 0))
theorem Blk.rd {k : IntKind} {e : TypeId} {w : World} {g : Nat} {xs : List Int} (h : Blk k e w g xs) (hm : xs.length ≤ maxLen) : Rd k w (.slice (some ⟨g, 0, none⟩) xs.length xs.length) xs := by
  rcases Nat.eq_zero_or_pos xs.length with h0 | h0
  · obtain rfl := List.eq_nil_of_length_eq_zero h0
    exact Or.inl ⟨_, _, rfl, (fun h => by cases h), rfl⟩
  · refine Or.inr ⟨g, 0, xs.length, rfl, h0, Nat.le_refl _, hm, fun i hi => ?_⟩
    unfold Blk at h
    simp [World.cell?, h, List.getD_eq_getElem?_getD, List.getElem?_eq_getElem hi]
theorem Blk.below {k : IntKind} {e : TypeId} {w w' : World} {g : Nat} {xs : List Int} (h : Blk k e w g xs) (hb : Below w.heap.size w w') : Blk k e w' g xs := by
  unfold Blk at h ⊢
  rw [hb.block g (Array.getElem?_eq_some_iff.1 h).1, h]
/-- the stretch of n cells of block g from place a on -/
def Plc (v : Value) (g a n : Nat) : Prop := ∃ dp, v = .slice dp n n ∧ (0 < n → dp = some ⟨g, a, none⟩)
theorem plc_all (g n : Nat) : Plc (.slice (some ⟨g, 0, none⟩) n n) g 0 n := ⟨_, rfl, fun _ => rfl⟩
theorem plc_len {P : Program} {v : Value} {g a n : Nat} (h : Plc v g a n) {t e : TypeId} (ht : P.underlying t = some (.slice e)) (ty : TypeId) (w' : World) :
    (Builtin.len_ #[t] ty #[v]).run P w' = .ok (.int .i64 n) w' := by
  obtain ⟨dp, rfl, _⟩ := h
  simp [Builtin.len_, run_underlying ht, goInt]
/-- a cell of such a stretch: its address, and what the block holds once it is written -/
theorem plc_set {P : Program} {k : IntKind} {w : World} {e : TypeId} {v : Value} {g a n : Nat} {xs : List Int} (h : Plc v g a n) (hg : Blk k e w g xs) {t : TypeId} (ht : P.underlying t = some (.slice (P.elem t))) (hs : ∀ w, (sizeOf (P.elem t)).run P w = .ok 1 w)
    (hl : a + n ≤ xs.length) (i : Int) (h0 : 0 ≤ i) (h1 : i < n) :
    ∃ ad : Addr, (∀ w', (Instr.indexAt t v (.int .i64 i)).run P w' = .ok (.pointer (some ad)) w') ∧ w.cell? ad = some (.int k (xs.getD (a + i.toNat) 0)) ∧ w.frozen? ad = false ∧ g ≤ ad.block ∧
      ∀ y, Blk k e (w.setCell ad (.int k y)) g (xs.set (a + i.toNat) y) := by
  obtain ⟨dp, rfl, hd⟩ := h
  obtain rfl := hd (by omega)
  unfold Blk at hg
  have hi : a + i.toNat < xs.length := by omega
  refine ⟨⟨g, a + i.toNat, none⟩, fun w' => ?_, ?_, ?_, Nat.le_refl _, fun y => ?_⟩
  · rw [run_indexAt_slice (h := ht), if_pos ⟨h0, h1⟩, hs]
    simp only [Result.andThen, Nat.mul_one]
    congr 3
    unfold Addr.add
    split
    · rename_i hz; rw [hz]; rfl
    · rfl
  · simp [World.cell?, hg, List.getD_eq_getElem?_getD, List.getElem?_eq_getElem hi]
  · simp [World.frozen?, hg]
  · unfold Blk
    rw [Lib.heap_setCell_same (i := a + i.toNat) hg]
    simp [List.map_set]

/-- what v[a : a+n : a+n] is -/
def cut3 (v : Value) (a n : Nat) : Value := match v with
  | .slice ao _ _ => .slice (if a + n = a then ao else ao.map (·.add (a * 1))) n n
  | x => x
theorem plc_cut3 (g L a n : Nat) : Plc (cut3 (.slice (some ⟨g, 0, none⟩) L L) a n) g a n := by
  refine ⟨_, rfl, fun h => ?_⟩
  rw [if_neg (by omega)]
  simp [Addr.add]
  intro h; rw [h]
theorem rd_cut3 {P : Program} {k : IntKind} {w : World} {v : Value} {xs : List Int} (h : Rd k w v xs) {t : TypeId} (ht : P.underlying t = some (.slice (P.elem t))) (hs : ∀ w, (sizeOf (P.elem t)).run P w = .ok 1 w) (a n : Int) (a0 : 0 ≤ a) (n0 : 0 ≤ n) (hl : a + n ≤ xs.length) :
    Rd k w (cut3 v a.toNat n.toNat) ((xs.drop a.toNat).take n.toNat) ∧ ∀ (kl kh km : IntKind) w', (Instr.slice t v (some (.int kl a)) (some (.int kh (a + n))) (some (.int km (a + n)))).run P w' = .ok (cut3 v a.toNat n.toNat) w' := by
  obtain ⟨ao, cap, rfl, hc, hn, hx⟩ := rd_form h
  have hle : ((xs.drop a.toNat).take n.toNat).length = n.toNat := by simp; omega
  refine ⟨?_, fun kl kh km w' => ?_⟩
  · rcases Nat.eq_zero_or_pos n.toNat with hz | hz
    · refine Or.inl ⟨ao, 0, by simp [cut3, hz], fun _ => rfl, by rw [hz]; simp⟩
    · obtain ⟨hm, b, off, rfl, hcell⟩ := hx (by omega)
      refine Or.inr ⟨b, off + a.toNat, n.toNat, ?_, by omega, by omega, by omega, fun i hi2 => ?_⟩
      · rw [hle]
        simp only [cut3]
        rw [if_neg (by omega)]
        simp [Addr.add]
      · rw [hle] at hi2
        have := hcell (a.toNat + i) (by omega)
        rw [show off + a.toNat + i = off + (a.toNat + i) by omega, this]
        simp only [List.getD_eq_getElem?_getD, List.getElem?_take, List.getElem?_drop]
        rw [if_pos hi2]
  · rw [run_slice_lhm w' t ao xs.length cap ht kl kh km a (a + n) (a + n) a0 (by omega) (by omega) (by omega), hs]
    simp only [Result.andThen, sliced, cut3]
    rw [show (a + n).toNat = a.toNat + n.toNat by omega, show a.toNat + n.toNat - a.toNat = n.toNat by omega]

/-- a block made: noughts -/
theorem blk_made {k : IntKind} (w : World) (e : TypeId) (n : Nat) : Blk k e (w.alloc (.cells (madeCells #[.int k 0] n) e)) w.heap.size (List.replicate n 0) := by
  unfold Blk
  rw [heap_alloc_new]
  congr 2
  apply Array.ext
  · simp [madeCells]
  · intro i h1 h2
    simp [madeCells, Nat.mod_one]

/-- copy(dst, src): dst a stretch of a known block, src any slice of as many integers or fewer -/
theorem run_copy_rd {P : Program} {k : IntKind} {w : World} (dT sT : TypeId) (elem : TypeId) (hu : P.underlying dT = some (.slice elem)) (hsz : (P.info? elem).map (·.size) = some 1)
    {vd vs : Value} {g off n : Nat} (hp : Plc vd g off n) {xs cur : List Int} (hr : Rd k w vs xs) (hle : xs.length ≤ n) (hg : Blk k elem w g cur) (hfit : off + n ≤ cur.length)
    {B : Nat} {w0 : World} (hb : Below B w0 w) (hBg : B ≤ g) :
    ∃ w', (∀ ty, (Builtin.copy_ #[dT, sT] ty #[vd, vs]).run P w = .ok (.int .i64 xs.length) w') ∧ Blk k elem w' g (cur.take off ++ xs ++ cur.drop (off + xs.length)) ∧ Below B w0 w' := by
  obtain ⟨dp, rfl, hdp⟩ := hp
  obtain ⟨ao, cap, rfl, hc, hn, hx⟩ := rd_form hr
  have hlen : (xs.map (Value.int k)).length = xs.length := by simp
  rcases Nat.eq_zero_or_pos xs.length with h0 | h0
  · have hx0 : xs = [] := List.eq_nil_of_length_eq_zero h0
    subst hx0
    refine ⟨w, fun ty => ?_, by simpa using hg, hb⟩
    have := run_copy_none (P := P) w dT sT ty elem dp ao n n 0 cap hu hsz (Nat.zero_min n)
    simpa [goInt] using this
  · obtain ⟨hm, b, o2, rfl, hcell⟩ := hx h0
    obtain rfl := hdp (by omega)
    unfold Blk at hg
    have hrun := fun ty => run_copy_row (P := P) w dT sT ty elem g off n n ⟨b, o2, none⟩ xs.length cap (cur.map (Value.int k)).toArray elem (xs.map (Value.int k)) hu hsz hg (by rw [hlen]; exact (Nat.min_eq_left hle).symm) ?_ (by simp; omega) ?_
    · rw [hlen] at hrun
      refine ⟨_, hrun, ?_, below_setRow hb hBg _⟩
      · unfold Blk
        rw [setRow_heap w g _ _ elem _ hg]
        congr 2
        simp
    · intro j v hj
      rw [List.getElem?_map] at hj
      cases hq : xs[j]? with
      | none => rw [hq] at hj; cases hj
      | some y =>
        rw [hq] at hj
        simp at hj
        subst hj
        have hj2 : j < xs.length := by
          rcases Nat.lt_or_ge j xs.length with h | h
          · exact h
          · rw [List.getElem?_eq_none h] at hq; cases hq
        have := hcell j hj2
        rw [List.getD_eq_getElem?_getD, hq] at this
        simp at this
        by_cases hz : j = 0
        · subst hz; simpa [Addr.add] using this
        · simpa [Addr.add, hz] using this
    · intro v hv
      simp only [List.mem_map] at hv
      obtain ⟨y, _, rfl⟩ := hv
      rfl
/-- copy into no slice -/
theorem run_copy_nowhere {P : Program} (w : World) (dT sT ty elem : TypeId) (hu : P.underlying dT = some (.slice elem)) (hsz : (P.info? elem).map (·.size) = some 1) (S : ByteArray) :
    (Builtin.copy_ #[dT, sT] ty #[.slice none 0 0, .string S]).run P w = .ok (.int .i64 0) w := by
  cases hq : P.info? elem with
  | none => simp [hq] at hsz
  | some i => simp [Builtin.copy_, run_underlying hu, Builtin.lenOf, Builtin.firstCells, sizeOf, typeInfo, hq, storeCells, goInt]
theorem run_copy_nowhere_rd {P : Program} {k : IntKind} {v : Value} {xs : List Int} {w : World} (h : Rd k w v xs) (w' : World) (dT sT ty elem : TypeId) (hu : P.underlying dT = some (.slice elem)) (hsz : (P.info? elem).map (·.size) = some 1) :
    (Builtin.copy_ #[dT, sT] ty #[.slice none 0 0, v]).run P w' = .ok (.int .i64 0) w' := by
  obtain ⟨ao, cap, rfl, _⟩ := rd_form h
  exact run_copy_none (P := P) w' dT sT ty elem none ao 0 0 xs.length cap hu hsz (Nat.min_zero _)
/-- copy(dst, s): the same of a text -/
theorem run_copy_str {P : Program} {w : World} (dT sT : TypeId) (elem : TypeId) (hu : P.underlying dT = some (.slice elem)) (hsz : (P.info? elem).map (·.size) = some 1)
    {vd : Value} {g off n : Nat} (hp : Plc vd g off n) (S : ByteArray) {cur : List Int} (hle : S.size ≤ n) (hg : Blk .u8 elem w g cur) (hfit : off + n ≤ cur.length)
    {B : Nat} {w0 : World} (hb : Below B w0 w) (hBg : B ≤ g) :
    ∃ w', (∀ ty, (Builtin.copy_ #[dT, sT] ty #[vd, .string S]).run P w = .ok (.int .i64 S.size) w') ∧ Blk .u8 elem w' g (cur.take off ++ LB S ++ cur.drop (off + S.size)) ∧ Below B w0 w' := by
  obtain ⟨dp, rfl, hdp⟩ := hp
  rcases Nat.eq_zero_or_pos S.size with h0 | h0
  · have hl : LB S = [] := List.eq_nil_of_length_eq_zero (by rw [LB_len]; exact h0)
    refine ⟨w, fun ty => ?_, by rw [hl, h0]; simpa using hg, hb⟩
    have hrun := Lib.run_copy_empty_string (P := P) w dT sT ty elem dp n n S hu (by rw [hsz]; rfl) h0
    rw [hrun, h0]
    rfl
  · obtain rfl := hdp (by omega)
    unfold Blk at hg
    refine ⟨_, fun ty => Lib.run_copy_row_string (P := P) w dT sT ty elem g off n n S _ elem hu hsz hg hle (by simp; omega), ?_, below_setRow hb hBg _⟩
    unfold Blk
    rw [setRow_heap w g _ _ elem _ hg]
    congr 2
    simp [Lib.byteCells, LB]
end Go.Proofs.Ytlnlifijnijgmaa
