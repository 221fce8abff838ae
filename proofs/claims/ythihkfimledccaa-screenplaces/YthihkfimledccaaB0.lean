/-
  Texts of one proof, laid one behind the other: Sl Arr Pc1 Pc2 Pc3 Pc4.
-/
import Derived.WalkKit
import Derived.ProofKit
import Derived.OpenShut
import Derived.WalkLawsBesides
import Derived.Handy
import Derived.Deep.Light
import Derived.Deep.QuietTactic
import Derived.BigQuiet
import Derived.Deep.RegionWith
import Derived.Below
import Derived.Laws.AppendOwnNone
import Derived.ChangeSlices
import Derived.SizedLaws
namespace Go.Proofs.Ythihkfimledccaa
open Go.ChangeShapes Go.WideShapes Go.ChangeAt Go.RowKit
set_option linter.unusedVariables false
set_option linter.unusedSimpArgs false

/-
  Slices of integers that are read: what a slice value reads as in a world, and that it reads the same when only new blocks are laid. No Go text in sight.
-/
theorem hid {p : Prop} (h : p) : Hid p := h
theorem ret_b {a b : Bool} (h : a = b) : Ending.returned (.bool a) = .returned (.bool b) := by rw [h]
/-- what was there reads the same behind a call that leaves all below its first new block -/
theorem below_cell {w w' : World} (h : Below w.heap.size w w') {a : Addr} {v : Value} (hc : w.cell? a = some v) : w'.cell? a = some v :=
  (h.cell (p := a) (World.block_lt_of_cell? w a hc)).trans hc
theorem below_trans {a b c : World} (h : Below a.heap.size a b) (g : Below b.heap.size b c) : Below a.heap.size a c :=
  h.trans (g.mono h.size)
theorem below_drewN {a b : World} (h : Below a.heap.size a b) (n : Nat) : Below a.heap.size a (b.drewN n) := h.trans ⟨rfl, rfl, rfl, Nat.le_refl _, fun _ _ => rfl⟩
theorem below_grown {a b c : World} {row : Option Nat} (h : Below a.heap.size a b) (g : b.grownBy c row) (hr : ∀ k, row = some k → a.heap.size ≤ k) : Below a.heap.size a c :=
  h.grown g h.size hr

/-- the slice value v reads as the integers xs in the world w: an empty one, or one whose cells lie at a plain address -/
def Rd (k : IntKind) (w : World) (v : Value) (xs : List Int) : Prop :=
  (∃ ao cap, v = .slice ao 0 cap ∧ (ao = none → cap = 0) ∧ xs = []) ∨
  ∃ b off cap, v = .slice (some ⟨b, off, none⟩) xs.length cap ∧ 0 < xs.length ∧ xs.length ≤ cap ∧ cap ≤ maxLen ∧ ∀ i, i < xs.length → w.cell? ⟨b, off + i, none⟩ = some (.int k (xs.getD i 0))
theorem Rd.below {k : IntKind} {w w' : World} {v : Value} {xs : List Int} (h : Rd k w v xs) (g : Below w.heap.size w w') : Rd k w' v xs := by
  rcases h with h | ⟨b, off, cap, rfl, h0, h1, h2, hc⟩
  · exact Or.inl h
  · exact Or.inr ⟨b, off, cap, rfl, h0, h1, h2, fun i hi => below_cell g (hc i hi)⟩
theorem Rd_nil {k : IntKind} {w : World} : Rd k w (.slice none 0 0) [] := Or.inl ⟨none, 0, rfl, fun _ => rfl, rfl⟩
/-- what the call has built reads as what it was built of -/
theorem Rd_own {k : IntKind} {w : World} {base : Nat} {e : TypeId} {v : Value} {n : Nat} {xs : List Int} (h : w.ownsRow base e 1 v n (xs.map (Value.int k))) : Rd k w v xs ∧ n = xs.length := by
  obtain ⟨hl, h⟩ := h
  have hn : n = xs.length := by simp at hl; omega
  refine ⟨?_, hn⟩
  rcases h with ⟨rfl, h0⟩ | ⟨g, cap, cur, rfl, hb, hg, hc, hm, hs, ht⟩
  · have : xs = [] := List.eq_nil_of_length_eq_zero (by omega)
    subst this
    exact Rd_nil
  · rcases Nat.eq_zero_or_pos xs.length with h0 | h0
    · have : xs = [] := List.eq_nil_of_length_eq_zero h0
      subst this
      exact Or.inl ⟨_, _, by rw [hn]; rfl, (fun h => by cases h), rfl⟩
    · refine Or.inr ⟨g, 0, cap, by rw [hn], h0, by omega, hm, fun i hi => ?_⟩
      have e1 : cur[i]? = some (.int k (xs.getD i 0)) := by
        have e2 : (cur.toList.take (n * 1))[i]? = some (.int k (xs.getD i 0)) := by
          rw [ht, List.getElem?_map, List.getElem?_eq_getElem hi]
          simp [List.getD_eq_getElem?_getD, List.getElem?_eq_getElem hi]
        rw [List.getElem?_take] at e2
        split at e2
        · simpa using e2
        · cases e2
      simp [World.cell?, hg, e1]
/-- append of a slice that is read onto one of the call's own: one way on, whatever the source -/
theorem wp_append_rd {P : Program} {w : World} {k : IntKind} {o : Oper} {a : Act} {K : Act → World → Prop} {Q : Exit → Act → World → Prop} (s x : Operand) (t : TypeId)
    (ho : o.op = .call { callee := .builtin .append, args := #[s, x], argTypes := #[t, t] })
    (base : Nat) (e : TypeId) (i : TypeInfo) (bytes : Nat) (ht : P.underlying t = some (.slice e)) (hi : P.info? e = some i) (hz : i.zero = some (.int k 0)) (hsize : i.size = 1) (hby : i.bytes = bytes)
    (v : Value) (ys : List Int) (hs : a.eval s = v) (hown : w.ownsRow base e 1 v ys.length (ys.map (Value.int k)))
    (vx : Value) (xs : List Int) (hx : a.eval x = vx) (hr : Rd k w vx xs)
    (h63 : ys.length + xs.length ≤ maxLen) (hbytes : (ys.length + xs.length) * bytes ≤ 140737488355328) (hbase : base ≤ w.heap.size)
    (h : ∀ v' w', w'.ownsRow base e 1 v' (ys ++ xs).length ((ys ++ xs).map (Value.int k)) → w.grownBy w' v.ownBlock → K (a.put o.dst v') w') : o.wp P a w K Q := by
  have h1 : ∀ u ∈ xs.map (Value.int k), u.oneCell' = true := by
    intro u hu
    simp only [List.mem_map] at hu
    obtain ⟨n, _, rfl⟩ := hu
    rfl
  rcases hr with ⟨ao, cap, rfl, hn, rfl⟩ | ⟨b, off, cap, rfl, h0, hc1, hc2, hc⟩
  · cases ao with
    | none =>
      obtain rfl := hn rfl
      have hrun := run_append_owned_none (P := P) (w := w) base t o.type e i 1 ht hi v ys.length (ys.map (Value.int k)) hown
      unfold Oper.wp
      simp [execOp, ho, resolve, invoke, builtin, hs, hx, hrun, Result.andThen]
      exact h v w (by simpa using hown) ⟨rfl, rfl, rfl, Nat.le_refl _, fun _ _ _ => rfl⟩
    | some ad =>
      refine wp_append_own w s x t ho base e i (.int k 0) 1 bytes ht hi hz hsize hby rfl (by decide) v ys.length _ hs hown ad 0 cap [] hx rfl (by simp) (by simp) (by simpa using h63) (by simpa using hbytes) hbase ?_
      intro v' w' h2 h3 _
      exact h v' w' (by simpa using h2) h3
  · refine wp_append_own w s x t ho base e i (.int k 0) 1 bytes ht hi hz hsize hby rfl (by decide) v ys.length _ hs hown ⟨b, off, none⟩ xs.length cap (xs.map (Value.int k)) hx (by simp) ?_ h1 h63 hbytes hbase ?_
    · intro j u hj
      rw [List.getElem?_map] at hj
      cases hg : xs[j]? with
      | none => rw [hg] at hj; cases hj
      | some n =>
        rw [hg] at hj
        simp at hj
        subst hj
        have hj2 : j < xs.length := by
          rcases Nat.lt_or_ge j xs.length with h | h
          · exact h
          · rw [List.getElem?_eq_none h] at hg; cases hg
        have := hc j hj2
        rw [List.getD_eq_getElem?_getD, hg] at this
        simp at this
        by_cases hz : j = 0
        · subst hz; simpa [Addr.add] using this
        · simpa [Addr.add, hz] using this
    · intro v' w' h2 h3 _
      exact h v' w' (by simpa using h2) h3
theorem wpList_append_rd {P : Program} {w : World} {k : IntKind} {ops : Array Oper} {rest : List Oper} {o : Oper} {a : Act} {Q : Exit → Act → World → Prop} (hgd : o.guard = none) (s x : Operand) (t : TypeId)
    (ho : o.op = .call { callee := .builtin .append, args := #[s, x], argTypes := #[t, t] })
    (base : Nat) (e : TypeId) (i : TypeInfo) (bytes : Nat) (ht : P.underlying t = some (.slice e)) (hi : P.info? e = some i) (hz : i.zero = some (.int k 0)) (hsize : i.size = 1) (hby : i.bytes = bytes)
    (v : Value) (ys : List Int) (hs : a.eval s = v) (hown : w.ownsRow base e 1 v ys.length (ys.map (Value.int k)))
    (vx : Value) (xs : List Int) (hx : a.eval x = vx) (hr : Rd k w vx xs)
    (h63 : ys.length + xs.length ≤ maxLen) (hbytes : (ys.length + xs.length) * bytes ≤ 140737488355328) (hbase : base ≤ w.heap.size)
    (h : ∀ v' w', w'.ownsRow base e 1 v' (ys ++ xs).length ((ys ++ xs).map (Value.int k)) → w.grownBy w' v.ownBlock → wpList P ops Q rest (a.put o.dst v') w') : wpList P ops Q (o :: rest) a w :=
  wpList_plain hgd fun _ hK => wp_append_rd s x t ho base e i bytes ht hi hz hsize hby v ys hs hown vx xs hx hr h63 hbytes hbase fun v' w' h2 h3 => hK _ _ (h v' w' h2 h3)
/-- the same behind a guard that is met ('ok && f(append(..))') -/
theorem wpList_append_rdg {P : Program} {w : World} {k : IntKind} {ops : Array Oper} {rest : List Oper} {o : Oper} {a : Act} {Q : Exit → Act → World → Prop} (hgd : Region.wanted o (yielded ops a.tmps) = true) (s x : Operand) (t : TypeId)
    (ho : o.op = .call { callee := .builtin .append, args := #[s, x], argTypes := #[t, t] })
    (base : Nat) (e : TypeId) (i : TypeInfo) (bytes : Nat) (ht : P.underlying t = some (.slice e)) (hi : P.info? e = some i) (hz : i.zero = some (.int k 0)) (hsize : i.size = 1) (hby : i.bytes = bytes)
    (v : Value) (ys : List Int) (hs : a.eval s = v) (hown : w.ownsRow base e 1 v ys.length (ys.map (Value.int k)))
    (vx : Value) (xs : List Int) (hx : a.eval x = vx) (hr : Rd k w vx xs)
    (h63 : ys.length + xs.length ≤ maxLen) (hbytes : (ys.length + xs.length) * bytes ≤ 140737488355328) (hbase : base ≤ w.heap.size)
    (h : ∀ v' w', w'.ownsRow base e 1 v' (ys ++ xs).length ((ys ++ xs).map (Value.int k)) → w.grownBy w' v.ownBlock → wpList P ops Q rest (a.put o.dst v') w') : wpList P ops Q (o :: rest) a w :=
  wpList_step fun K hK => by
    rw [if_pos hgd]
    exact wp_append_rd s x t ho base e i bytes ht hi hz hsize hby v ys hs hown vx xs hx hr h63 hbytes hbase fun v' w' h2 h3 => hK _ _ (h v' w' h2 h3)

/-! what is asked of a slice that is read: its length, a cut, a cell -/
theorem rd_form {k : IntKind} {w : World} {v : Value} {xs : List Int} (h : Rd k w v xs) : ∃ ao cap, v = .slice ao xs.length cap ∧ xs.length ≤ cap ∧ (ao = none → cap = 0) ∧
    (0 < xs.length → cap ≤ maxLen ∧ ∃ b off, ao = some ⟨b, off, none⟩ ∧ ∀ i, i < xs.length → w.cell? ⟨b, off + i, none⟩ = some (.int k (xs.getD i 0))) := by
  rcases h with ⟨ao, cap, rfl, h1, rfl⟩ | ⟨b, off, cap, rfl, h0, h1, h2, hc⟩
  · exact ⟨ao, cap, rfl, Nat.zero_le _, h1, fun h => by simp at h⟩
  · exact ⟨_, cap, rfl, h1, (fun h => by cases h), fun _ => ⟨h2, b, off, rfl, hc⟩⟩
theorem rd_len {P : Program} {k : IntKind} {w : World} {v : Value} {xs : List Int} (h : Rd k w v xs) {t e : TypeId} (ht : P.underlying t = some (.slice e)) (ty : TypeId) (w' : World) :
    (Builtin.len_ #[t] ty #[v]).run P w' = .ok (.int .i64 xs.length) w' := by
  obtain ⟨ao, cap, rfl, _⟩ := rd_form h
  simp [Builtin.len_, run_underlying ht, goInt]
theorem rd_cut {P : Program} {k : IntKind} {w : World} {v : Value} {xs : List Int} (h : Rd k w v xs) {t : TypeId} (ht : P.underlying t = some (.slice (P.elem t))) (hs : ∀ w, (sizeOf (P.elem t)).run P w = .ok 1 w) (lo hi : Nat) (h1 : lo ≤ hi) (h2 : hi ≤ xs.length) :
    ∃ v', Rd k w v' ((xs.drop lo).take (hi - lo)) ∧ (∀ w', (Instr.slice t v (some (.int .i64 (lo : Int))) (some (.int .i64 (hi : Int))) none).run P w' = .ok v' w') ∧
      (lo = 0 → ∀ w', (Instr.slice t v none (some (.int .i64 (hi : Int))) none).run P w' = .ok v' w') ∧ (hi = xs.length → ∀ w', (Instr.slice t v (some (.int .i64 (lo : Int))) none none).run P w' = .ok v' w') := by
  obtain ⟨ao, cap, rfl, hc, hn, hx⟩ := rd_form h
  refine ⟨sliced ao lo hi cap 1, ?_, fun w' => ?_, fun h0 w' => ?_, fun h0 w' => ?_⟩
  · have hl : ((xs.drop lo).take (hi - lo)).length = hi - lo := by simp; omega
    rcases Nat.eq_zero_or_pos (hi - lo) with hz | hz
    · refine Or.inl ⟨if cap = lo then ao else ao.map (·.add (lo * 1)), cap - lo, by rw [sliced, hz], ?_, by rw [hz]; simp⟩
      intro he
      by_cases hcl : cap = lo
      · omega
      · rw [if_neg hcl] at he
        cases ao with
        | none => have := hn rfl; omega
        | some a => cases he
    · obtain ⟨hm, b, off, rfl, hcell⟩ := hx (by omega)
      refine Or.inr ⟨b, off + lo, cap - lo, ?_, by omega, by omega, by omega, fun i hi2 => ?_⟩
      · rw [sliced, hl, if_neg (by omega)]
        congr 1
        simp [Addr.add]
      · rw [hl] at hi2
        have := hcell (lo + i) (by omega)
        rw [show off + lo + i = off + (lo + i) by omega, this]
        simp only [List.getD_eq_getElem?_getD, List.getElem?_take, List.getElem?_drop]
        rw [if_pos hi2]
  · rw [run_slice_lh w' t ao xs.length cap ht .i64 .i64 (lo : Int) (hi : Int) (by omega) (by omega) (by omega), hs]
    simp [Result.andThen]
  · subst h0
    rw [run_slice_h w' t ao xs.length cap ht .i64 (hi : Int) (by omega) (by omega), hs]
    simp [Result.andThen]
  · subst h0
    rw [run_slice_l w' t ao xs.length cap ht .i64 (lo : Int) (by omega) (by omega), hs]
    simp [Result.andThen]
/-- the same with the bounds as the walk spells them -/
theorem rd_cutI {P : Program} {k : IntKind} {w : World} {v : Value} {xs : List Int} (h : Rd k w v xs) {t : TypeId} (ht : P.underlying t = some (.slice (P.elem t))) (hs : ∀ w, (sizeOf (P.elem t)).run P w = .ok 1 w) (lo hi : Int) (h0 : 0 ≤ lo) (h1 : lo ≤ hi) (h2 : hi ≤ xs.length) :
    ∃ v', Rd k w v' ((xs.drop lo.toNat).take (hi - lo).toNat) ∧ (∀ w', (Instr.slice t v (some (.int .i64 lo)) (some (.int .i64 hi)) none).run P w' = .ok v' w') ∧
      (lo = 0 → ∀ w', (Instr.slice t v none (some (.int .i64 hi)) none).run P w' = .ok v' w') ∧ (hi = xs.length → ∀ w', (Instr.slice t v (some (.int .i64 lo)) none none).run P w' = .ok v' w') := by
  obtain ⟨l, rfl⟩ := Int.eq_ofNat_of_zero_le h0
  obtain ⟨m, rfl⟩ := Int.eq_ofNat_of_zero_le (show 0 ≤ hi by omega)
  obtain ⟨v', r, a, b, c⟩ := rd_cut h ht hs l m (by omega) (by omega)
  refine ⟨v', ?_, a, fun h => b (by omega), fun h => c (by omega)⟩
  rw [show ((l : Int)).toNat = l by omega, show ((m : Int) - (l : Int)).toNat = m - l by omega]
  exact r
theorem rd_idx {P : Program} {k : IntKind} {w : World} {v : Value} {xs : List Int} (h : Rd k w v xs) {t : TypeId} (ht : P.underlying t = some (.slice (P.elem t))) (hs : ∀ w, (sizeOf (P.elem t)).run P w = .ok 1 w) (i : Int) (h0 : 0 ≤ i) (h1 : i < xs.length) :
    ∃ a : Addr, (∀ w', (Instr.indexAt t v (.int .i64 i)).run P w' = .ok (.pointer (some a)) w') ∧ w.cell? a = some (.int k (xs.getD i.toNat 0)) := by
  obtain ⟨ao, cap, rfl, hc, hn, hx⟩ := rd_form h
  obtain ⟨hm, b, off, rfl, hcell⟩ := hx (by omega)
  refine ⟨⟨b, off + i.toNat, none⟩, fun w' => ?_, hcell i.toNat (by omega)⟩
  rw [run_indexAt_slice (h := ht), if_pos ⟨h0, h1⟩, hs]
  simp only [Result.andThen, Nat.mul_one]
  congr 3
  unfold Addr.add
  split
  · rename_i hz; rw [hz]; rfl
  · rfl
theorem rd_one {k : IntKind} (w : World) (x : Int) (T : TypeId) : Rd k (w.alloc (.cells #[.int k x] T)) (.slice (some ⟨w.heap.size, 0, none⟩) 1 1) [x] :=
  Or.inr ⟨w.heap.size, 0, 1, rfl, by simp, by simp, by decide, fun i hi => by
    have : i = 0 := by simp at hi; omega
    subst this
    rw [World.cell?_alloc_new]
    rfl⟩
/-- a list that is written out -/
theorem rd_lit {k : IntKind} (w : World) (xs : List Int) (T : TypeId) (h0 : 0 < xs.length) (h1 : xs.length ≤ maxLen) : Rd k (w.alloc (.cells (xs.map (Value.int k)).toArray T)) (.slice (some ⟨w.heap.size, 0, none⟩) xs.length xs.length) xs :=
  Or.inr ⟨w.heap.size, 0, xs.length, rfl, h0, Nat.le_refl _, h1, fun i hi => by
    rw [World.cell?_alloc_new]
    simp [List.getD_eq_getElem?_getD, List.getElem?_eq_getElem hi]⟩
/-- blocks laid one behind the other -/
def lay (w : World) (os : List Obj) : World := os.foldl World.alloc w
theorem lay_below (w : World) (os : List Obj) : Below w.heap.size w (lay w os) := by
  have : ∀ (os : List Obj) (v : World), Below w.heap.size w v → Below w.heap.size w (os.foldl World.alloc v) := by
    intro os
    induction os with
    | nil => intro v h; exact h
    | cons o os ih => intro v h; exact ih _ (h.alloc h.size o)
  exact this os w (Below.refl _ _)
theorem size_al (w : World) (o : Obj) : (w.alloc o).heap.size = w.heap.size + 1 := by unfold World.alloc; simp
theorem lay_at (os : List Obj) : ∀ (w : World) (j : Nat), j < os.length → (lay w os).heap[w.heap.size + j]? = os[j]? := by
  induction os with
  | nil => intro w j h; simp at h
  | cons o os ih =>
    intro w j h
    cases j with
    | zero =>
      show (lay (w.alloc o) os).heap[w.heap.size]? = some o
      rw [(lay_below (w.alloc o) os).block w.heap.size (by rw [size_al]; omega)]
      exact heap_alloc_new w o
    | succ j =>
      have := ih (w.alloc o) j (by simpa using h)
      rw [size_al] at this
      show (lay (w.alloc o) os).heap[w.heap.size + (j + 1)]? = os[j]?
      rw [← this]
      congr 1
      omega
theorem rd_lay {k : IntKind} (w : World) (os : List Obj) (j : Nat) (hj : j < os.length) (xs : List Int) (T : TypeId) (h : os[j]? = some (.cells (xs.map (Value.int k)).toArray T)) (h0 : 0 < xs.length) (h1 : xs.length ≤ maxLen) :
    Rd k (lay w os) (.slice (some ⟨w.heap.size + j, 0, none⟩) xs.length xs.length) xs :=
  Or.inr ⟨w.heap.size + j, 0, xs.length, rfl, h0, Nat.le_refl _, h1, fun i hi => by
    have e := lay_at os w j hj
    rw [h] at e
    simp [World.cell?, e, List.getD_eq_getElem?_getD, List.getElem?_eq_getElem hi]⟩
theorem own_below {w w' : World} {base : Nat} {e : TypeId} {v : Value} {n : Nat} {xs : List Value} (h : w.ownsRow base e 1 v n xs) (g : Below w.heap.size w w') : w'.ownsRow base e 1 v n xs := by
  obtain ⟨hl, h⟩ := h
  refine ⟨hl, ?_⟩
  rcases h with h | ⟨b, cap, cur, rfl, hb, hg, hc, hm, hs, ht⟩
  · exact Or.inl h
  · refine Or.inr ⟨b, cap, cur, rfl, hb, ?_, hc, hm, hs, ht⟩
    rw [g.block b (Array.getElem?_eq_some_iff.1 hg).1]
    exact hg

/-- a parameter that is boxed -/
theorem box_cell (w : World) (cs : Array Value) (T : TypeId) (i : Nat) (v : Value) (h : cs[i]? = some v) : (w.alloc (.cells cs T)).cell? ⟨w.heap.size, i, none⟩ = some v := by rw [World.cell?_alloc_new]; exact h
theorem box_below (w : World) (o : Obj) : Below w.heap.size w (w.alloc o) := (Below.refl _ _).alloc (Nat.le_refl _) _
/-- a slice of integers that came in reads as some list; what its datum weighs bounds its length -/
theorem rd_open {H : Type} {enc : TypeId × Value → H} {P : Program} {W : World} {t e : TypeId} {k : IntKind} {a : Option Addr} {len cap : Nat} {d : DataW H} {ps : List MemPlace}
    (ht : P.underlying t = some (.slice e)) (he : P.underlying e = some (.int k)) (hc : P.cellsOf e = 1) (h : DataW.Trod enc P W 0 (fun _ => true) true t (.slice a len cap) d ps) :
    ∃ xs : List Int, Rd k W (.slice a len cap) xs ∧ (∀ n ∈ xs, (Lit.int k n).wf = true) ∧ (xs = [] ∨ ∃ ys zs, d = .slice ys zs ∧ xs.length ≤ ys.length + zs.length) := by
  obtain ⟨fuel, hf⟩ := h
  rcases open_ints ht he hc hf with ⟨hcs, _⟩ | ⟨x, l, c, zs, hcs, _, hl, hm, hz, hd, hcell, hwz⟩
  · simp [Value.cells] at hcs
    obtain ⟨rfl, rfl, rfl⟩ := hcs
    exact ⟨[], Rd_nil, fun n hn => by simp at hn, Or.inl rfl⟩
  · simp [Value.cells] at hcs
    obtain ⟨rfl, rfl, rfl⟩ := hcs
    have hz2 : zs.length = cap := by simpa using hz
    have hxl : (zs.take len).length = len := by simp; omega
    refine ⟨zs.take len, ?_, fun n hn => hwz n (List.mem_of_mem_take hn), Or.inr ⟨_, _, congrArg Prod.fst hd, by simp [lits]⟩⟩
    rcases Nat.eq_zero_or_pos len with h0 | h0
    · subst h0
      exact Or.inl ⟨some x, cap, rfl, (fun h => by cases h), by simp⟩
    · obtain ⟨b, off, spot⟩ := x
      have hc0 := hcell 0 (by omega)
      have hspot : spot = none := by simpa [Addr.add] using World.cell?_spot hc0
      subst hspot
      refine Or.inr ⟨b, off, cap, by rw [hxl], by omega, by omega, hm, fun i hi => ?_⟩
      have := hcell i (by omega)
      have e1 : (zs.take len).getD i 0 = zs.getD i 0 := by
        rw [List.getD_eq_getElem?_getD, List.getD_eq_getElem?_getD, List.getElem?_take, if_pos (by omega)]
      rw [e1, ← this]
      by_cases hi0 : i = 0
      · subst hi0; simp [Addr.add]
      · simp [Addr.add, hi0]

/-
  Arrays of cells handed in by value, as the reader reads them: taken apart and put together again. No Go text in sight.
-/
section
variable {H : Type} {enc : TypeId × Value → H} {P : Program} {W : World} {base : Nat} {b2 : Nat} {spare : Nat → Bool} {held : Bool}
theorem open_arr {n : Nat} {t e : TypeId} {v : Value} {d : DataW H} {p : List MemPlace} {k : IntKind} (ht : P.underlying t = some (.array n e)) (he : P.underlying e = some (.int k)) (hce : P.cellsOf e = 1) (hct : P.cellsOf t = n)
    (hok : Value.okWide P W .any base t v) (h : DataW.Trod enc P W b2 spare held t v d p) :
    ∃ xs : List Int, xs.length = n ∧ v = .agg (xs.map (Value.int k)).toArray ∧ d = .agg (xs.map fun x => DataW.lit (.int k x)) ∧ p = [] ∧ ∀ x ∈ xs, (Lit.int k x).wf = true := by
  obtain ⟨cs, rfl, hsz, _⟩ : ∃ cs, v = .agg cs ∧ cs.size = P.cellsOf t ∧ Row.okWide P W .any base t cs := by
    simpa [Value.okWide, ht] using hok
  obtain ⟨fuel, hf⟩ := h
  have hf2 : DataW.trod enc P W b2 spare held fuel t cs.toList = some (d, p) := hf
  obtain ⟨ys, m, _, hx, hl, hlen, hel⟩ := DataW.trod_array ht hf2
  rw [hct] at hl
  rw [hce] at hel
  simp only [Nat.mul_one] at hel
  have key : ∀ i (hi : i < n), ∃ x : Int, cs.toList[i]? = some (Value.int k x) ∧ ys[i]? = some (.lit (.int k x), []) ∧ (Lit.int k x).wf = true := by
    intro i hi
    have h1 := hel i hi
    have hi2 : i < cs.toList.length := by omega
    have hi3 : i < ys.length := by omega
    rw [List.getElem?_eq_getElem hi3] at h1
    have e1 : (cs.toList.drop i).take 1 = [cs.toList[i]] := by
      rw [List.drop_eq_getElem_cons hi2]; simp
    rw [e1] at h1
    obtain ⟨x, ex, ey, wx⟩ := DataW.trod_int he h1
    simp at ex
    refine ⟨x, ?_, ?_, wx⟩
    · rw [List.getElem?_eq_getElem hi2]; simp [ex]
    · rw [List.getElem?_eq_getElem hi3, ey]
  let f : Nat → Int := fun i => match cs.toList[i]? with | some (Value.int _ x) => x | _ => 0
  have kf : ∀ i (hi : i < n), cs.toList[i]? = some (Value.int k (f i)) ∧ ys[i]? = some (.lit (.int k (f i)), []) ∧ (Lit.int k (f i)).wf = true := by
    intro i hi
    obtain ⟨x, h1, h2, h3⟩ := key i hi
    have : f i = x := by simp only [f, h1]
    rw [this]; exact ⟨h1, h2, h3⟩
  have ecs : cs.toList = ((List.range n).map f).map (Value.int k) := by
    apply List.ext_getElem?
    intro i
    by_cases hi : i < n
    · rw [(kf i hi).1]; simp [hi]
    · rw [List.getElem?_eq_none (by omega), List.getElem?_eq_none (by simp; omega)]
  have eys : ys = ((List.range n).map f).map fun x => (DataW.lit (.int k x), ([] : List MemPlace)) := by
    apply List.ext_getElem?
    intro i
    by_cases hi : i < n
    · rw [(kf i hi).2.1]; simp [hi]
    · rw [List.getElem?_eq_none (by omega), List.getElem?_eq_none (by simp; omega)]
  simp only [Prod.mk.injEq] at hx
  refine ⟨(List.range n).map f, by simp, ?_, ?_, ?_, ?_⟩
  · rw [← ecs]
  · rw [hx.1, eys]; simp
  · rw [hx.2, eys]; simp
  · intro x hx
    simp only [List.mem_map, List.mem_range] at hx
    obtain ⟨i, hi, rfl⟩ := hx
    exact (kf i hi).2.2

theorem shut_arr2 {t e : TypeId} {k : IntKind} {x0 x1 : Int} (ht : P.underlying t = some (.array 2 e)) (he : P.underlying e = some (.int k)) (hce : P.cellsOf e = 1) (hct : P.cellsOf t = 2)
    (w0 : (Lit.int k x0).wf = true) (w1 : (Lit.int k x1).wf = true) :
    DataW.Trod enc P W b2 spare held t (.agg #[.int k x0, .int k x1]) (.agg [.lit (.int k x0), .lit (.int k x1)]) [] :=
  ⟨2, by simp [DataW.trod, Value.cells, ht, he, hce, hct, w0, w1, show List.range 2 = [0, 1] from rfl]⟩
theorem shut_arr4 {t e : TypeId} {k : IntKind} {x0 x1 x2 x3 : Int} (ht : P.underlying t = some (.array 4 e)) (he : P.underlying e = some (.int k)) (hce : P.cellsOf e = 1) (hct : P.cellsOf t = 4)
    (w0 : (Lit.int k x0).wf = true) (w1 : (Lit.int k x1).wf = true) (w2 : (Lit.int k x2).wf = true) (w3 : (Lit.int k x3).wf = true) :
    DataW.Trod enc P W b2 spare held t (.agg #[.int k x0, .int k x1, .int k x2, .int k x3]) (.agg [.lit (.int k x0), .lit (.int k x1), .lit (.int k x2), .lit (.int k x3)]) [] :=
  ⟨2, by simp [DataW.trod, Value.cells, ht, he, hce, hct, w0, w1, w2, w3, show List.range 4 = [0, 1, 2, 3] from rfl]⟩
theorem open_arr2 {t e : TypeId} {v : Value} {d : DataW H} {p : List MemPlace} {k : IntKind} (ht : P.underlying t = some (.array 2 e)) (he : P.underlying e = some (.int k)) (hce : P.cellsOf e = 1) (hct : P.cellsOf t = 2)
    (hok : Value.okWide P W .any base t v) (h : DataW.Trod enc P W b2 spare held t v d p) :
    ∃ x0 x1 : Int, v = .agg #[.int k x0, .int k x1] ∧ d = .agg [.lit (.int k x0), .lit (.int k x1)] ∧ p = [] ∧ (Lit.int k x0).wf = true ∧ (Lit.int k x1).wf = true := by
  obtain ⟨xs, hl, hv, hd, hp, hw⟩ := open_arr ht he hce hct hok h
  match xs, hl with
  | [x0, x1], _ => exact ⟨x0, x1, by simpa using hv, by simpa using hd, hp, hw x0 (by simp), hw x1 (by simp)⟩
theorem shut_arr3 {t e : TypeId} {k : IntKind} {x0 x1 x2 : Int} (ht : P.underlying t = some (.array 3 e)) (he : P.underlying e = some (.int k)) (hce : P.cellsOf e = 1) (hct : P.cellsOf t = 3)
    (w0 : (Lit.int k x0).wf = true) (w1 : (Lit.int k x1).wf = true) (w2 : (Lit.int k x2).wf = true) :
    DataW.Trod enc P W b2 spare held t (.agg #[.int k x0, .int k x1, .int k x2]) (.agg [.lit (.int k x0), .lit (.int k x1), .lit (.int k x2)]) [] :=
  ⟨2, by simp [DataW.trod, Value.cells, ht, he, hce, hct, w0, w1, w2, show List.range 3 = [0, 1, 2] from rfl]⟩
theorem open_arr3 {t e : TypeId} {v : Value} {d : DataW H} {p : List MemPlace} {k : IntKind} (ht : P.underlying t = some (.array 3 e)) (he : P.underlying e = some (.int k)) (hce : P.cellsOf e = 1) (hct : P.cellsOf t = 3)
    (hok : Value.okWide P W .any base t v) (h : DataW.Trod enc P W b2 spare held t v d p) :
    ∃ x0 x1 x2 : Int, v = .agg #[.int k x0, .int k x1, .int k x2] ∧ d = .agg [.lit (.int k x0), .lit (.int k x1), .lit (.int k x2)] ∧ p = [] ∧ (Lit.int k x0).wf = true ∧ (Lit.int k x1).wf = true ∧ (Lit.int k x2).wf = true := by
  obtain ⟨xs, hl, hv, hd, hp, hw⟩ := open_arr ht he hce hct hok h
  match xs, hl with
  | [x0, x1, x2], _ => exact ⟨x0, x1, x2, by simpa using hv, by simpa using hd, hp, hw x0 (by simp), hw x1 (by simp), hw x2 (by simp)⟩
theorem open_arr4 {t e : TypeId} {v : Value} {d : DataW H} {p : List MemPlace} {k : IntKind} (ht : P.underlying t = some (.array 4 e)) (he : P.underlying e = some (.int k)) (hce : P.cellsOf e = 1) (hct : P.cellsOf t = 4)
    (hok : Value.okWide P W .any base t v) (h : DataW.Trod enc P W b2 spare held t v d p) :
    ∃ x0 x1 x2 x3 : Int, v = .agg #[.int k x0, .int k x1, .int k x2, .int k x3] ∧ d = .agg [.lit (.int k x0), .lit (.int k x1), .lit (.int k x2), .lit (.int k x3)] ∧ p = [] ∧ (Lit.int k x0).wf = true ∧ (Lit.int k x1).wf = true ∧ (Lit.int k x2).wf = true ∧ (Lit.int k x3).wf = true := by
  obtain ⟨xs, hl, hv, hd, hp, hw⟩ := open_arr ht he hce hct hok h
  match xs, hl with
  | [x0, x1, x2, x3], _ => exact ⟨x0, x1, x2, x3, by simpa using hv, by simpa using hd, hp, hw x0 (by simp), hw x1 (by simp), hw x2 (by simp), hw x3 (by simp)⟩
end

/-
  Pictures as plain lists of points: turned by quarters, mirrored. No Go text in sight.
-/
def pxA (W : Nat) (P : List Int) (x y : Nat) : Int := P.getD (y * W + x) 0
def mkP (W H : Nat) (f : Nat → Nat → Int) : List Int := (List.range (W * H)).map fun j => f (j % W) (j / W)
theorem mkP_len (W H : Nat) (f : Nat → Nat → Int) : (mkP W H f).length = W * H := by simp [mkP]
theorem px_lt {W H x y : Nat} (hx : x < W) (hy : y < H) : y * W + x < W * H := by
  have h1 : (y + 1) * W ≤ H * W := Nat.mul_le_mul_right W hy
  rw [Nat.add_mul, Nat.one_mul] at h1
  rw [Nat.mul_comm W H]
  omega
theorem px_div {W x y : Nat} (hx : x < W) : (y * W + x) / W = y ∧ (y * W + x) % W = x := by
  have hW : 0 < W := by omega
  constructor
  · rw [Nat.add_comm, Nat.add_mul_div_right _ _ hW, Nat.div_eq_of_lt hx, Nat.zero_add]
  · rw [Nat.add_comm, Nat.add_mul_mod_self_right, Nat.mod_eq_of_lt hx]
theorem mkP_at {W H x y : Nat} (f : Nat → Nat → Int) (hx : x < W) (hy : y < H) : pxA W (mkP W H f) x y = f x y := by
  unfold pxA mkP
  rw [List.getD_eq_getElem?_getD, List.getElem?_map, List.getElem?_range (px_lt hx hy)]
  obtain ⟨h1, h2⟩ := px_div (y := y) hx
  simp only [Option.map_some, Option.getD_some, h1, h2]
theorem px_split {W H j : Nat} (hj : j < W * H) : j % W < W ∧ j / W < H ∧ j / W * W + j % W = j := by
  have hW : 0 < W := by
    rcases Nat.eq_zero_or_pos W with h | h
    · subst h; simp at hj
    · exact h
  refine ⟨Nat.mod_lt _ hW, Nat.div_lt_of_lt_mul hj, ?_⟩
  rw [Nat.mul_comm]
  exact Nat.div_add_mod j W
theorem px_ext {W H : Nat} {P Q : List Int} (hP : P.length = W * H) (hQ : Q.length = W * H) (h : ∀ x y, x < W → y < H → pxA W P x y = pxA W Q x y) : P = Q := by
  apply List.ext_getElem (hP.trans hQ.symm)
  intro j h1 h2
  obtain ⟨g1, g2, g3⟩ := px_split (show j < W * H by omega)
  have := h _ _ g1 g2
  unfold pxA at this
  rw [g3, List.getD_eq_getElem?_getD, List.getD_eq_getElem?_getD, List.getElem?_eq_getElem h1, List.getElem?_eq_getElem h2] at this
  exact this

abbrev Pic := Nat × Nat × List Int
/-- formed: as many points as the sides say -/
def pcF (p : Pic) : Prop := p.2.2.length = p.1 * p.2.1
/-- turned by a quarter -/
def pcQ (p : Pic) : Pic := (p.2.1, p.1, mkP p.2.1 p.1 fun X Y => pxA p.1 p.2.2 Y (p.2.1 - 1 - X))
def pcM (p : Pic) : Pic := (p.1, p.2.1, mkP p.1 p.2.1 fun x y => pxA p.1 p.2.2 (p.1 - 1 - x) y)
def pcT : Nat → Pic → Pic
  | 0, p => p
  | n + 1, p => pcQ (pcT n p)
theorem pc_ext {p q : Pic} (hp : pcF p) (hq : pcF q) (h1 : p.1 = q.1) (h2 : p.2.1 = q.2.1) (h : ∀ x y, x < p.1 → y < p.2.1 → pxA p.1 p.2.2 x y = pxA q.1 q.2.2 x y) : p = q := by
  obtain ⟨W, H, P⟩ := p
  obtain ⟨W', H', Q⟩ := q
  simp only at h1 h2 h
  subst h1 h2
  exact Prod.ext rfl (Prod.ext rfl (px_ext hp hq h))
theorem pcQ_f (p : Pic) : pcF (pcQ p) := by unfold pcF pcQ; simp only [mkP_len]
theorem pcM_f (p : Pic) : pcF (pcM p) := by unfold pcF pcM; simp only [mkP_len]
theorem pcQ_at (p : Pic) {x y : Nat} (hx : x < p.2.1) (hy : y < p.1) : pxA (pcQ p).1 (pcQ p).2.2 x y = pxA p.1 p.2.2 y (p.2.1 - 1 - x) := by
  unfold pcQ
  simp only
  rw [mkP_at _ hx hy]
theorem pcM_at (p : Pic) {x y : Nat} (hx : x < p.1) (hy : y < p.2.1) : pxA (pcM p).1 (pcM p).2.2 x y = pxA p.1 p.2.2 (p.1 - 1 - x) y := by
  unfold pcM
  simp only
  rw [mkP_at _ hx hy]
theorem pcQ_s (p : Pic) : (pcQ p).1 = p.2.1 ∧ (pcQ p).2.1 = p.1 := ⟨rfl, rfl⟩
theorem pcM_s (p : Pic) : (pcM p).1 = p.1 ∧ (pcM p).2.1 = p.2.1 := ⟨rfl, rfl⟩
/-- two quarters -/
theorem pcQQ_at (p : Pic) {x y : Nat} (hx : x < p.1) (hy : y < p.2.1) : pxA (pcQ (pcQ p)).1 (pcQ (pcQ p)).2.2 x y = pxA p.1 p.2.2 (p.1 - 1 - x) (p.2.1 - 1 - y) := by
  rw [pcQ_at (pcQ p) (show x < (pcQ p).2.1 from hx) (show y < (pcQ p).1 from hy)]
  exact pcQ_at p hy (show p.1 - 1 - x < p.1 by omega)
/-- four quarters are none -/
theorem pcQ4 {p : Pic} (hp : pcF p) : pcQ (pcQ (pcQ (pcQ p))) = p := by
  apply pc_ext (p := pcQ (pcQ (pcQ (pcQ p)))) (q := p) (pcQ_f _) hp rfl rfl
  intro x y hx hy
  have hx' : x < p.1 := hx
  have hy' : y < p.2.1 := hy
  rw [pcQQ_at (pcQ (pcQ p)) (show x < (pcQ (pcQ p)).1 from hx) (show y < (pcQ (pcQ p)).2.1 from hy),
    pcQQ_at p (show (pcQ (pcQ p)).1 - 1 - x < p.1 by show p.1 - 1 - x < p.1; omega) (show (pcQ (pcQ p)).2.1 - 1 - y < p.2.1 by show p.2.1 - 1 - y < p.2.1; omega)]
  show pxA p.1 p.2.2 (p.1 - 1 - (p.1 - 1 - x)) (p.2.1 - 1 - (p.2.1 - 1 - y)) = _
  rw [show p.1 - 1 - (p.1 - 1 - x) = x by omega, show p.2.1 - 1 - (p.2.1 - 1 - y) = y by omega]
theorem pcT_f {p : Pic} (hp : pcF p) : ∀ n, pcF (pcT n p)
  | 0 => hp
  | n + 1 => pcQ_f _
theorem pcT_add (p : Pic) : ∀ a b, pcT a (pcT b p) = pcT (a + b) p
  | 0, b => by rw [Nat.zero_add]; rfl
  | a + 1, b => by
    rw [show a + 1 + b = (a + b) + 1 by omega]
    simp only [pcT]
    rw [pcT_add p a b]
theorem pcT_4 {p : Pic} (hp : pcF p) : pcT 4 p = p := pcQ4 hp
theorem pcT_4m {p : Pic} (hp : pcF p) : ∀ m, pcT (4 * m) p = p
  | 0 => rfl
  | m + 1 => by
    rw [show 4 * (m + 1) = 4 + 4 * m by omega, ← pcT_add, pcT_4m hp m, pcT_4 hp]
theorem pcT_mod {p : Pic} (hp : pcF p) (n : Nat) : pcT (n % 4) p = pcT n p := by
  have h := Nat.div_add_mod n 4
  rw [← h, Nat.add_comm, ← pcT_add, pcT_4m hp]
  congr 1
  omega
/-- mirrored twice it is itself -/
theorem pcMM {p : Pic} (hp : pcF p) : pcM (pcM p) = p := by
  apply pc_ext (p := pcM (pcM p)) (q := p) (pcM_f _) hp rfl rfl
  intro x y hx hy
  have hx' : x < p.1 := hx
  have hy' : y < p.2.1 := hy
  rw [pcM_at (pcM p) hx hy, pcM_at p (show (pcM p).1 - 1 - x < p.1 by show p.1 - 1 - x < p.1; omega) hy']
  show pxA p.1 p.2.2 (p.1 - 1 - (p.1 - 1 - x)) y = _
  rw [show p.1 - 1 - (p.1 - 1 - x) = x by omega]
/-- a quarter, mirrored, and a quarter: mirrored -/
theorem pcQMQ {p : Pic} (hp : pcF p) : pcQ (pcM (pcQ p)) = pcM p := by
  apply pc_ext (p := pcQ (pcM (pcQ p))) (q := pcM p) (pcQ_f _) (pcM_f _) rfl rfl
  intro x y hx hy
  have hx' : x < p.1 := hx
  have hy' : y < p.2.1 := hy
  rw [pcQ_at (pcM (pcQ p)) (show x < (pcM (pcQ p)).2.1 from hx) (show y < (pcM (pcQ p)).1 from hy),
    pcM_at (pcQ p) (show y < (pcQ p).1 from hy) (show (pcM (pcQ p)).2.1 - 1 - x < (pcQ p).2.1 by show p.1 - 1 - x < p.1; omega),
    pcQ_at p (show (pcQ p).1 - 1 - y < p.2.1 by show p.2.1 - 1 - y < p.2.1; omega) (show (pcM (pcQ p)).2.1 - 1 - x < p.1 by show p.1 - 1 - x < p.1; omega), pcM_at p hx' hy']
  show pxA p.1 p.2.2 (p.1 - 1 - x) (p.2.1 - 1 - (p.2.1 - 1 - y)) = _
  rw [show p.2.1 - 1 - (p.2.1 - 1 - y) = y by omega]
/-- turned so often, mirrored, and turned so often again: mirrored -/
theorem pcTMT {p : Pic} (hp : pcF p) : ∀ n, pcT n (pcM (pcT n p)) = pcM p
  | 0 => rfl
  | n + 1 => by
    have h1 : pcT (n + 1) (pcM (pcT (n + 1) p)) = pcT n (pcQ (pcM (pcQ (pcT n p)))) := by
      rw [show n + 1 = n + 1 from rfl, ← pcT_add _ n 1]
      rfl
    rw [h1, pcQMQ (pcT_f hp n), pcTMT hp n]
/-- mirrored and turned to the one side it is turned to the other side and mirrored -/
theorem pcTM {p : Pic} (hp : pcF p) (a b : Nat) (h : (a + b) % 4 = 0) : pcT a (pcM p) = pcM (pcT b p) := by
  have h1 := pcTMT (pcT_f hp b) a
  rw [pcT_add] at h1
  have h2 : pcT (a + b) p = p := by rw [← pcT_mod hp, h]; rfl
  rw [h2] at h1
  exact h1

/-
  Light points counted, pictures drawn on one another, as plain lists. No Go text in sight.
-/
def sN : Nat → (Nat → Nat) → Nat
  | 0, _ => 0
  | n + 1, f => sN n f + f n
theorem sN_eq : ∀ (n : Nat) (f g : Nat → Nat), (∀ i, i < n → f i = g i) → sN n f = sN n g
  | 0, f, g, h => rfl
  | n + 1, f, g, h => by
    simp only [sN]
    rw [sN_eq n f g (fun i hi => h i (by omega)), h n (by omega)]
theorem sN_le : ∀ (n : Nat) (f g : Nat → Nat), (∀ i, i < n → f i ≤ g i) → sN n f ≤ sN n g
  | 0, f, g, h => Nat.le_refl _
  | n + 1, f, g, h => by
    have := sN_le n f g (fun i hi => h i (by omega))
    have := h n (by omega)
    simp only [sN]
    omega
theorem sN_add : ∀ (n m : Nat) (f : Nat → Nat), sN (n + m) f = sN n f + sN m (fun i => f (n + i))
  | n, 0, f => rfl
  | n, m + 1, f => by
    rw [← Nat.add_assoc]
    simp only [sN]
    rw [sN_add n m f]
    omega
theorem sN_mul (W : Nat) (f : Nat → Nat) : ∀ H, sN (W * H) f = sN H (fun y => sN W (fun x => f (y * W + x)))
  | 0 => by simp [sN]
  | H + 1 => by
    rw [Nat.mul_add, Nat.mul_one, sN_add, sN_mul W f H]
    simp only [sN]
    rw [Nat.mul_comm W H]
theorem sN_plus : ∀ (n : Nat) (f g : Nat → Nat), sN n (fun i => f i + g i) = sN n f + sN n g
  | 0, f, g => rfl
  | n + 1, f, g => by
    simp only [sN]
    rw [sN_plus n f g]
    omega
theorem sN_zero : ∀ n, sN n (fun _ => 0) = 0
  | 0 => rfl
  | n + 1 => by simp only [sN]; rw [sN_zero n]
theorem sN_swap (W : Nat) (f : Nat → Nat → Nat) : ∀ H, sN H (fun y => sN W (fun x => f x y)) = sN W (fun x => sN H (fun y => f x y))
  | 0 => by simp only [sN]; rw [sN_zero]
  | H + 1 => by
    simp only [sN]
    rw [sN_swap W f H, ← sN_plus]
theorem sN_front : ∀ (n : Nat) (f : Nat → Nat), sN (n + 1) f = f 0 + sN n (fun i => f (i + 1))
  | 0, f => by simp [sN]
  | n + 1, f => by
    rw [sN, sN_front n f]
    simp only [sN]
    omega
theorem sN_rev : ∀ (n : Nat) (f : Nat → Nat), sN n (fun i => f (n - 1 - i)) = sN n f
  | 0, f => rfl
  | n + 1, f => by
    rw [sN_front]
    simp only [sN]
    rw [show n + 1 - 1 - 0 = n by omega, Nat.add_comm (sN n f)]
    congr 1
    rw [← sN_rev n f]
    apply sN_eq
    intro i hi
    congr 1
    omega

def bL (v : Int) : Nat := if v = 0 then 0 else 1
/-- how many points are light -/
def lgF (P : List Int) : Nat := sN P.length (fun i => bL (P.getD i 0))
theorem lg_snoc (P : List Int) (v : Int) : lgF (P ++ [v]) = lgF P + bL v := by
  unfold lgF
  rw [List.length_append, List.length_singleton]
  simp only [sN]
  congr 1
  · apply sN_eq
    intro i hi
    rw [List.getD_eq_getElem?_getD, List.getElem?_append_left hi, ← List.getD_eq_getElem?_getD]
  · rw [List.getD_eq_getElem?_getD, List.getElem?_append_right (Nat.le_refl _)]
    simp
theorem lg_grid {p : Pic} (hp : pcF p) : lgF p.2.2 = sN p.2.1 (fun y => sN p.1 (fun x => bL (pxA p.1 p.2.2 x y))) := by
  unfold lgF
  rw [hp, sN_mul]
  rfl
/-- as many points are light behind a quarter -/
theorem lg_Q {p : Pic} (hp : pcF p) : lgF (pcQ p).2.2 = lgF p.2.2 := by
  rw [lg_grid (pcQ_f p), lg_grid hp, sN_swap]
  show sN p.2.1 (fun X => sN p.1 (fun Y => bL (pxA (pcQ p).1 (pcQ p).2.2 X Y))) = _
  rw [← sN_rev p.2.1 (fun y => sN p.1 (fun x => bL (pxA p.1 p.2.2 x y)))]
  apply sN_eq
  intro X hX
  apply sN_eq
  intro Y hY
  rw [pcQ_at p hX hY]
theorem lg_T {p : Pic} (hp : pcF p) : ∀ n, lgF (pcT n p).2.2 = lgF p.2.2
  | 0 => rfl
  | n + 1 => by
    show lgF (pcQ (pcT n p)).2.2 = _
    rw [lg_Q (pcT_f hp n), lg_T hp n]

/-- one point, over which a picture is drawn -/
def drA (p t : Pic) (x y : Int) (i j : Nat) : Int :=
  if 0 ≤ (i : Int) - x ∧ (i : Int) - x < t.1 ∧ 0 ≤ (j : Int) - y ∧ (j : Int) - y < t.2.1 ∧ ¬ pxA t.1 t.2.2 ((i : Int) - x).toNat ((j : Int) - y).toNat = 0 then pxA t.1 t.2.2 ((i : Int) - x).toNat ((j : Int) - y).toNat else pxA p.1 p.2.2 i j
def drF (p t : Pic) (x y : Int) : Pic := (p.1, p.2.1, mkP p.1 p.2.1 (drA p t x y))
theorem drF_f (p t : Pic) (x y : Int) : pcF (drF p t x y) := by unfold pcF drF; simp only [mkP_len]
theorem drF_at (p t : Pic) (x y : Int) {i j : Nat} (hi : i < p.1) (hj : j < p.2.1) : pxA (drF p t x y).1 (drF p t x y).2.2 i j = drA p t x y i j := by
  unfold drF
  simp only
  rw [mkP_at _ hi hj]
/-- drawn once more it changes nothing -/
theorem dr_again (p t : Pic) (x y : Int) : drF (drF p t x y) t x y = drF p t x y := by
  apply pc_ext (p := drF (drF p t x y) t x y) (q := drF p t x y) (drF_f _ _ _ _) (drF_f _ _ _ _) rfl rfl
  intro i j hi hj
  have hi' : i < p.1 := hi
  have hj' : j < p.2.1 := hj
  rw [drF_at (drF p t x y) t x y (show i < (drF p t x y).1 from hi) (show j < (drF p t x y).2.1 from hj), drF_at p t x y hi' hj']
  unfold drA
  split
  · rfl
  · rename_i h
    rw [drF_at p t x y hi' hj']
    unfold drA
    rw [if_neg h]
/-- what is light stays light -/
theorem dr_light {p : Pic} (hp : pcF p) (t : Pic) (x y : Int) : lgF p.2.2 ≤ lgF (drF p t x y).2.2 := by
  rw [lg_grid hp, lg_grid (drF_f p t x y)]
  apply sN_le
  intro j hj
  apply sN_le
  intro i hi
  rw [drF_at p t x y hi hj]
  unfold drA
  split
  · rename_i h
    unfold bL
    rw [if_neg h.2.2.2.2]
    split <;> omega
  · exact Nat.le_refl _

/-
  Places of points, pictures filled point by point, as plain lists. No Go text in sight.
-/
/-- where a point of a picture comes to behind n quarters: sides and place -/
def plS : Nat → (Nat × Nat × Nat × Nat) → (Nat × Nat × Nat × Nat)
  | 0, p => p
  | n + 1, p => let q := plS n p; (q.2.1, q.1, q.2.1 - 1 - q.2.2.2, q.2.2.1)
theorem plS_in {w h x y : Nat} (hx : x < w) (hy : y < h) : ∀ n, (plS n (w, h, x, y)).2.2.1 < (plS n (w, h, x, y)).1 ∧ (plS n (w, h, x, y)).2.2.2 < (plS n (w, h, x, y)).2.1
  | 0 => ⟨hx, hy⟩
  | n + 1 => by
    obtain ⟨h1, h2⟩ := plS_in hx hy n
    simp only [plS]
    omega
/-- each point keeps its byte -/
theorem plS_px (p : Pic) {x y : Nat} (hx : x < p.1) (hy : y < p.2.1) : ∀ n, (plS n (p.1, p.2.1, x, y)).1 = (pcT n p).1 ∧ (plS n (p.1, p.2.1, x, y)).2.1 = (pcT n p).2.1 ∧
    pxA (pcT n p).1 (pcT n p).2.2 (plS n (p.1, p.2.1, x, y)).2.2.1 (plS n (p.1, p.2.1, x, y)).2.2.2 = pxA p.1 p.2.2 x y
  | 0 => ⟨rfl, rfl, rfl⟩
  | n + 1 => by
    obtain ⟨h1, h2, h3⟩ := plS_px p hx hy n
    obtain ⟨g1, g2⟩ := plS_in hx hy n
    refine ⟨h2, h1, ?_⟩
    rw [← h3]
    show pxA (pcQ (pcT n p)).1 (pcQ (pcT n p)).2.2 ((plS n (p.1, p.2.1, x, y)).2.1 - 1 - (plS n (p.1, p.2.1, x, y)).2.2.2) (plS n (p.1, p.2.1, x, y)).2.2.1 = _
    rw [pcQ_at (pcT n p) (by rw [← h2]; omega) (by rw [← h1]; exact g1), ← h2]
    congr 1
    omega
theorem plS_1 (w h x y : Nat) : plS 1 (w, h, x, y) = (h, w, h - 1 - y, x) := rfl
theorem plS_2 (w h x y : Nat) : plS 2 (w, h, x, y) = (w, h, w - 1 - x, h - 1 - y) := rfl
theorem plS_3 {w h x y : Nat} (hy : y < h) : plS 3 (w, h, x, y) = (h, w, y, w - 1 - x) := by
  show (h, w, h - 1 - (h - 1 - y), w - 1 - x) = _
  rw [show h - 1 - (h - 1 - y) = y by omega]
theorem plS_4 {w h x y : Nat} (hx : x < w) (hy : y < h) : plS 4 (w, h, x, y) = (w, h, x, y) := by
  show (w, h, w - 1 - (w - 1 - x), h - 1 - (h - 1 - y)) = _
  rw [show h - 1 - (h - 1 - y) = y by omega, show w - 1 - (w - 1 - x) = x by omega]

/-- a number by 4 -/
def qtN (n : Int) : Nat := (n % 4).toNat
theorem qtN_lt (n : Int) : qtN n < 4 := by unfold qtN; omega
/-- the sum of the remainder of a cut division and four, cut once more -/
theorem qt_tmod (n : Int) : ((n.tmod 4 + 4).tmod 4) = (qtN n : Int) := by
  unfold qtN
  rcases Int.le_total 0 n with h | h
  · rw [Int.tmod_eq_emod_of_nonneg h, Int.tmod_eq_emod_of_nonneg (by omega)]
    omega
  · obtain ⟨m, rfl⟩ : ∃ m : Int, n = -m := ⟨-n, by omega⟩
    rw [Int.neg_tmod, Int.tmod_eq_emod_of_nonneg (show (0 : Int) ≤ m by omega), Int.tmod_eq_emod_of_nonneg (by omega)]
    omega
theorem qt_add (a b : Int) : (qtN a + qtN b) % 4 = qtN (a + b) := by unfold qtN; omega
theorem qt_neg (a : Int) : (qtN a + qtN (-a)) % 4 = 0 := by unfold qtN; omega
theorem qt_three (a : Int) : (qtN (3 * a) + qtN a) % 4 = 0 := by unfold qtN; omega

/-- what a picture holds, of which the first k points stand at their new places: f tells the new place's old one -/
def flF (W H : Nat) (o : Nat → Nat → Nat) (g z : Nat → Nat → Int) (k : Nat) : List Int := mkP W H fun x y => if o x y < k then g x y else z x y
theorem fl_len (W H : Nat) (o : Nat → Nat → Nat) (g z : Nat → Nat → Int) (k : Nat) : (flF W H o g z k).length = W * H := by unfold flF; rw [mkP_len]
theorem fl_at {W H x y : Nat} (o : Nat → Nat → Nat) (g z : Nat → Nat → Int) (k : Nat) (hx : x < W) (hy : y < H) : pxA W (flF W H o g z k) x y = if o x y < k then g x y else z x y := by
  unfold flF
  rw [mkP_at _ hx hy]
theorem fl_0 (W H : Nat) (o : Nat → Nat → Nat) (g z : Nat → Nat → Int) : flF W H o g z 0 = mkP W H z := by
  unfold flF
  have : (fun x y => if o x y < 0 then g x y else z x y) = z := by
    funext x y
    rw [if_neg (Nat.not_lt_zero _)]
  rw [this]
theorem fl_all {W H : Nat} {o : Nat → Nat → Nat} {k : Nat} (g z : Nat → Nat → Int) (h : ∀ x y, x < W → y < H → o x y < k) : flF W H o g z k = mkP W H g := by
  apply px_ext (fl_len _ _ _ _ _ _) (mkP_len _ _ _)
  intro x y hx hy
  rw [fl_at _ _ _ _ hx hy, mkP_at _ hx hy, if_pos (h x y hx hy)]
theorem pxA_set {W H : Nat} {P : List Int} (hP : P.length = W * H) {x y u v : Nat} (hx : x < W) (hy : y < H) (hu : u < W) (hv : v < H) (a : Int) :
    pxA W (P.set (v * W + u) a) x y = if x = u ∧ y = v then a else pxA W P x y := by
  unfold pxA
  by_cases e : x = u ∧ y = v
  · obtain ⟨rfl, rfl⟩ := e
    rw [if_pos ⟨rfl, rfl⟩, List.getD_eq_getElem?_getD, List.getElem?_set_self (by rw [hP]; exact px_lt hx hy)]
    rfl
  · rw [if_neg e, List.getD_eq_getElem?_getD, List.getElem?_set_ne, ← List.getD_eq_getElem?_getD]
    intro c
    have h1 := (px_div (y := y) hx).1
    have h2 := (px_div (y := y) hx).2
    have h3 := (px_div (y := v) hu).1
    have h4 := (px_div (y := v) hu).2
    rw [c] at h3 h4
    exact e ⟨h2.symm.trans h4, h1.symm.trans h3⟩
/-- one point more -/
theorem fl_set {W H : Nat} {o : Nat → Nat → Nat} {k u v : Nat} (g z : Nat → Nat → Int) (hu : u < W) (hv : v < H) (ho : o u v = k)
    (hi : ∀ x y, x < W → y < H → o x y = k → x = u ∧ y = v) : (flF W H o g z k).set (v * W + u) (g u v) = flF W H o g z (k + 1) := by
  apply px_ext (by rw [List.length_set]; exact fl_len _ _ _ _ _ _) (fl_len _ _ _ _ _ _)
  intro x y hx hy
  rw [pxA_set (fl_len _ _ _ _ _ _) hx hy hu hv, fl_at _ _ _ _ hx hy, fl_at _ _ _ _ hx hy]
  by_cases e : x = u ∧ y = v
  · obtain ⟨rfl, rfl⟩ := e
    rw [if_pos ⟨rfl, rfl⟩, if_pos (by omega)]
  · rw [if_neg e]
    by_cases c : o x y < k
    · rw [if_pos c, if_pos (by omega)]
    · rw [if_neg c, if_neg]
      intro c2
      exact e (hi x y hx hy (by omega))
/-- one point that stays -/
theorem fl_same {W H : Nat} {o : Nat → Nat → Nat} {k u v : Nat} (g z : Nat → Nat → Int) (hg : g u v = z u v)
    (hi : ∀ x y, x < W → y < H → o x y = k → x = u ∧ y = v) : flF W H o g z k = flF W H o g z (k + 1) := by
  apply px_ext (fl_len _ _ _ _ _ _) (fl_len _ _ _ _ _ _)
  intro x y hx hy
  rw [fl_at _ _ _ _ hx hy, fl_at _ _ _ _ hx hy]
  by_cases c : o x y < k
  · rw [if_pos c, if_pos (by omega)]
  · rw [if_neg c]
    by_cases c2 : o x y < k + 1
    · obtain ⟨rfl, rfl⟩ := hi x y hx hy (by omega)
      rw [if_pos c2, hg]
    · rw [if_neg c2]
theorem px_inj {W x y u v : Nat} (hx : x < W) (hu : u < W) (h : y * W + x = v * W + u) : x = u ∧ y = v := by
  have h1 := px_div (y := y) hx
  have h2 := px_div (y := v) hu
  rw [h] at h1
  exact ⟨h1.2.symm.trans h2.2, h1.1.symm.trans h2.1⟩
theorem mkP_self {W H : Nat} {P : List Int} (hP : P.length = W * H) : mkP W H (fun x y => pxA W P x y) = P := by
  apply px_ext (mkP_len _ _ _) hP
  intro x y hx hy
  rw [mkP_at _ hx hy]
theorem mkP_zero (W H : Nat) : mkP W H (fun _ _ => 0) = List.replicate (W * H) 0 := by
  apply List.ext_getElem
  · rw [mkP_len, List.length_replicate]
  · intro i h1 h2
    simp [mkP]

/-- a quarter, its first k points (in the old one's order) placed -/
def qF (p : Pic) (k : Nat) : List Int := flF p.2.1 p.1 (fun X Y => (p.2.1 - 1 - X) * p.1 + Y) (fun X Y => pxA p.1 p.2.2 Y (p.2.1 - 1 - X)) (fun _ _ => 0) k
theorem qF_0 (p : Pic) : qF p 0 = List.replicate (p.2.1 * p.1) 0 := by unfold qF; rw [fl_0, mkP_zero]
theorem qF_len (p : Pic) (k : Nat) : (qF p k).length = p.2.1 * p.1 := by unfold qF; rw [fl_len]
theorem qF_all (p : Pic) : qF p (p.2.1 * p.1) = (pcQ p).2.2 := by
  unfold qF pcQ
  apply fl_all
  intro X Y hX hY
  have := px_lt (x := Y) (y := p.2.1 - 1 - X) (W := p.1) (H := p.2.1) hY (by omega)
  rw [Nat.mul_comm p.2.1 p.1]
  exact this
theorem qF_set (p : Pic) {x y : Nat} (hx : x < p.1) (hy : y < p.2.1) : (qF p (y * p.1 + x)).set (x * p.2.1 + (p.2.1 - 1 - y)) (pxA p.1 p.2.2 x y) = qF p (y * p.1 + x + 1) := by
  have := fl_set (W := p.2.1) (H := p.1) (o := fun X Y => (p.2.1 - 1 - X) * p.1 + Y) (k := y * p.1 + x) (u := p.2.1 - 1 - y) (v := x) (fun X Y => pxA p.1 p.2.2 Y (p.2.1 - 1 - X)) (fun _ _ => 0) (by omega) hx
    (by show (p.2.1 - 1 - (p.2.1 - 1 - y)) * p.1 + x = _; rw [show p.2.1 - 1 - (p.2.1 - 1 - y) = y by omega])
    (by
      intro X Y hX hY h
      obtain ⟨h1, h2⟩ := px_inj hY hx h
      exact ⟨by omega, h1⟩)
  rw [show p.2.1 - 1 - (p.2.1 - 1 - y) = y by omega] at this
  exact this

/-- drawn over: the first k points looked at -/
def dF (p t : Pic) (x y : Int) (k : Nat) : List Int := flF p.1 p.2.1 (fun i j => j * p.1 + i) (drA p t x y) (fun i j => pxA p.1 p.2.2 i j) k
theorem dF_0 {p : Pic} (hp : pcF p) (t : Pic) (x y : Int) : dF p t x y 0 = p.2.2 := by unfold dF; rw [fl_0, mkP_self hp]
theorem dF_len (p t : Pic) (x y : Int) (k : Nat) : (dF p t x y k).length = p.1 * p.2.1 := by unfold dF; rw [fl_len]
theorem dF_all (p t : Pic) (x y : Int) : dF p t x y (p.1 * p.2.1) = (drF p t x y).2.2 := by
  unfold dF drF
  exact fl_all _ _ (fun i j hi hj => px_lt hi hj)
theorem dF_set (p t : Pic) (x y : Int) {i j : Nat} (hi : i < p.1) (hj : j < p.2.1) : (dF p t x y (j * p.1 + i)).set (j * p.1 + i) (drA p t x y i j) = dF p t x y (j * p.1 + i + 1) :=
  fl_set (drA p t x y) _ hi hj rfl (fun X Y hX hY h => px_inj hX hi h)
theorem dF_same (p t : Pic) (x y : Int) {i j : Nat} (hi : i < p.1) (h : drA p t x y i j = pxA p.1 p.2.2 i j) : dF p t x y (j * p.1 + i) = dF p t x y (j * p.1 + i + 1) :=
  fl_same (drA p t x y) _ h (fun X Y hX hY h => px_inj hX hi h)

/-- mirrored, appended point by point -/
theorem mir_snoc (p : Pic) {x y : Nat} (hx : x < p.1) (hy : y < p.2.1) : (pcM p).2.2.take (y * p.1 + x) ++ [pxA p.1 p.2.2 (p.1 - 1 - x) y] = (pcM p).2.2.take (y * p.1 + x + 1) := by
  have hl : y * p.1 + x < (pcM p).2.2.length := by rw [pcM_f p]; exact px_lt hx hy
  rw [List.take_add_one, List.getElem?_eq_getElem hl]
  congr 1
  have := pcM_at p hx hy
  unfold pxA at this
  rw [List.getD_eq_getElem?_getD, show (pcM p).1 = p.1 from rfl, List.getElem?_eq_getElem hl] at this
  simp only [Option.getD_some] at this
  simp only [Option.toList_some]
  rw [this]
  rfl
theorem mir_all (p : Pic) : (pcM p).2.2.take (p.1 * p.2.1) = (pcM p).2.2 := by
  apply List.take_of_length_le
  rw [pcM_f p]
  exact Nat.le_refl _
/-- light points counted in order -/
theorem lg_take (P : List Int) {i : Nat} (h : i < P.length) : lgF (P.take (i + 1)) = lgF (P.take i) + bL (P.getD i 0) := by
  rw [List.take_add_one, List.getElem?_eq_getElem h, List.getD_eq_getElem?_getD, List.getElem?_eq_getElem h]
  exact lg_snoc _ _

/-
  The seven calls of layer 22 as plain functions over whole numbers, and what its laws ask of them. No Go text in sight.
-/
/-- a picture as it comes in: any sides, any points -/
abbrev PicI := Int × Int × List Int
def szI (W H : Int) : Bool := decide (0 ≤ W) && decide (W ≤ 64) && decide (0 ≤ H) && decide (H ≤ 64)
def fmI (p : PicI) : Bool := szI p.1 p.2.1 && decide ((p.2.2.length : Int) = p.1 * p.2.1)
def toP (p : PicI) : Pic := (p.1.toNat, p.2.1.toNat, p.2.2)
def ofP (p : Pic) : PicI := (p.1, p.2.1, p.2.2)
def noP : PicI := (0, 0, [])
def nwI (W H : Int) (E : Int) : PicI × Int := if szI W H then ((W, H, List.replicate (W * H).toNat 0), 0) else (noP, E)
def plI (W H q x y : Int) : Int × Int :=
  if szI W H && decide (0 ≤ x) && decide (x < W) && decide (0 ≤ y) && decide (y < H) then
    (((plS (qtN q) (W.toNat, H.toNat, x.toNat, y.toNat)).2.2.1 : Int), ((plS (qtN q) (W.toNat, H.toNat, x.toNat, y.toNat)).2.2.2 : Int))
  else (0, 0)
def tnI (p : PicI) (q : Int) (E : Int) : PicI × Int := if fmI p then (ofP (pcT (qtN q) (toP p)), 0) else (noP, E)
def miI (p : PicI) (E : Int) : PicI × Int := if fmI p then (ofP (pcM (toP p)), 0) else (noP, E)
def drI (p t : PicI) (x y q : Int) (E : Int) : PicI × Int :=
  if fmI p && fmI t && decide (-64 ≤ x) && decide (x ≤ 64) && decide (-64 ≤ y) && decide (y ≤ 64) then (ofP (drF (toP p) (pcT (qtN q) (toP t)) x y), 0) else (noP, E)

theorem szI_iff (W H : Int) : szI W H = true ↔ (0 ≤ W ∧ W ≤ 64 ∧ 0 ≤ H ∧ H ≤ 64) := by
  unfold szI
  simp only [Bool.and_eq_true, decide_eq_true_eq]
  constructor
  · rintro ⟨⟨⟨a, b⟩, c⟩, d⟩; exact ⟨a, b, c, d⟩
  · rintro ⟨a, b, c, d⟩; exact ⟨⟨⟨a, b⟩, c⟩, d⟩
theorem fmI_iff (p : PicI) : fmI p = true ↔ (0 ≤ p.1 ∧ p.1 ≤ 64 ∧ 0 ≤ p.2.1 ∧ p.2.1 ≤ 64 ∧ (p.2.2.length : Int) = p.1 * p.2.1) := by
  unfold fmI
  rw [Bool.and_eq_true, szI_iff, decide_eq_true_eq]
  constructor
  · rintro ⟨⟨a, b, c, d⟩, e⟩; exact ⟨a, b, c, d, e⟩
  · rintro ⟨a, b, c, d, e⟩; exact ⟨⟨a, b, c, d⟩, e⟩
/-- a picture of at most 64 by 64 -/
def pcS (p : Pic) : Prop := p.1 ≤ 64 ∧ p.2.1 ≤ 64
theorem pcS_Q {p : Pic} (h : pcS p) : pcS (pcQ p) := ⟨h.2, h.1⟩
theorem pcS_T {p : Pic} (h : pcS p) : ∀ n, pcS (pcT n p)
  | 0 => h
  | n + 1 => pcS_Q (pcS_T h n)
theorem pcS_M {p : Pic} (h : pcS p) : pcS (pcM p) := h
theorem fm_toP {p : PicI} (h : fmI p = true) : pcF (toP p) ∧ pcS (toP p) ∧ ofP (toP p) = p := by
  obtain ⟨W, H, P⟩ := p
  obtain ⟨a, b, c, d, e⟩ := (fmI_iff _).1 h
  simp only at a b c d e
  obtain ⟨m, rfl⟩ : ∃ m : Nat, W = m := ⟨W.toNat, by omega⟩
  obtain ⟨n, rfl⟩ : ∃ n : Nat, H = n := ⟨H.toNat, by omega⟩
  refine ⟨?_, ⟨?_, ?_⟩, ?_⟩
  · show P.length = (m : Int).toNat * (n : Int).toNat
    rw [Int.toNat_natCast, Int.toNat_natCast]
    exact_mod_cast e
  · show (m : Int).toNat ≤ 64
    omega
  · show (n : Int).toNat ≤ 64
    omega
  · rfl
theorem fm_ofP {p : Pic} (h : pcF p) (hs : pcS p) : fmI (ofP p) = true := by
  rw [fmI_iff]
  obtain ⟨W, H, P⟩ := p
  obtain ⟨h1, h2⟩ := hs
  unfold pcF at h
  simp only [ofP] at h h1 h2 ⊢
  refine ⟨by omega, by omega, by omega, by omega, ?_⟩
  rw [h]
  exact Int.natCast_mul _ _
theorem toP_ofP (p : Pic) : toP (ofP p) = p := rfl

/-- what ScreenRound asks -/
theorem rd_law {p : PicI} (h : fmI p = true) (a b E : Int) : ∃ x : PicI, tnI p a E = (x, 0) ∧ fmI x = true ∧ tnI x b E = tnI p (a + b) E ∧ tnI x (3 * a) E = (p, 0) ∧ lgF x.2.2 = lgF p.2.2 := by
  obtain ⟨h1, h2, h3⟩ := fm_toP h
  have h4 := fm_ofP (pcT_f h1 (qtN a)) (pcS_T h2 (qtN a))
  refine ⟨ofP (pcT (qtN a) (toP p)), by unfold tnI; rw [if_pos h], h4, ?_, ?_, ?_⟩
  · unfold tnI
    rw [if_pos h, if_pos h4, toP_ofP, pcT_add, ← pcT_mod h1, Nat.add_comm, qt_add]
  · unfold tnI
    rw [if_pos h4, toP_ofP, pcT_add, ← pcT_mod h1, qt_three]
    show (ofP (toP p), (0 : Int)) = _
    rw [h3]
  · exact lg_T h1 _
/-- what ScreenMirrors asks -/
theorem mi_law {p : PicI} (h : fmI p = true) (q E : Int) : ∃ m b : PicI, miI p E = (m, 0) ∧ fmI m = true ∧ miI m E = (p, 0) ∧ tnI p (-q) E = (b, 0) ∧ fmI b = true ∧ tnI m q E = miI b E := by
  obtain ⟨h1, h2, h3⟩ := fm_toP h
  have h4 := fm_ofP (pcM_f (toP p)) (pcS_M h2)
  have h5 := fm_ofP (pcT_f h1 (qtN (-q))) (pcS_T h2 (qtN (-q)))
  refine ⟨ofP (pcM (toP p)), ofP (pcT (qtN (-q)) (toP p)), by unfold miI; rw [if_pos h], h4, ?_, by unfold tnI; rw [if_pos h], h5, ?_⟩
  · unfold miI
    rw [if_pos h4, toP_ofP, pcMM h1, h3]
  · unfold tnI miI
    rw [if_pos h4, if_pos h5, toP_ofP, toP_ofP, pcTM h1 _ _ (qt_neg q)]
/-- what ScreenDrawn asks -/
theorem dr_law {p t : PicI} (x y q E : Int) (hp : fmI p = true) (ht : fmI t = true) (hx : -64 ≤ x ∧ x ≤ 64) (hy : -64 ≤ y ∧ y ≤ 64) :
    ∃ a u : PicI, drI p t x y q E = (a, 0) ∧ fmI a = true ∧ tnI t q E = (u, 0) ∧ fmI u = true ∧ drI p u x y 0 E = (a, 0) ∧ lgF p.2.2 ≤ lgF a.2.2 ∧ drI a t x y q E = (a, 0) := by
  obtain ⟨h1, h2, h3⟩ := fm_toP hp
  obtain ⟨g1, g2, g3⟩ := fm_toP ht
  have h4 := fm_ofP (drF_f (toP p) (pcT (qtN q) (toP t)) x y) (show pcS (drF (toP p) (pcT (qtN q) (toP t)) x y) from h2)
  have h5 := fm_ofP (pcT_f g1 (qtN q)) (pcS_T g2 (qtN q))
  refine ⟨ofP (drF (toP p) (pcT (qtN q) (toP t)) x y), ofP (pcT (qtN q) (toP t)), ?_, h4, by unfold tnI; rw [if_pos ht], h5, ?_, dr_light h1 _ _ _, ?_⟩
  · unfold drI
    rw [if_pos (by simp only [hp, ht, hx, hy, decide_true, Bool.and_true, Bool.true_and, and_self])]
  · unfold drI
    rw [if_pos (by simp only [hp, h5, hx, hy, decide_true, Bool.and_true, Bool.true_and, and_self])]
    rfl
  · unfold drI
    rw [if_pos (by simp only [h4, ht, hx, hy, decide_true, Bool.and_true, Bool.true_and, and_self]), toP_ofP, dr_again]

end Go.Proofs.Ythihkfimledccaa
