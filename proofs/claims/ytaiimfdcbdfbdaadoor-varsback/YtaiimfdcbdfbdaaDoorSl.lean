/-
  Slices of integers that are read: what a slice value reads as in a world, and that it reads the same when only new blocks are laid. No Go text in sight.
-/
import Derived.WalkKit
import Derived.ProofKit
import Derived.OpenShut
import Derived.WalkLawsBesides
import Derived.Handy
import Derived.Deep.Light
import Derived.Deep.QuietTactic
import Derived.BigQuiet
import Derived.Deep.RegionWith
import Derived.Below
import Derived.Laws.AppendOwnNone
import Derived.ChangeSlices
import Derived.SizedLaws
namespace Go.Proofs.YtaiimfdcbdfbdaaDoor
open Go.ChangeShapes Go.WideShapes Go.ChangeAt Go.RowKit
set_option linter.unusedVariables false
set_option linter.unusedSimpArgs false

theorem hid {p : Prop} (h : p) : Hid p := h
theorem ret_b {a b : Bool} (h : a = b) : Ending.returned (.bool a) = .returned (.bool b) := by rw [h]
/-- what was there reads the same behind a call that leaves all below its first new block -/
theorem below_cell {w w' : World} (h : Below w.heap.size w w') {a : Addr} {v : Value} (hc : w.cell? a = some v) : w'.cell? a = some v :=
  (h.cell (p := a) (World.block_lt_of_cell? w a hc)).trans hc
theorem below_trans {a b c : World} (h : Below a.heap.size a b) (g : Below b.heap.size b c) : Below a.heap.size a c :=
  h.trans (g.mono h.size)
theorem below_drewN {a b : World} (h : Below a.heap.size a b) (n : Nat) : Below a.heap.size a (b.drewN n) := h.trans ⟨rfl, rfl, rfl, Nat.le_refl _, fun _ _ => rfl⟩
theorem below_grown {a b c : World} {row : Option Nat} (h : Below a.heap.size a b) (g : b.grownBy c row) (hr : ∀ k, row = some k → a.heap.size ≤ k) : Below a.heap.size a c :=
  h.grown g h.size hr

/-- the slice value v reads as the integers xs in the world w: an empty one, or one whose cells lie at a plain address -/
def Rd (k : IntKind) (w : World) (v : Value) (xs : List Int) : Prop :=
  (∃ ao cap, v = .slice ao 0 cap ∧ (ao = none → cap = 0) ∧ xs = []) ∨
  ∃ b off cap, v = .slice (some ⟨b, off, none⟩) xs.length cap ∧ 0 < xs.length ∧ xs.length ≤ cap ∧ cap ≤ maxLen ∧ ∀ i, i < xs.length → w.cell? ⟨b, off + i, none⟩ = some (.int k (xs.getD i 0))
theorem Rd.below {k : IntKind} {w w' : World} {v : Value} {xs : List Int} (h : Rd k w v xs) (g : Below w.heap.size w w') : Rd k w' v xs := by
  rcases h with h | ⟨b, off, cap, rfl, h0, h1, h2, hc⟩
  · exact Or.inl h
  · exact Or.inr ⟨b, off, cap, rfl, h0, h1, h2, fun i hi => below_cell g (hc i hi)⟩
theorem Rd_nil {k : IntKind} {w : World} : Rd k w (.slice none 0 0) [] := Or.inl ⟨none, 0, rfl, fun _ => rfl, rfl⟩
/-- what the call has built reads as what it was built of -/
theorem Rd_own {k : IntKind} {w : World} {base : Nat} {e : TypeId} {v : Value} {n : Nat} {xs : List Int} (h : w.ownsRow base e 1 v n (xs.map (Value.int k))) : Rd k w v xs ∧ n = xs.length := by
  obtain ⟨hl, h⟩ := h
  have hn : n = xs.length := by simp at hl; omega
  refine ⟨?_, hn⟩
  rcases h with ⟨rfl, h0⟩ | ⟨g, cap, cur, rfl, hb, hg, hc, hm, hs, ht⟩
  · have : xs = [] := List.eq_nil_of_length_eq_zero (by omega)
    subst this
    exact Rd_nil
  · rcases Nat.eq_zero_or_pos xs.length with h0 | h0
    · have : xs = [] := List.eq_nil_of_length_eq_zero h0
      subst this
      exact Or.inl ⟨_, _, by rw [hn]; rfl, (fun h => by cases h), rfl⟩
    · refine Or.inr ⟨g, 0, cap, by rw [hn], h0, by omega, hm, fun i hi => ?_⟩
      have e1 : cur[i]? = some (.int k (xs.getD i 0)) := by
        have e2 : (cur.toList.take (n * 1))[i]? = some (.int k (xs.getD i 0)) := by
          rw [ht, List.getElem?_map, List.getElem?_eq_getElem hi]
          simp [List.getD_eq_getElem?_getD, List.getElem?_eq_getElem hi]
        rw [List.getElem?_take] at e2
        split at e2
        · simpa using e2
        · cases e2
      simp [World.cell?, hg, e1]
/-- append of a slice that is read onto one of the call's own: one way on, whatever the source -/
theorem wp_append_rd {P : Program} {w : World} {k : IntKind} {o : Oper} {a : Act} {K : Act → World → Prop} {Q : Exit → Act → World → Prop} (s x : Operand) (t : TypeId)
    (ho : o.op = .call { callee := .builtin .append, args := #[s, x], argTypes := #[t, t] })
    (base : Nat) (e : TypeId) (i : TypeInfo) (bytes : Nat) (ht : P.underlying t = some (.slice e)) (hi : P.info? e = some i) (hz : i.zero = some (.int k 0)) (hsize : i.size = 1) (hby : i.bytes = bytes)
    (v : Value) (ys : List Int) (hs : a.eval s = v) (hown : w.ownsRow base e 1 v ys.length (ys.map (Value.int k)))
    (vx : Value) (xs : List Int) (hx : a.eval x = vx) (hr : Rd k w vx xs)
    (h63 : ys.length + xs.length ≤ maxLen) (hbytes : (ys.length + xs.length) * bytes ≤ 140737488355328) (hbase : base ≤ w.heap.size)
    (h : ∀ v' w', w'.ownsRow base e 1 v' (ys ++ xs).length ((ys ++ xs).map (Value.int k)) → w.grownBy w' v.ownBlock → K (a.put o.dst v') w') : o.wp P a w K Q := by
  have h1 : ∀ u ∈ xs.map (Value.int k), u.oneCell' = true := by
    intro u hu
    simp only [List.mem_map] at hu
    obtain ⟨n, _, rfl⟩ := hu
    rfl
  rcases hr with ⟨ao, cap, rfl, hn, rfl⟩ | ⟨b, off, cap, rfl, h0, hc1, hc2, hc⟩
  · cases ao with
    | none =>
      obtain rfl := hn rfl
      have hrun := run_append_owned_none (P := P) (w := w) base t o.type e i 1 ht hi v ys.length (ys.map (Value.int k)) hown
      unfold Oper.wp
      simp [execOp, ho, resolve, invoke, builtin, hs, hx, hrun, Result.andThen]
      exact h v w (by simpa using hown) ⟨rfl, rfl, rfl, Nat.le_refl _, fun _ _ _ => rfl⟩
    | some ad =>
      refine wp_append_own w s x t ho base e i (.int k 0) 1 bytes ht hi hz hsize hby rfl (by decide) v ys.length _ hs hown ad 0 cap [] hx rfl (by simp) (by simp) (by simpa using h63) (by simpa using hbytes) hbase ?_
      intro v' w' h2 h3 _
      exact h v' w' (by simpa using h2) h3
  · refine wp_append_own w s x t ho base e i (.int k 0) 1 bytes ht hi hz hsize hby rfl (by decide) v ys.length _ hs hown ⟨b, off, none⟩ xs.length cap (xs.map (Value.int k)) hx (by simp) ?_ h1 h63 hbytes hbase ?_
    · intro j u hj
      rw [List.getElem?_map] at hj
      cases hg : xs[j]? with
      | none => rw [hg] at hj; cases hj
      | some n =>
        rw [hg] at hj
        simp at hj
        subst hj
        have hj2 : j < xs.length := by
          rcases Nat.lt_or_ge j xs.length with h | h
          · exact h
          · rw [List.getElem?_eq_none h] at hg; cases hg
        have := hc j hj2
        rw [List.getD_eq_getElem?_getD, hg] at this
        simp at this
        by_cases hz : j = 0
        · subst hz; simpa [Addr.add] using this
        · simpa [Addr.add, hz] using this
    · intro v' w' h2 h3 _
      exact h v' w' (by simpa using h2) h3
theorem wpList_append_rd {P : Program} {w : World} {k : IntKind} {ops : Array Oper} {rest : List Oper} {o : Oper} {a : Act} {Q : Exit → Act → World → Prop} (hgd : o.guard = none) (s x : Operand) (t : TypeId)
    (ho : o.op = .call { callee := .builtin .append, args := #[s, x], argTypes := #[t, t] })
    (base : Nat) (e : TypeId) (i : TypeInfo) (bytes : Nat) (ht : P.underlying t = some (.slice e)) (hi : P.info? e = some i) (hz : i.zero = some (.int k 0)) (hsize : i.size = 1) (hby : i.bytes = bytes)
    (v : Value) (ys : List Int) (hs : a.eval s = v) (hown : w.ownsRow base e 1 v ys.length (ys.map (Value.int k)))
    (vx : Value) (xs : List Int) (hx : a.eval x = vx) (hr : Rd k w vx xs)
    (h63 : ys.length + xs.length ≤ maxLen) (hbytes : (ys.length + xs.length) * bytes ≤ 140737488355328) (hbase : base ≤ w.heap.size)
    (h : ∀ v' w', w'.ownsRow base e 1 v' (ys ++ xs).length ((ys ++ xs).map (Value.int k)) → w.grownBy w' v.ownBlock → wpList P ops Q rest (a.put o.dst v') w') : wpList P ops Q (o :: rest) a w :=
  wpList_plain hgd fun _ hK => wp_append_rd s x t ho base e i bytes ht hi hz hsize hby v ys hs hown vx xs hx hr h63 hbytes hbase fun v' w' h2 h3 => hK _ _ (h v' w' h2 h3)
/-- the same behind a guard that is met ('ok && f(append(..))') -/
theorem wpList_append_rdg {P : Program} {w : World} {k : IntKind} {ops : Array Oper} {rest : List Oper} {o : Oper} {a : Act} {Q : Exit → Act → World → Prop} (hgd : Region.wanted o (yielded ops a.tmps) = true) (s x : Operand) (t : TypeId)
    (ho : o.op = .call { callee := .builtin .append, args := #[s, x], argTypes := #[t, t] })
    (base : Nat) (e : TypeId) (i : TypeInfo) (bytes : Nat) (ht : P.underlying t = some (.slice e)) (hi : P.info? e = some i) (hz : i.zero = some (.int k 0)) (hsize : i.size = 1) (hby : i.bytes = bytes)
    (v : Value) (ys : List Int) (hs : a.eval s = v) (hown : w.ownsRow base e 1 v ys.length (ys.map (Value.int k)))
    (vx : Value) (xs : List Int) (hx : a.eval x = vx) (hr : Rd k w vx xs)
    (h63 : ys.length + xs.length ≤ maxLen) (hbytes : (ys.length + xs.length) * bytes ≤ 140737488355328) (hbase : base ≤ w.heap.size)
    (h : ∀ v' w', w'.ownsRow base e 1 v' (ys ++ xs).length ((ys ++ xs).map (Value.int k)) → w.grownBy w' v.ownBlock → wpList P ops Q rest (a.put o.dst v') w') : wpList P ops Q (o :: rest) a w :=
  wpList_step fun K hK => by
    rw [if_pos hgd]
    exact wp_append_rd s x t ho base e i bytes ht hi hz hsize hby v ys hs hown vx xs hx hr h63 hbytes hbase fun v' w' h2 h3 => hK _ _ (h v' w' h2 h3)

/-! what is asked of a slice that is read: its length, a cut, a cell -/
theorem rd_form {k : IntKind} {w : World} {v : Value} {xs : List Int} (h : Rd k w v xs) : ∃ ao cap, v = .slice ao xs.length cap ∧ xs.length ≤ cap ∧ (ao = none → cap = 0) ∧
    (0 < xs.length → cap ≤ maxLen ∧ ∃ b off, ao = some ⟨b, off, none⟩ ∧ ∀ i, i < xs.length → w.cell? ⟨b, off + i, none⟩ = some (.int k (xs.getD i 0))) := by
  rcases h with ⟨ao, cap, rfl, h1, rfl⟩ | ⟨b, off, cap, rfl, h0, h1, h2, hc⟩
  · exact ⟨ao, cap, rfl, Nat.zero_le _, h1, fun h => by simp at h⟩
  · exact ⟨_, cap, rfl, h1, (fun h => by cases h), fun _ => ⟨h2, b, off, rfl, hc⟩⟩
theorem rd_len {P : Program} {k : IntKind} {w : World} {v : Value} {xs : List Int} (h : Rd k w v xs) {t e : TypeId} (ht : P.underlying t = some (.slice e)) (ty : TypeId) (w' : World) :
    (Builtin.len_ #[t] ty #[v]).run P w' = .ok (.int .i64 xs.length) w' := by
  obtain ⟨ao, cap, rfl, _⟩ := rd_form h
  simp [Builtin.len_, run_underlying ht, goInt]
theorem rd_cut {P : Program} {k : IntKind} {w : World} {v : Value} {xs : List Int} (h : Rd k w v xs) {t : TypeId} (ht : P.underlying t = some (.slice (P.elem t))) (hs : ∀ w, (sizeOf (P.elem t)).run P w = .ok 1 w) (lo hi : Nat) (h1 : lo ≤ hi) (h2 : hi ≤ xs.length) :
    ∃ v', Rd k w v' ((xs.drop lo).take (hi - lo)) ∧ (∀ w', (Instr.slice t v (some (.int .i64 (lo : Int))) (some (.int .i64 (hi : Int))) none).run P w' = .ok v' w') ∧
      (lo = 0 → ∀ w', (Instr.slice t v none (some (.int .i64 (hi : Int))) none).run P w' = .ok v' w') ∧ (hi = xs.length → ∀ w', (Instr.slice t v (some (.int .i64 (lo : Int))) none none).run P w' = .ok v' w') := by
  obtain ⟨ao, cap, rfl, hc, hn, hx⟩ := rd_form h
  refine ⟨sliced ao lo hi cap 1, ?_, fun w' => ?_, fun h0 w' => ?_, fun h0 w' => ?_⟩
  · have hl : ((xs.drop lo).take (hi - lo)).length = hi - lo := by simp; omega
    rcases Nat.eq_zero_or_pos (hi - lo) with hz | hz
    · refine Or.inl ⟨if cap = lo then ao else ao.map (·.add (lo * 1)), cap - lo, by rw [sliced, hz], ?_, by rw [hz]; simp⟩
      intro he
      by_cases hcl : cap = lo
      · omega
      · rw [if_neg hcl] at he
        cases ao with
        | none => have := hn rfl; omega
        | some a => cases he
    · obtain ⟨hm, b, off, rfl, hcell⟩ := hx (by omega)
      refine Or.inr ⟨b, off + lo, cap - lo, ?_, by omega, by omega, by omega, fun i hi2 => ?_⟩
      · rw [sliced, hl, if_neg (by omega)]
        congr 1
        simp [Addr.add]
      · rw [hl] at hi2
        have := hcell (lo + i) (by omega)
        rw [show off + lo + i = off + (lo + i) by omega, this]
        simp only [List.getD_eq_getElem?_getD, List.getElem?_take, List.getElem?_drop]
        rw [if_pos hi2]
  · rw [run_slice_lh w' t ao xs.length cap ht .i64 .i64 (lo : Int) (hi : Int) (by omega) (by omega) (by omega), hs]
    simp [Result.andThen]
  · subst h0
    rw [run_slice_h w' t ao xs.length cap ht .i64 (hi : Int) (by omega) (by omega), hs]
    simp [Result.andThen]
  · subst h0
    rw [run_slice_l w' t ao xs.length cap ht .i64 (lo : Int) (by omega) (by omega), hs]
    simp [Result.andThen]
/-- the same with the bounds as the walk spells them -/
theorem rd_cutI {P : Program} {k : IntKind} {w : World} {v : Value} {xs : List Int} (h : Rd k w v xs) {t : TypeId} (ht : P.underlying t = some (.slice (P.elem t))) (hs : ∀ w, (sizeOf (P.elem t)).run P w = .ok 1 w) (lo hi : Int) (h0 : 0 ≤ lo) (h1 : lo ≤ hi) (h2 : hi ≤ xs.length) :
    ∃ v', Rd k w v' ((xs.drop lo.toNat).take (hi - lo).toNat) ∧ (∀ w', (Instr.slice t v (some (.int .i64 lo)) (some (.int .i64 hi)) none).run P w' = .ok v' w') ∧
      (lo = 0 → ∀ w', (Instr.slice t v none (some (.int .i64 hi)) none).run P w' = .ok v' w') ∧ (hi = xs.length → ∀ w', (Instr.slice t v (some (.int .i64 lo)) none none).run P w' = .ok v' w') := by
  obtain ⟨l, rfl⟩ := Int.eq_ofNat_of_zero_le h0
  obtain ⟨m, rfl⟩ := Int.eq_ofNat_of_zero_le (show 0 ≤ hi by omega)
  obtain ⟨v', r, a, b, c⟩ := rd_cut h ht hs l m (by omega) (by omega)
  refine ⟨v', ?_, a, fun h => b (by omega), fun h => c (by omega)⟩
  rw [show ((l : Int)).toNat = l by omega, show ((m : Int) - (l : Int)).toNat = m - l by omega]
  exact r
theorem rd_idx {P : Program} {k : IntKind} {w : World} {v : Value} {xs : List Int} (h : Rd k w v xs) {t : TypeId} (ht : P.underlying t = some (.slice (P.elem t))) (hs : ∀ w, (sizeOf (P.elem t)).run P w = .ok 1 w) (i : Int) (h0 : 0 ≤ i) (h1 : i < xs.length) :
    ∃ a : Addr, (∀ w', (Instr.indexAt t v (.int .i64 i)).run P w' = .ok (.pointer (some a)) w') ∧ w.cell? a = some (.int k (xs.getD i.toNat 0)) := by
  obtain ⟨ao, cap, rfl, hc, hn, hx⟩ := rd_form h
  obtain ⟨hm, b, off, rfl, hcell⟩ := hx (by omega)
  refine ⟨⟨b, off + i.toNat, none⟩, fun w' => ?_, hcell i.toNat (by omega)⟩
  rw [run_indexAt_slice (h := ht), if_pos ⟨h0, h1⟩, hs]
  simp only [Result.andThen, Nat.mul_one]
  congr 3
  unfold Addr.add
  split
  · rename_i hz; rw [hz]; rfl
  · rfl
theorem rd_one {k : IntKind} (w : World) (x : Int) (T : TypeId) : Rd k (w.alloc (.cells #[.int k x] T)) (.slice (some ⟨w.heap.size, 0, none⟩) 1 1) [x] :=
  Or.inr ⟨w.heap.size, 0, 1, rfl, by simp, by simp, by decide, fun i hi => by
    have : i = 0 := by simp at hi; omega
    subst this
    rw [World.cell?_alloc_new]
    rfl⟩
/-- a list that is written out -/
theorem rd_lit {k : IntKind} (w : World) (xs : List Int) (T : TypeId) (h0 : 0 < xs.length) (h1 : xs.length ≤ maxLen) : Rd k (w.alloc (.cells (xs.map (Value.int k)).toArray T)) (.slice (some ⟨w.heap.size, 0, none⟩) xs.length xs.length) xs :=
  Or.inr ⟨w.heap.size, 0, xs.length, rfl, h0, Nat.le_refl _, h1, fun i hi => by
    rw [World.cell?_alloc_new]
    simp [List.getD_eq_getElem?_getD, List.getElem?_eq_getElem hi]⟩
/-- blocks laid one behind the other -/
def lay (w : World) (os : List Obj) : World := os.foldl World.alloc w
theorem lay_below (w : World) (os : List Obj) : Below w.heap.size w (lay w os) := by
  have : ∀ (os : List Obj) (v : World), Below w.heap.size w v → Below w.heap.size w (os.foldl World.alloc v) := by
    intro os
    induction os with
    | nil => intro v h; exact h
    | cons o os ih => intro v h; exact ih _ (h.alloc h.size o)
  exact this os w (Below.refl _ _)
theorem size_al (w : World) (o : Obj) : (w.alloc o).heap.size = w.heap.size + 1 := by unfold World.alloc; simp
theorem lay_at (os : List Obj) : ∀ (w : World) (j : Nat), j < os.length → (lay w os).heap[w.heap.size + j]? = os[j]? := by
  induction os with
  | nil => intro w j h; simp at h
  | cons o os ih =>
    intro w j h
    cases j with
    | zero =>
      show (lay (w.alloc o) os).heap[w.heap.size]? = some o
      rw [(lay_below (w.alloc o) os).block w.heap.size (by rw [size_al]; omega)]
      exact heap_alloc_new w o
    | succ j =>
      have := ih (w.alloc o) j (by simpa using h)
      rw [size_al] at this
      show (lay (w.alloc o) os).heap[w.heap.size + (j + 1)]? = os[j]?
      rw [← this]
      congr 1
      omega
theorem rd_lay {k : IntKind} (w : World) (os : List Obj) (j : Nat) (hj : j < os.length) (xs : List Int) (T : TypeId) (h : os[j]? = some (.cells (xs.map (Value.int k)).toArray T)) (h0 : 0 < xs.length) (h1 : xs.length ≤ maxLen) :
    Rd k (lay w os) (.slice (some ⟨w.heap.size + j, 0, none⟩) xs.length xs.length) xs :=
  Or.inr ⟨w.heap.size + j, 0, xs.length, rfl, h0, Nat.le_refl _, h1, fun i hi => by
    have e := lay_at os w j hj
    rw [h] at e
    simp [World.cell?, e, List.getD_eq_getElem?_getD, List.getElem?_eq_getElem hi]⟩
theorem own_below {w w' : World} {base : Nat} {e : TypeId} {v : Value} {n : Nat} {xs : List Value} (h : w.ownsRow base e 1 v n xs) (g : Below w.heap.size w w') : w'.ownsRow base e 1 v n xs := by
  obtain ⟨hl, h⟩ := h
  refine ⟨hl, ?_⟩
  rcases h with h | ⟨b, cap, cur, rfl, hb, hg, hc, hm, hs, ht⟩
  · exact Or.inl h
  · refine Or.inr ⟨b, cap, cur, rfl, hb, ?_, hc, hm, hs, ht⟩
    rw [g.block b (Array.getElem?_eq_some_iff.1 hg).1]
    exact hg

/-- a parameter that is boxed -/
theorem box_cell (w : World) (cs : Array Value) (T : TypeId) (i : Nat) (v : Value) (h : cs[i]? = some v) : (w.alloc (.cells cs T)).cell? ⟨w.heap.size, i, none⟩ = some v := by rw [World.cell?_alloc_new]; exact h
theorem box_below (w : World) (o : Obj) : Below w.heap.size w (w.alloc o) := (Below.refl _ _).alloc (Nat.le_refl _) _
/-- a slice of integers that came in reads as some list; what its datum weighs bounds its length -/
theorem rd_open {H : Type} {enc : TypeId × Value → H} {P : Program} {W : World} {t e : TypeId} {k : IntKind} {a : Option Addr} {len cap : Nat} {d : DataW H} {ps : List MemPlace}
    (ht : P.underlying t = some (.slice e)) (he : P.underlying e = some (.int k)) (hc : P.cellsOf e = 1) (h : DataW.Trod enc P W 0 (fun _ => true) true t (.slice a len cap) d ps) :
    ∃ xs : List Int, Rd k W (.slice a len cap) xs ∧ (∀ n ∈ xs, (Lit.int k n).wf = true) ∧ (xs = [] ∨ ∃ ys zs, d = .slice ys zs ∧ xs.length ≤ ys.length + zs.length) := by
  obtain ⟨fuel, hf⟩ := h
  rcases open_ints ht he hc hf with ⟨hcs, _⟩ | ⟨x, l, c, zs, hcs, _, hl, hm, hz, hd, hcell, hwz⟩
  · simp [Value.cells] at hcs
    obtain ⟨rfl, rfl, rfl⟩ := hcs
    exact ⟨[], Rd_nil, fun n hn => by simp at hn, Or.inl rfl⟩
  · simp [Value.cells] at hcs
    obtain ⟨rfl, rfl, rfl⟩ := hcs
    have hz2 : zs.length = cap := by simpa using hz
    have hxl : (zs.take len).length = len := by simp; omega
    refine ⟨zs.take len, ?_, fun n hn => hwz n (List.mem_of_mem_take hn), Or.inr ⟨_, _, congrArg Prod.fst hd, by simp [lits]⟩⟩
    rcases Nat.eq_zero_or_pos len with h0 | h0
    · subst h0
      exact Or.inl ⟨some x, cap, rfl, (fun h => by cases h), by simp⟩
    · obtain ⟨b, off, spot⟩ := x
      have hc0 := hcell 0 (by omega)
      have hspot : spot = none := by simpa [Addr.add] using World.cell?_spot hc0
      subst hspot
      refine Or.inr ⟨b, off, cap, by rw [hxl], by omega, by omega, hm, fun i hi => ?_⟩
      have := hcell i (by omega)
      have e1 : (zs.take len).getD i 0 = zs.getD i 0 := by
        rw [List.getD_eq_getElem?_getD, List.getD_eq_getElem?_getD, List.getElem?_take, if_pos (by omega)]
      rw [e1, ← this]
      by_cases hi0 : i = 0
      · subst hi0; simp [Addr.add]
      · simp [Addr.add, hi0]
end Go.Proofs.YtaiimfdcbdfbdaaDoor
