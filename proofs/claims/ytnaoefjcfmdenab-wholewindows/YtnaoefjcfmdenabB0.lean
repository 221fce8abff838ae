/-
  Texts of one proof, laid one behind the other: Sl Sb Pmm Pb1 Dgs Dsh.
-/
import Derived.WalkKit
import Derived.ProofKit
import Derived.OpenShut
import Derived.WalkLawsBesides
import Derived.Handy
import Derived.Deep.Light
import Derived.Deep.QuietTactic
import Derived.BigQuiet
import Derived.Deep.RegionWith
import Derived.Below
import Derived.Laws.AppendOwnNone
import Derived.ChangeSlices
import Derived.SizedLaws
import Derived.Laws.BytesArg
import Derived.Laws.OwnMore
import Derived.Lib.AppendStr
import Derived.Lib.Strings
namespace Go.Proofs.Ytnaoefjcfmdenab
open Go.ChangeShapes Go.WideShapes Go.ChangeAt Go.RowKit
set_option linter.unusedVariables false
set_option linter.unusedSimpArgs false

/-
  Slices of integers that are read: what a slice value reads as in a world, and that it reads the same when only new blocks are laid. No Go text in sight.
-/
theorem hid {p : Prop} (h : p) : Hid p := h
theorem ret_b {a b : Bool} (h : a = b) : Ending.returned (.bool a) = .returned (.bool b) := by rw [h]
/-- what was there reads the same behind a call that leaves all below its first new block -/
theorem below_cell {w w' : World} (h : Below w.heap.size w w') {a : Addr} {v : Value} (hc : w.cell? a = some v) : w'.cell? a = some v :=
  (h.cell (p := a) (World.block_lt_of_cell? w a hc)).trans hc
theorem below_trans {a b c : World} (h : Below a.heap.size a b) (g : Below b.heap.size b c) : Below a.heap.size a c :=
  h.trans (g.mono h.size)
theorem below_drewN {a b : World} (h : Below a.heap.size a b) (n : Nat) : Below a.heap.size a (b.drewN n) := h.trans ⟨rfl, rfl, rfl, Nat.le_refl _, fun _ _ => rfl⟩
theorem below_grown {a b c : World} {row : Option Nat} (h : Below a.heap.size a b) (g : b.grownBy c row) (hr : ∀ k, row = some k → a.heap.size ≤ k) : Below a.heap.size a c :=
  h.grown g h.size hr

/-- the slice value v reads as the integers xs in the world w: an empty one, or one whose cells lie at a plain address -/
def Rd (k : IntKind) (w : World) (v : Value) (xs : List Int) : Prop :=
  (∃ ao cap, v = .slice ao 0 cap ∧ (ao = none → cap = 0) ∧ xs = []) ∨
  ∃ b off cap, v = .slice (some ⟨b, off, none⟩) xs.length cap ∧ 0 < xs.length ∧ xs.length ≤ cap ∧ cap ≤ maxLen ∧ ∀ i, i < xs.length → w.cell? ⟨b, off + i, none⟩ = some (.int k (xs.getD i 0))
theorem Rd.below {k : IntKind} {w w' : World} {v : Value} {xs : List Int} (h : Rd k w v xs) (g : Below w.heap.size w w') : Rd k w' v xs := by
  rcases h with h | ⟨b, off, cap, rfl, h0, h1, h2, hc⟩
  · exact Or.inl h
  · exact Or.inr ⟨b, off, cap, rfl, h0, h1, h2, fun i hi => below_cell g (hc i hi)⟩
theorem Rd_nil {k : IntKind} {w : World} : Rd k w (.slice none 0 0) [] := Or.inl ⟨none, 0, rfl, fun _ => rfl, rfl⟩
/-- what the call has built reads as what it was built of -/
theorem Rd_own {k : IntKind} {w : World} {base : Nat} {e : TypeId} {v : Value} {n : Nat} {xs : List Int} (h : w.ownsRow base e 1 v n (xs.map (Value.int k))) : Rd k w v xs ∧ n = xs.length := by
  obtain ⟨hl, h⟩ := h
  have hn : n = xs.length := by simp at hl; omega
  refine ⟨?_, hn⟩
  rcases h with ⟨rfl, h0⟩ | ⟨g, cap, cur, rfl, hb, hg, hc, hm, hs, ht⟩
  · have : xs = [] := List.eq_nil_of_length_eq_zero (by omega)
    subst this
    exact Rd_nil
  · rcases Nat.eq_zero_or_pos xs.length with h0 | h0
    · have : xs = [] := List.eq_nil_of_length_eq_zero h0
      subst this
      exact Or.inl ⟨_, _, by rw [hn]; rfl, (fun h => by cases h), rfl⟩
    · refine Or.inr ⟨g, 0, cap, by rw [hn], h0, by omega, hm, fun i hi => ?_⟩
      have e1 : cur[i]? = some (.int k (xs.getD i 0)) := by
        have e2 : (cur.toList.take (n * 1))[i]? = some (.int k (xs.getD i 0)) := by
          rw [ht, List.getElem?_map, List.getElem?_eq_getElem hi]
          simp [List.getD_eq_getElem?_getD, List.getElem?_eq_getElem hi]
        rw [List.getElem?_take] at e2
        split at e2
        · simpa using e2
        · cases e2
      simp [World.cell?, hg, e1]
/-- append of a slice that is read onto one of the call's own: one way on, whatever the source -/
theorem wp_append_rd {P : Program} {w : World} {k : IntKind} {o : Oper} {a : Act} {K : Act → World → Prop} {Q : Exit → Act → World → Prop} (s x : Operand) (t : TypeId)
    (ho : o.op = .call { callee := .builtin .append, args := #[s, x], argTypes := #[t, t] })
    (base : Nat) (e : TypeId) (i : TypeInfo) (bytes : Nat) (ht : P.underlying t = some (.slice e)) (hi : P.info? e = some i) (hz : i.zero = some (.int k 0)) (hsize : i.size = 1) (hby : i.bytes = bytes)
    (v : Value) (ys : List Int) (hs : a.eval s = v) (hown : w.ownsRow base e 1 v ys.length (ys.map (Value.int k)))
    (vx : Value) (xs : List Int) (hx : a.eval x = vx) (hr : Rd k w vx xs)
    (h63 : ys.length + xs.length ≤ maxLen) (hbytes : (ys.length + xs.length) * bytes ≤ 140737488355328) (hbase : base ≤ w.heap.size)
    (h : ∀ v' w', w'.ownsRow base e 1 v' (ys ++ xs).length ((ys ++ xs).map (Value.int k)) → w.grownBy w' v.ownBlock → K (a.put o.dst v') w') : o.wp P a w K Q := by
  have h1 : ∀ u ∈ xs.map (Value.int k), u.oneCell' = true := by
    intro u hu
    simp only [List.mem_map] at hu
    obtain ⟨n, _, rfl⟩ := hu
    rfl
  rcases hr with ⟨ao, cap, rfl, hn, rfl⟩ | ⟨b, off, cap, rfl, h0, hc1, hc2, hc⟩
  · cases ao with
    | none =>
      obtain rfl := hn rfl
      have hrun := run_append_owned_none (P := P) (w := w) base t o.type e i 1 ht hi v ys.length (ys.map (Value.int k)) hown
      unfold Oper.wp
      simp [execOp, ho, resolve, invoke, builtin, hs, hx, hrun, Result.andThen]
      exact h v w (by simpa using hown) ⟨rfl, rfl, rfl, Nat.le_refl _, fun _ _ _ => rfl⟩
    | some ad =>
      refine wp_append_own w s x t ho base e i (.int k 0) 1 bytes ht hi hz hsize hby rfl (by decide) v ys.length _ hs hown ad 0 cap [] hx rfl (by simp) (by simp) (by simpa using h63) (by simpa using hbytes) hbase ?_
      intro v' w' h2 h3 _
      exact h v' w' (by simpa using h2) h3
  · refine wp_append_own w s x t ho base e i (.int k 0) 1 bytes ht hi hz hsize hby rfl (by decide) v ys.length _ hs hown ⟨b, off, none⟩ xs.length cap (xs.map (Value.int k)) hx (by simp) ?_ h1 h63 hbytes hbase ?_
    · intro j u hj
      rw [List.getElem?_map] at hj
      cases hg : xs[j]? with
      | none => rw [hg] at hj; cases hj
      | some n =>
        rw [hg] at hj
        simp at hj
        subst hj
        have hj2 : j < xs.length := by
          rcases Nat.lt_or_ge j xs.length with h | h
          · exact h
          · rw [List.getElem?_eq_none h] at hg; cases hg
        have := hc j hj2
        rw [List.getD_eq_getElem?_getD, hg] at this
        simp at this
        by_cases hz : j = 0
        · subst hz; simpa [Addr.add] using this
        · simpa [Addr.add, hz] using this
    · intro v' w' h2 h3 _
      exact h v' w' (by simpa using h2) h3
theorem wpList_append_rd {P : Program} {w : World} {k : IntKind} {ops : Array Oper} {rest : List Oper} {o : Oper} {a : Act} {Q : Exit → Act → World → Prop} (hgd : o.guard = none) (s x : Operand) (t : TypeId)
    (ho : o.op = .call { callee := .builtin .append, args := #[s, x], argTypes := #[t, t] })
    (base : Nat) (e : TypeId) (i : TypeInfo) (bytes : Nat) (ht : P.underlying t = some (.slice e)) (hi : P.info? e = some i) (hz : i.zero = some (.int k 0)) (hsize : i.size = 1) (hby : i.bytes = bytes)
    (v : Value) (ys : List Int) (hs : a.eval s = v) (hown : w.ownsRow base e 1 v ys.length (ys.map (Value.int k)))
    (vx : Value) (xs : List Int) (hx : a.eval x = vx) (hr : Rd k w vx xs)
    (h63 : ys.length + xs.length ≤ maxLen) (hbytes : (ys.length + xs.length) * bytes ≤ 140737488355328) (hbase : base ≤ w.heap.size)
    (h : ∀ v' w', w'.ownsRow base e 1 v' (ys ++ xs).length ((ys ++ xs).map (Value.int k)) → w.grownBy w' v.ownBlock → wpList P ops Q rest (a.put o.dst v') w') : wpList P ops Q (o :: rest) a w :=
  wpList_plain hgd fun _ hK => wp_append_rd s x t ho base e i bytes ht hi hz hsize hby v ys hs hown vx xs hx hr h63 hbytes hbase fun v' w' h2 h3 => hK _ _ (h v' w' h2 h3)
/-- the same behind a guard that is met ('ok && f(append(..))') -/
theorem wpList_append_rdg {P : Program} {w : World} {k : IntKind} {ops : Array Oper} {rest : List Oper} {o : Oper} {a : Act} {Q : Exit → Act → World → Prop} (hgd : Region.wanted o (yielded ops a.tmps) = true) (s x : Operand) (t : TypeId)
    (ho : o.op = .call { callee := .builtin .append, args := #[s, x], argTypes := #[t, t] })
    (base : Nat) (e : TypeId) (i : TypeInfo) (bytes : Nat) (ht : P.underlying t = some (.slice e)) (hi : P.info? e = some i) (hz : i.zero = some (.int k 0)) (hsize : i.size = 1) (hby : i.bytes = bytes)
    (v : Value) (ys : List Int) (hs : a.eval s = v) (hown : w.ownsRow base e 1 v ys.length (ys.map (Value.int k)))
    (vx : Value) (xs : List Int) (hx : a.eval x = vx) (hr : Rd k w vx xs)
    (h63 : ys.length + xs.length ≤ maxLen) (hbytes : (ys.length + xs.length) * bytes ≤ 140737488355328) (hbase : base ≤ w.heap.size)
    (h : ∀ v' w', w'.ownsRow base e 1 v' (ys ++ xs).length ((ys ++ xs).map (Value.int k)) → w.grownBy w' v.ownBlock → wpList P ops Q rest (a.put o.dst v') w') : wpList P ops Q (o :: rest) a w :=
  wpList_step fun K hK => by
    rw [if_pos hgd]
    exact wp_append_rd s x t ho base e i bytes ht hi hz hsize hby v ys hs hown vx xs hx hr h63 hbytes hbase fun v' w' h2 h3 => hK _ _ (h v' w' h2 h3)

/-! what is asked of a slice that is read: its length, a cut, a cell -/
theorem rd_form {k : IntKind} {w : World} {v : Value} {xs : List Int} (h : Rd k w v xs) : ∃ ao cap, v = .slice ao xs.length cap ∧ xs.length ≤ cap ∧ (ao = none → cap = 0) ∧
    (0 < xs.length → cap ≤ maxLen ∧ ∃ b off, ao = some ⟨b, off, none⟩ ∧ ∀ i, i < xs.length → w.cell? ⟨b, off + i, none⟩ = some (.int k (xs.getD i 0))) := by
  rcases h with ⟨ao, cap, rfl, h1, rfl⟩ | ⟨b, off, cap, rfl, h0, h1, h2, hc⟩
  · exact ⟨ao, cap, rfl, Nat.zero_le _, h1, fun h => by simp at h⟩
  · exact ⟨_, cap, rfl, h1, (fun h => by cases h), fun _ => ⟨h2, b, off, rfl, hc⟩⟩
theorem rd_len {P : Program} {k : IntKind} {w : World} {v : Value} {xs : List Int} (h : Rd k w v xs) {t e : TypeId} (ht : P.underlying t = some (.slice e)) (ty : TypeId) (w' : World) :
    (Builtin.len_ #[t] ty #[v]).run P w' = .ok (.int .i64 xs.length) w' := by
  obtain ⟨ao, cap, rfl, _⟩ := rd_form h
  simp [Builtin.len_, run_underlying ht, goInt]
theorem rd_cut {P : Program} {k : IntKind} {w : World} {v : Value} {xs : List Int} (h : Rd k w v xs) {t : TypeId} (ht : P.underlying t = some (.slice (P.elem t))) (hs : ∀ w, (sizeOf (P.elem t)).run P w = .ok 1 w) (lo hi : Nat) (h1 : lo ≤ hi) (h2 : hi ≤ xs.length) :
    ∃ v', Rd k w v' ((xs.drop lo).take (hi - lo)) ∧ (∀ w', (Instr.slice t v (some (.int .i64 (lo : Int))) (some (.int .i64 (hi : Int))) none).run P w' = .ok v' w') ∧
      (lo = 0 → ∀ w', (Instr.slice t v none (some (.int .i64 (hi : Int))) none).run P w' = .ok v' w') ∧ (hi = xs.length → ∀ w', (Instr.slice t v (some (.int .i64 (lo : Int))) none none).run P w' = .ok v' w') := by
  obtain ⟨ao, cap, rfl, hc, hn, hx⟩ := rd_form h
  refine ⟨sliced ao lo hi cap 1, ?_, fun w' => ?_, fun h0 w' => ?_, fun h0 w' => ?_⟩
  · have hl : ((xs.drop lo).take (hi - lo)).length = hi - lo := by simp; omega
    rcases Nat.eq_zero_or_pos (hi - lo) with hz | hz
    · refine Or.inl ⟨if cap = lo then ao else ao.map (·.add (lo * 1)), cap - lo, by rw [sliced, hz], ?_, by rw [hz]; simp⟩
      intro he
      by_cases hcl : cap = lo
      · omega
      · rw [if_neg hcl] at he
        cases ao with
        | none => have := hn rfl; omega
        | some a => cases he
    · obtain ⟨hm, b, off, rfl, hcell⟩ := hx (by omega)
      refine Or.inr ⟨b, off + lo, cap - lo, ?_, by omega, by omega, by omega, fun i hi2 => ?_⟩
      · rw [sliced, hl, if_neg (by omega)]
        congr 1
        simp [Addr.add]
      · rw [hl] at hi2
        have := hcell (lo + i) (by omega)
        rw [show off + lo + i = off + (lo + i) by omega, this]
        simp only [List.getD_eq_getElem?_getD, List.getElem?_take, List.getElem?_drop]
        rw [if_pos hi2]
  · rw [run_slice_lh w' t ao xs.length cap ht .i64 .i64 (lo : Int) (hi : Int) (by omega) (by omega) (by omega), hs]
    simp [Result.andThen]
  · subst h0
    rw [run_slice_h w' t ao xs.length cap ht .i64 (hi : Int) (by omega) (by omega), hs]
    simp [Result.andThen]
  · subst h0
    rw [run_slice_l w' t ao xs.length cap ht .i64 (lo : Int) (by omega) (by omega), hs]
    simp [Result.andThen]
/-- the same with the bounds as the walk spells them -/
theorem rd_cutI {P : Program} {k : IntKind} {w : World} {v : Value} {xs : List Int} (h : Rd k w v xs) {t : TypeId} (ht : P.underlying t = some (.slice (P.elem t))) (hs : ∀ w, (sizeOf (P.elem t)).run P w = .ok 1 w) (lo hi : Int) (h0 : 0 ≤ lo) (h1 : lo ≤ hi) (h2 : hi ≤ xs.length) :
    ∃ v', Rd k w v' ((xs.drop lo.toNat).take (hi - lo).toNat) ∧ (∀ w', (Instr.slice t v (some (.int .i64 lo)) (some (.int .i64 hi)) none).run P w' = .ok v' w') ∧
      (lo = 0 → ∀ w', (Instr.slice t v none (some (.int .i64 hi)) none).run P w' = .ok v' w') ∧ (hi = xs.length → ∀ w', (Instr.slice t v (some (.int .i64 lo)) none none).run P w' = .ok v' w') := by
  obtain ⟨l, rfl⟩ := Int.eq_ofNat_of_zero_le h0
  obtain ⟨m, rfl⟩ := Int.eq_ofNat_of_zero_le (show 0 ≤ hi by omega)
  obtain ⟨v', r, a, b, c⟩ := rd_cut h ht hs l m (by omega) (by omega)
  refine ⟨v', ?_, a, fun h => b (by omega), fun h => c (by omega)⟩
  rw [show ((l : Int)).toNat = l by omega, show ((m : Int) - (l : Int)).toNat = m - l by omega]
  exact r
theorem rd_idx {P : Program} {k : IntKind} {w : World} {v : Value} {xs : List Int} (h : Rd k w v xs) {t : TypeId} (ht : P.underlying t = some (.slice (P.elem t))) (hs : ∀ w, (sizeOf (P.elem t)).run P w = .ok 1 w) (i : Int) (h0 : 0 ≤ i) (h1 : i < xs.length) :
    ∃ a : Addr, (∀ w', (Instr.indexAt t v (.int .i64 i)).run P w' = .ok (.pointer (some a)) w') ∧ w.cell? a = some (.int k (xs.getD i.toNat 0)) := by
  obtain ⟨ao, cap, rfl, hc, hn, hx⟩ := rd_form h
  obtain ⟨hm, b, off, rfl, hcell⟩ := hx (by omega)
  refine ⟨⟨b, off + i.toNat, none⟩, fun w' => ?_, hcell i.toNat (by omega)⟩
  rw [run_indexAt_slice (h := ht), if_pos ⟨h0, h1⟩, hs]
  simp only [Result.andThen, Nat.mul_one]
  congr 3
  unfold Addr.add
  split
  · rename_i hz; rw [hz]; rfl
  · rfl
theorem rd_one {k : IntKind} (w : World) (x : Int) (T : TypeId) : Rd k (w.alloc (.cells #[.int k x] T)) (.slice (some ⟨w.heap.size, 0, none⟩) 1 1) [x] :=
  Or.inr ⟨w.heap.size, 0, 1, rfl, by simp, by simp, by decide, fun i hi => by
    have : i = 0 := by simp at hi; omega
    subst this
    rw [World.cell?_alloc_new]
    rfl⟩
/-- a list that is written out -/
theorem rd_lit {k : IntKind} (w : World) (xs : List Int) (T : TypeId) (h0 : 0 < xs.length) (h1 : xs.length ≤ maxLen) : Rd k (w.alloc (.cells (xs.map (Value.int k)).toArray T)) (.slice (some ⟨w.heap.size, 0, none⟩) xs.length xs.length) xs :=
  Or.inr ⟨w.heap.size, 0, xs.length, rfl, h0, Nat.le_refl _, h1, fun i hi => by
    rw [World.cell?_alloc_new]
    simp [List.getD_eq_getElem?_getD, List.getElem?_eq_getElem hi]⟩
/-- blocks laid one behind the other -/
def lay (w : World) (os : List Obj) : World := os.foldl World.alloc w
theorem lay_below (w : World) (os : List Obj) : Below w.heap.size w (lay w os) := by
  have : ∀ (os : List Obj) (v : World), Below w.heap.size w v → Below w.heap.size w (os.foldl World.alloc v) := by
    intro os
    induction os with
    | nil => intro v h; exact h
    | cons o os ih => intro v h; exact ih _ (h.alloc h.size o)
  exact this os w (Below.refl _ _)
theorem size_al (w : World) (o : Obj) : (w.alloc o).heap.size = w.heap.size + 1 := by unfold World.alloc; simp
theorem lay_at (os : List Obj) : ∀ (w : World) (j : Nat), j < os.length → (lay w os).heap[w.heap.size + j]? = os[j]? := by
  induction os with
  | nil => intro w j h; simp at h
  | cons o os ih =>
    intro w j h
    cases j with
    | zero =>
      show (lay (w.alloc o) os).heap[w.heap.size]? = some o
      rw [(lay_below (w.alloc o) os).block w.heap.size (by rw [size_al]; omega)]
      exact heap_alloc_new w o
    | succ j =>
      have := ih (w.alloc o) j (by simpa using h)
      rw [size_al] at this
      show (lay (w.alloc o) os).heap[w.heap.size + (j + 1)]? = os[j]?
      rw [← this]
      congr 1
      omega
theorem rd_lay {k : IntKind} (w : World) (os : List Obj) (j : Nat) (hj : j < os.length) (xs : List Int) (T : TypeId) (h : os[j]? = some (.cells (xs.map (Value.int k)).toArray T)) (h0 : 0 < xs.length) (h1 : xs.length ≤ maxLen) :
    Rd k (lay w os) (.slice (some ⟨w.heap.size + j, 0, none⟩) xs.length xs.length) xs :=
  Or.inr ⟨w.heap.size + j, 0, xs.length, rfl, h0, Nat.le_refl _, h1, fun i hi => by
    have e := lay_at os w j hj
    rw [h] at e
    simp [World.cell?, e, List.getD_eq_getElem?_getD, List.getElem?_eq_getElem hi]⟩
theorem own_below {w w' : World} {base : Nat} {e : TypeId} {v : Value} {n : Nat} {xs : List Value} (h : w.ownsRow base e 1 v n xs) (g : Below w.heap.size w w') : w'.ownsRow base e 1 v n xs := by
  obtain ⟨hl, h⟩ := h
  refine ⟨hl, ?_⟩
  rcases h with h | ⟨b, cap, cur, rfl, hb, hg, hc, hm, hs, ht⟩
  · exact Or.inl h
  · refine Or.inr ⟨b, cap, cur, rfl, hb, ?_, hc, hm, hs, ht⟩
    rw [g.block b (Array.getElem?_eq_some_iff.1 hg).1]
    exact hg

/-- a parameter that is boxed -/
theorem box_cell (w : World) (cs : Array Value) (T : TypeId) (i : Nat) (v : Value) (h : cs[i]? = some v) : (w.alloc (.cells cs T)).cell? ⟨w.heap.size, i, none⟩ = some v := by rw [World.cell?_alloc_new]; exact h
theorem box_below (w : World) (o : Obj) : Below w.heap.size w (w.alloc o) := (Below.refl _ _).alloc (Nat.le_refl _) _
/-- a slice of integers that came in reads as some list; what its datum weighs bounds its length -/
theorem rd_open {H : Type} {enc : TypeId × Value → H} {P : Program} {W : World} {t e : TypeId} {k : IntKind} {a : Option Addr} {len cap : Nat} {d : DataW H} {ps : List MemPlace}
    (ht : P.underlying t = some (.slice e)) (he : P.underlying e = some (.int k)) (hc : P.cellsOf e = 1) (h : DataW.Trod enc P W 0 (fun _ => true) true t (.slice a len cap) d ps) :
    ∃ xs : List Int, Rd k W (.slice a len cap) xs ∧ (∀ n ∈ xs, (Lit.int k n).wf = true) ∧ (xs = [] ∨ ∃ ys zs, d = .slice ys zs ∧ xs.length ≤ ys.length + zs.length) := by
  obtain ⟨fuel, hf⟩ := h
  rcases open_ints ht he hc hf with ⟨hcs, _⟩ | ⟨x, l, c, zs, hcs, _, hl, hm, hz, hd, hcell, hwz⟩
  · simp [Value.cells] at hcs
    obtain ⟨rfl, rfl, rfl⟩ := hcs
    exact ⟨[], Rd_nil, fun n hn => by simp at hn, Or.inl rfl⟩
  · simp [Value.cells] at hcs
    obtain ⟨rfl, rfl, rfl⟩ := hcs
    have hz2 : zs.length = cap := by simpa using hz
    have hxl : (zs.take len).length = len := by simp; omega
    refine ⟨zs.take len, ?_, fun n hn => hwz n (List.mem_of_mem_take hn), Or.inr ⟨_, _, congrArg Prod.fst hd, by simp [lits]⟩⟩
    rcases Nat.eq_zero_or_pos len with h0 | h0
    · subst h0
      exact Or.inl ⟨some x, cap, rfl, (fun h => by cases h), by simp⟩
    · obtain ⟨b, off, spot⟩ := x
      have hc0 := hcell 0 (by omega)
      have hspot : spot = none := by simpa [Addr.add] using World.cell?_spot hc0
      subst hspot
      refine Or.inr ⟨b, off, cap, by rw [hxl], by omega, by omega, hm, fun i hi => ?_⟩
      have := hcell i (by omega)
      have e1 : (zs.take len).getD i 0 = zs.getD i 0 := by
        rw [List.getD_eq_getElem?_getD, List.getD_eq_getElem?_getD, List.getElem?_take, if_pos (by omega)]
      rw [e1, ← this]
      by_cases hi0 : i = 0
      · subst hi0; simp [Addr.add]
      · simp [Addr.add, hi0]

/-
  Slices of bytes as texts, and cells of a call's own row written. No Go text in sight.
-/
/-- a text's bytes as numbers -/
def LB (s : ByteArray) : List Int := s.data.toList.map fun c => (c.toNat : Int)
/-- numbers that are bytes -/
def bytesL (xs : List Int) : Prop := ∀ x ∈ xs, 0 ≤ x ∧ x < 256
theorem LB_len (s : ByteArray) : (LB s).length = s.size := by simp [LB]
theorem LB_bytes (s : ByteArray) : bytesL (LB s) := by
  intro x hx
  simp only [LB, List.mem_map] at hx
  obtain ⟨c, _, rfl⟩ := hx
  have := c.toNat_lt
  omega
theorem LB_nums (xs : List Int) (h : bytesL xs) : LB (strOfNums xs) = xs := by
  simp only [LB, strOfNums_data, List.map_map]
  conv => rhs; rw [← List.map_id xs]
  apply List.map_congr_left
  intro x hx
  have := h x hx
  simp only [Function.comp, id]
  rw [UInt8.toNat_ofNat']
  omega
theorem nums_LB (s : ByteArray) : strOfNums (LB s) = s := by
  cases s with
  | mk d =>
    simp only [strOfNums, LB, List.map_map]
    congr 1
    rw [show ((fun n : Int => UInt8.ofNat n.toNat) ∘ fun c : UInt8 => (c.toNat : Int)) = id by funext c; simp]
    simp
theorem nums_eq (xs ys : List Int) (hx : bytesL xs) (hy : bytesL ys) : (strOfNums xs = strOfNums ys) = (xs = ys) := by
  apply propext
  constructor
  · intro h
    rw [← LB_nums xs hx, ← LB_nums ys hy, h]
  · intro h
    rw [h]
/-- '==' of two texts, as the walk leaves it -/
theorem str_beq (A B : ByteArray) : (A.toList == B.toList) = decide (A = B) := by
  rw [Bool.eq_iff_iff]
  simp only [beq_iff_eq, decide_eq_true_eq, ByteArray.toList_eq]
  constructor
  · intro h
    cases A; cases B
    congr 1
    exact Array.ext' h
  · intro h; rw [h]
theorem strCells_LB (s : ByteArray) : Lib.strCells s = (LB s).map (Value.int .u8) := by simp [Lib.strCells, LB]

/-- a slice of bytes turned into a text -/
theorem rd_str {P : Program} {w : World} {v : Value} {xs : List Int} (h : Rd .u8 w v xs) {src dst e : TypeId} (hs : P.underlying src = some (.slice e)) (he : P.underlying e = some (.int .u8)) (hd : P.underlying dst = some .string) :
    (convert src dst v).run P w = .ok (.string (strOfNums xs)) w := by
  rcases h with ⟨ao, cap, rfl, hn, rfl⟩ | ⟨b, off, cap, rfl, h0, hc1, hc2, hc⟩
  · cases ao with
    | none => rw [run_convert_bytes_nil w src e hs he 0 cap dst hd]; rfl
    | some a =>
      rw [run_convert_bytes_string w src dst e _ 0 cap hs he hd, run_bytesToString w a 0 cap [] (by simp [loadCells, loadCellsFrom])]
      rfl
  · exact run_convert_bytes_arg w src e hs he b off xs.length cap xs rfl hc dst hd

/-- a cell of the call's own row: its address, and what is there once it is written -/
theorem own_set {P : Program} {k : IntKind} {w : World} {base : Nat} {e : TypeId} {v : Value} {ys : List Int} (h : w.ownsRow base e 1 v ys.length (ys.map (Value.int k))) {t : TypeId} (ht : P.underlying t = some (.slice (P.elem t))) (hs : ∀ w, (sizeOf (P.elem t)).run P w = .ok 1 w) (i : Int) (h0 : 0 ≤ i) (h1 : i < ys.length) :
    ∃ a : Addr, (∀ w', (Instr.indexAt t v (.int .i64 i)).run P w' = .ok (.pointer (some a)) w') ∧ w.cell? a = some (.int k (ys.getD i.toNat 0)) ∧ w.frozen? a = false ∧ base ≤ a.block ∧
      ∀ y, (w.setCell a (.int k y)).ownsRow base e 1 v (ys.set i.toNat y).length ((ys.set i.toNat y).map (Value.int k)) := by
  rcases h.2 with ⟨rfl, hz⟩ | ⟨g, cap, cur, rfl, hb, hg, hnc, hcm, hcs, htake⟩
  · omega
  · refine ⟨⟨g, i.toNat, none⟩, fun w' => ?_, ?_, h.frozenAt i.toNat, hb, fun y => ?_⟩
    · rw [run_indexAt_slice (h := ht), if_pos ⟨h0, h1⟩, hs]
      simp only [Result.andThen, Nat.mul_one]
      congr 3
      unfold Addr.add
      split
      · rename_i hz; rw [hz]
      · simp
    · rw [h.cellAt i.toNat (by omega), List.getElem?_map, List.getElem?_eq_getElem (by omega)]
      simp [List.getD_eq_getElem?_getD, List.getElem?_eq_getElem (show i.toNat < ys.length by omega)]
    · have := (h.stored i.toNat (.int k y)).1
      rw [List.length_set, List.map_set]
      exact this
/-- append of a text onto a row of the call's own -/
theorem wpList_append_rds {P : Program} {w : World} {ops : Array Oper} {rest : List Oper} {o : Oper} {a : Act} {Q : Exit → Act → World → Prop} (hgd : o.guard = none) (s x : Operand) (t u : TypeId)
    (ho : o.op = .call { callee := .builtin .append, args := #[s, x], argTypes := #[t, u] })
    (base : Nat) (e : TypeId) (i : TypeInfo) (ht : P.underlying t = some (.slice e)) (hu : P.underlying u = some .string) (hi : P.info? e = some i) (hz : i.zero = some (.int .u8 0)) (hsize : i.size = 1) (hby : i.bytes = 1)
    (v : Value) (ys : List Int) (hs : a.eval s = v) (hown : w.ownsRow base e 1 v ys.length (ys.map (Value.int .u8)))
    (S : ByteArray) (hx : a.eval x = .string S) (h63 : ys.length + S.size ≤ maxLen) (hbytes : ys.length + S.size ≤ 140737488355328) (hbase : base ≤ w.heap.size)
    (h : ∀ v' w', w'.ownsRow base e 1 v' (ys ++ LB S).length ((ys ++ LB S).map (Value.int .u8)) → w.grownBy w' v.ownBlock → wpList P ops Q rest (a.put o.dst v') w') : wpList P ops Q (o :: rest) a w := by
  obtain ⟨v', w', hr, ho2, hg, _⟩ := Lib.run_append_own_string w base t u o.type e i ht hu hi hz hsize hby v ys.length _ hown S h63 hbytes hbase
  refine wpList_plain hgd fun _ hK => ?_
  unfold Oper.wp
  simp [execOp, ho, resolve, invoke, builtin, hs, hx, hr, Result.andThen]
  refine hK _ _ (h v' w' ?_ hg)
  rw [strCells_LB] at ho2
  simpa [LB_len] using ho2

/-
  A memory of bytes, as plain functions of lists. No Go text in sight.
-/
/-- a stretch lies in a memory of L bytes -/
def inF (L a n : Int) : Bool := decide (a ≤ L ∧ n ≤ L - a)
/-- what is wrong with a number's address and size -/
def wrongF (L a s : Int) : Int := if ¬ (s = 1 ∨ s = 2 ∨ s = 4) then 1 else if ¬ a % s = 0 then 8 else if inF L a s = false then 9 else 0
/-- bytes as a number, the highest first; a number as bytes -/
def beV (l : List Int) : Int := l.foldl (fun v b => v * 256 + b) 0
def beB : Nat → Int → List Int
  | 0, _ => []
  | n + 1, v => beB n (v / 256) ++ [v % 256]
def fetF (m : List Int) (a s : Int) : Int × Int := if wrongF m.length a s = 0 then (beV ((m.drop a.toNat).take s.toNat), 0) else (0, wrongF m.length a s)
def stoF (m : List Int) (a s v : Int) : List Int × Int := if wrongF m.length a s = 0 then (m.take a.toNat ++ beB s.toNat v ++ m.drop (a.toNat + s.toNat), 0) else ([], wrongF m.length a s)
def texF (m : List Int) (a n : Int) : List Int × Int := if inF m.length a n = true then ((m.drop a.toNat).take n.toNat, 0) else ([], 9)
def putF (m : List Int) (a : Int) (s : List Int) : List Int × Int := if inF m.length a s.length = true then (m.take a.toNat ++ s ++ m.drop (a.toNat + s.length), 0) else ([], 9)
def movF (m : List Int) (f t n : Int) : List Int × Int := if inF m.length f n = true ∧ inF m.length t n = true then putF m t ((m.drop f.toNat).take n.toNat) else ([], 9)
def filF (m : List Int) (a n v : Int) : List Int × Int := if inF m.length a n = true then (m.take a.toNat ++ List.replicate n.toNat (v % 256) ++ m.drop (a.toNat + n.toNat), 0) else ([], 9)
def cmpL : List Int → List Int → Int
  | x :: xs, y :: ys => if y < x then 1 else if x < y then 4294967295 else cmpL xs ys
  | _, _ => 0
def cmpF (m : List Int) (a b n : Int) : Int × Int := if inF m.length a n = true ∧ inF m.length b n = true then (cmpL ((m.drop a.toNat).take n.toNat) ((m.drop b.toNat).take n.toNat), 0) else (0, 9)
def allAt (L : Int) : Int := (L + 3) / 4 * 4
def allF (m : List Int) (n : Int) : List Int × Int × Int :=
  if (4096 : Int) < m.length then ([], 0, 10) else if 4096 - allAt m.length < n then ([], 0, 10) else (m ++ List.replicate (allAt m.length + n - m.length).toNat 0, allAt m.length, 0)

theorem wrong_ok {L a s : Int} (h : wrongF L a s = 0) : (s = 1 ∨ s = 2 ∨ s = 4) ∧ a % s = 0 ∧ a ≤ L ∧ s ≤ L - a := by
  unfold wrongF at h
  by_cases h1 : s = 1 ∨ s = 2 ∨ s = 4
  · rw [if_neg (fun h => h h1)] at h
    by_cases h2 : a % s = 0
    · rw [if_neg (fun h => h h2)] at h
      by_cases h3 : inF L a s = false
      · rw [if_pos h3] at h; omega
      · simp [inF] at h3
        exact ⟨h1, h2, h3.1, h3.2⟩
    · rw [if_pos h2] at h; omega
  · rw [if_pos h1] at h; omega
theorem bytes_take {xs : List Int} (h : bytesL xs) (n : Nat) : bytesL (xs.take n) := fun x hx => h x (List.mem_of_mem_take hx)
theorem bytes_drop {xs : List Int} (h : bytesL xs) (n : Nat) : bytesL (xs.drop n) := fun x hx => h x (List.mem_of_mem_drop hx)
theorem bytes_app {xs ys : List Int} (h : bytesL xs) (g : bytesL ys) : bytesL (xs ++ ys) := fun x hx => (List.mem_append.1 hx).elim (h x) (g x)
theorem beB_len : ∀ (n : Nat) (v : Int), (beB n v).length = n
  | 0, _ => rfl
  | n + 1, v => by simp [beB, beB_len n]
theorem beB_bytes : ∀ (n : Nat) (v : Int), bytesL (beB n v)
  | 0, _ => fun x hx => by simp [beB] at hx
  | n + 1, v => by
    intro x hx
    simp only [beB, List.mem_append, List.mem_singleton] at hx
    rcases hx with hx | rfl
    · exact beB_bytes n _ x hx
    · omega
theorem beV_snoc (l : List Int) (b : Int) : beV (l ++ [b]) = beV l * 256 + b := by simp [beV]
/-- there and back -/
theorem beV_beB : ∀ (n : Nat) (v : Int), beV (beB n v) = v % 256 ^ n
  | 0, v => by simp [beB, beV]
  | n + 1, v => by
    rw [beB, beV_snoc, beV_beB n]
    have e : (256 : Int) ^ (n + 1) = 256 * 256 ^ n := by rw [Int.pow_succ, Int.mul_comm]
    rw [e]
    have hk : (0 : Int) < 256 ^ n := Int.pow_pos (by omega)
    obtain ⟨k, hk2⟩ : ∃ k, (256 : Int) ^ n = k := ⟨_, rfl⟩
    rw [hk2] at hk ⊢
    have h1 := Int.emod_add_mul_ediv (v / 256) k
    have h2 := Int.emod_nonneg (v / 256) (show k ≠ 0 by omega)
    have h3 := Int.emod_lt_of_pos (v / 256) hk
    have hv : v = (v / 256 % k * 256 + v % 256) + 256 * k * (v / 256 / k) := by
      rw [Int.mul_assoc]
      omega
    have h4 : 0 ≤ v % 256 ∧ v % 256 < 256 := by omega
    obtain ⟨u, hu⟩ : ∃ u, v / 256 % k = u := ⟨_, rfl⟩
    obtain ⟨t, ht⟩ : ∃ t, v / 256 / k = t := ⟨_, rfl⟩
    obtain ⟨r, hr⟩ : ∃ r, v % 256 = r := ⟨_, rfl⟩
    rw [hu, ht, hr] at hv
    rw [hu] at h2 h3 ⊢
    rw [hr] at h4 ⊢
    rw [hv, Int.add_mul_emod_self_left, Int.emod_eq_of_lt (by omega) (by omega)]
theorem sto_bytes {m : List Int} (h : bytesL m) (a s v : Int) : bytesL (stoF m a s v).1 := by
  unfold stoF
  split
  · exact bytes_app (bytes_app (bytes_take h _) (beB_bytes _ _)) (bytes_drop h _)
  · intro x hx; simp at hx
theorem tex_bytes {m : List Int} (h : bytesL m) (a n : Int) : bytesL (texF m a n).1 := by
  unfold texF
  split
  · exact bytes_take (bytes_drop h _) _
  · intro x hx; simp at hx
theorem put_bytes {m s : List Int} (h : bytesL m) (g : bytesL s) (a : Int) : bytesL (putF m a s).1 := by
  unfold putF
  split
  · exact bytes_app (bytes_app (bytes_take h _) g) (bytes_drop h _)
  · intro x hx; simp at hx
theorem mov_bytes {m : List Int} (h : bytesL m) (f t n : Int) : bytesL (movF m f t n).1 := by
  unfold movF
  split
  · exact put_bytes h (bytes_take (bytes_drop h _) _) _
  · intro x hx; simp at hx
theorem fil_bytes {m : List Int} (h : bytesL m) (a n v : Int) : bytesL (filF m a n v).1 := by
  unfold filF
  split
  · refine bytes_app (bytes_app (bytes_take h _) ?_) (bytes_drop h _)
    intro x hx
    rw [List.mem_replicate] at hx
    omega
  · intro x hx; simp at hx
theorem all_bytes {m : List Int} (h : bytesL m) (n : Int) : bytesL (allF m n).1 := by
  unfold allF
  split
  · intro x hx; simp at hx
  · split
    · intro x hx; simp at hx
    · refine bytes_app h ?_
      intro x hx
      rw [List.mem_replicate] at hx
      omega

/-
  A disk of sectors as plain functions of lists: read, written, planned, got, put. No Go text in sight.
-/
def dkB (d : List Int) : Bool := decide (d.length % 512 = 0) && decide (d.length ≤ 32768)
def dkI (L a n : Int) : Bool := decide (0 ≤ a ∧ a ≤ L ∧ 0 ≤ n ∧ n ≤ L - a)
def dkN (d : List Int) (n : Int) : Bool := decide (0 ≤ n ∧ n < (d.length : Int) / 512)
def dkRd (d : List Int) (n : Int) : List Int × Int := if dkB d then if dkN d n then ((d.drop (512 * n).toNat).take 512, 0) else ([], 23) else ([], 1)
def dkWr (d : List Int) (n : Int) (b : List Int) : List Int × Int :=
  if dkB d && decide (b.length = 512) then if dkN d n then (d.take (512 * n).toNat ++ b ++ d.drop (512 * n + 512).toNat, 0) else ([], 23) else ([], 1)
/-- what is done to one sector -/
def dkK (a n k : Int) : List (Bool × Int) :=
  if min (a + n) (512 * k + 512) ≤ max a (512 * k) then [] else (if min (a + n) (512 * k + 512) - max a (512 * k) < 512 then [(false, k)] else []) ++ [(true, k)]
def dkL (a n : Int) : Nat → List (Bool × Int)
  | 0 => []
  | k + 1 => dkL a n k ++ dkK a n k
def dkP (a n : Int) : List (Bool × Int) × Int := if a < 0 ∨ n < 0 ∨ 32768 < a ∨ 32768 - a < n then ([], 1) else (dkL a n 64, 0)
def dkGt (d : List Int) (a n : Int) : List Int × Int := if dkB d then if dkI d.length a n then ((d.drop a.toNat).take n.toNat, 0) else ([], 23) else ([], 1)
def dkPt (d : List Int) (a : Int) (b : List Int) : List Int × Int := if dkB d then if dkI d.length a b.length then (d.take a.toNat ++ b ++ d.drop (a.toNat + b.length), 0) else ([], 23) else ([], 1)

theorem dkRd_bytes {d : List Int} (h : bytesL d) (n : Int) : bytesL (dkRd d n).1 := by
  unfold dkRd
  split
  · split
    · exact bytes_take (bytes_drop h _) _
    · intro x hx; simp at hx
  · intro x hx; simp at hx
theorem dkWr_bytes {d b : List Int} (h : bytesL d) (hb : bytesL b) (n : Int) : bytesL (dkWr d n b).1 := by
  unfold dkWr
  split
  · split
    · exact bytes_app (bytes_app (bytes_take h _) hb) (bytes_drop h _)
    · intro x hx; simp at hx
  · intro x hx; simp at hx
theorem dkGt_bytes {d : List Int} (h : bytesL d) (a n : Int) : bytesL (dkGt d a n).1 := by
  unfold dkGt
  split
  · split
    · exact bytes_take (bytes_drop h _) _
    · intro x hx; simp at hx
  · intro x hx; simp at hx
theorem dkPt_bytes {d b : List Int} (h : bytesL d) (hb : bytesL b) (a : Int) : bytesL (dkPt d a b).1 := by
  unfold dkPt
  split
  · split
    · exact bytes_app (bytes_app (bytes_take h _) hb) (bytes_drop h _)
    · intro x hx; simp at hx
  · intro x hx; simp at hx
theorem dk_len {d : List Int} (h : dkB d = true) : d.length % 512 = 0 ∧ d.length ≤ 32768 := by
  unfold dkB at h
  simpa using h
theorem getD_appD (a b : List Int) (i : Nat) : (a ++ b).getD i 0 = if i < a.length then a.getD i 0 else b.getD (i - a.length) 0 := by
  rw [List.getD_eq_getElem?_getD, List.getElem?_append]
  split
  · rw [← List.getD_eq_getElem?_getD]
  · rw [← List.getD_eq_getElem?_getD]
theorem getD_takeD (a : List Int) (n i : Nat) : (a.take n).getD i 0 = if i < n then a.getD i 0 else 0 := by
  rw [List.getD_eq_getElem?_getD, List.getElem?_take]
  split
  · rw [← List.getD_eq_getElem?_getD]
  · rfl
theorem getD_dropD (a : List Int) (n i : Nat) : (a.drop n).getD i 0 = a.getD (n + i) 0 := by
  rw [List.getD_eq_getElem?_getD, List.getElem?_drop, ← List.getD_eq_getElem?_getD]
theorem getD_setD (l : List Int) (p i : Nat) (v : Int) (h : i < l.length) : (l.set p v).getD i 0 = if p = i then v else l.getD i 0 := by
  rw [List.getD_eq_getElem?_getD, List.getElem?_set]
  split
  · rw [if_pos (by omega)]; rfl
  · rw [← List.getD_eq_getElem?_getD]
theorem ext_getDD {a b : List Int} (hl : a.length = b.length) (h : ∀ i < a.length, a.getD i 0 = b.getD i 0) : a = b := by
  apply List.ext_getElem hl
  intro i h1 h2
  have := h i h1
  rw [List.getD_eq_getElem?_getD, List.getD_eq_getElem?_getD, List.getElem?_eq_getElem h1, List.getElem?_eq_getElem h2] at this
  exact this
/-- a stretch put into a list, cell by cell -/
theorem put_at (d b : List Int) (a i : Nat) (h : a + b.length ≤ d.length) : (d.take a ++ b ++ d.drop (a + b.length)).getD i 0 = if a ≤ i ∧ i < a + b.length then b.getD (i - a) 0 else d.getD i 0 := by
  have hta : (d.take a).length = a := by rw [List.length_take]; omega
  rw [getD_appD, getD_appD, List.length_append, hta, getD_takeD, getD_dropD]
  by_cases h1 : i < a
  · rw [if_pos (by omega), if_pos h1, if_pos h1, if_neg (by omega)]
  · by_cases h2 : i < a + b.length
    · rw [if_pos h2, if_neg h1, if_pos ⟨by omega, h2⟩]
    · rw [if_neg h2, if_neg (by omega), show a + b.length + (i - (a + b.length)) = i by omega]
/-- the disk in which the bytes ahead of the sector k have been put -/
def ovl (d : List Int) (a : Nat) (b : List Int) (k : Nat) : List Int := (List.range d.length).map fun i => if a ≤ i ∧ i < a + b.length ∧ i < 512 * k then b.getD (i - a) 0 else d.getD i 0
theorem ovl_len (d : List Int) (a : Nat) (b : List Int) (k : Nat) : (ovl d a b k).length = d.length := by simp [ovl]
theorem ovl_at (d : List Int) (a : Nat) (b : List Int) (k i : Nat) (hi : i < d.length) : (ovl d a b k).getD i 0 = if a ≤ i ∧ i < a + b.length ∧ i < 512 * k then b.getD (i - a) 0 else d.getD i 0 := by
  unfold ovl
  rw [List.getD_eq_getElem?_getD, List.getElem?_map, List.getElem?_range hi]
  rfl
theorem ovl_0 (d : List Int) (a : Nat) (b : List Int) : ovl d a b 0 = d := by
  apply ext_getDD (ovl_len _ _ _ _)
  intro i hi
  rw [ovl_len] at hi
  rw [ovl_at _ _ _ _ _ hi, if_neg (by omega)]
theorem ovl_all (d : List Int) (a : Nat) (b : List Int) (k : Nat) (h : a + b.length ≤ d.length) (hk : d.length ≤ 512 * k) : ovl d a b k = d.take a ++ b ++ d.drop (a + b.length) := by
  apply ext_getDD
  · rw [ovl_len]; simp only [List.length_append, List.length_take, List.length_drop]; omega
  · intro i hi
    rw [ovl_len] at hi
    rw [ovl_at _ _ _ _ _ hi, put_at _ _ _ _ h]
    by_cases h1 : a ≤ i ∧ i < a + b.length
    · rw [if_pos h1, if_pos ⟨h1.1, h1.2, by omega⟩]
    · rw [if_neg h1, if_neg (fun z => h1 ⟨z.1, z.2.1⟩)]
/-- a sector of which nothing is put stays -/
theorem ovl_none (d : List Int) (a : Nat) (b : List Int) (k : Nat) (h : a + b.length ≤ 512 * k ∨ 512 * k + 512 ≤ a ∨ b.length = 0) : ovl d a b (k + 1) = ovl d a b k := by
  apply ext_getDD
  · rw [ovl_len, ovl_len]
  · intro i hi
    rw [ovl_len] at hi
    rw [ovl_at _ _ _ _ _ hi, ovl_at _ _ _ _ _ hi]
    by_cases h1 : a ≤ i ∧ i < a + b.length ∧ i < 512 * k
    · rw [if_pos h1, if_pos ⟨h1.1, h1.2.1, by omega⟩]
    · rw [if_neg h1, if_neg (by omega)]
/-- one sector's bytes, into which what is put there has been put -/
def ovs (h : List Int) (a : Nat) (b : List Int) (k : Nat) (p : Nat) : List Int := (List.range 512).map fun i => if i < p ∧ a ≤ 512 * k + i ∧ 512 * k + i < a + b.length then b.getD (512 * k + i - a) 0 else h.getD i 0
theorem ovs_len (h : List Int) (a : Nat) (b : List Int) (k p : Nat) : (ovs h a b k p).length = 512 := by simp [ovs]
theorem ovs_at (h : List Int) (a : Nat) (b : List Int) (k p i : Nat) (hi : i < 512) : (ovs h a b k p).getD i 0 = if i < p ∧ a ≤ 512 * k + i ∧ 512 * k + i < a + b.length then b.getD (512 * k + i - a) 0 else h.getD i 0 := by
  unfold ovs
  rw [List.getD_eq_getElem?_getD, List.getElem?_map, List.getElem?_range hi]
  rfl
theorem ovs_0 (h : List Int) (a : Nat) (b : List Int) (k : Nat) (hl : h.length = 512) : ovs h a b k 0 = h := by
  apply ext_getDD (by rw [ovs_len, hl])
  intro i hi
  rw [ovs_len] at hi
  rw [ovs_at _ _ _ _ _ _ hi, if_neg (by omega)]
theorem ovs_step (h : List Int) (a : Nat) (b : List Int) (k p : Nat) (hp : p < 512) : ovs h a b k (p + 1) = if a ≤ 512 * k + p ∧ 512 * k + p < a + b.length then (ovs h a b k p).set p (b.getD (512 * k + p - a) 0) else ovs h a b k p := by
  apply ext_getDD
  · split
    · rw [List.length_set, ovs_len, ovs_len]
    · rw [ovs_len, ovs_len]
  · intro i hi
    rw [ovs_len] at hi
    rw [ovs_at _ _ _ _ _ _ hi]
    split
    · rename_i hin
      split
      · rename_i hc
        rw [getD_setD _ _ _ _ (by rw [ovs_len]; exact hi)]
        by_cases e : p = i
        · subst e
          rw [if_pos rfl]
        · rw [if_neg e, ovs_at _ _ _ _ _ _ hi, if_pos ⟨by omega, hin.2⟩]
      · rename_i hc
        have e : ¬ p = i := fun e => hc (by subst e; exact hin.2)
        rw [ovs_at _ _ _ _ _ _ hi, if_pos ⟨by omega, hin.2⟩]
    · rename_i hin
      split
      · rename_i hc
        have e : ¬ p = i := fun e => hin ⟨by omega, by subst e; exact hc⟩
        rw [getD_setD _ _ _ _ (by rw [ovs_len]; exact hi), if_neg e, ovs_at _ _ _ _ _ _ hi, if_neg (fun z => hin ⟨by omega, z.2⟩)]
      · rw [ovs_at _ _ _ _ _ _ hi, if_neg (fun z => hin ⟨by omega, z.2⟩)]
/-- the sector written -/
theorem ovl_step (d : List Int) (a : Nat) (b : List Int) (k : Nat) (h : List Int) (hk : 512 * k + 512 ≤ d.length) (hh : (∀ i < 512, h.getD i 0 = (ovl d a b k).getD (512 * k + i) 0) ∨ (a ≤ 512 * k ∧ 512 * k + 512 ≤ a + b.length)) :
    (ovl d a b k).take (512 * k) ++ ovs h a b k 512 ++ (ovl d a b k).drop (512 * k + 512) = ovl d a b (k + 1) := by
  have hl := ovs_len h a b k 512
  have hp := fun i => put_at (ovl d a b k) (ovs h a b k 512) (512 * k) i (by rw [ovl_len, hl]; exact hk)
  rw [hl] at hp
  apply ext_getDD
  · simp only [List.length_append, List.length_take, List.length_drop, hl, ovl_len]; omega
  · intro i hi
    have hi2 : i < d.length := by simp only [List.length_append, List.length_take, List.length_drop, hl, ovl_len] at hi; omega
    rw [hp, ovl_at d a b (k + 1) i hi2]
    by_cases hs : 512 * k ≤ i ∧ i < 512 * k + 512
    · rw [if_pos hs, ovs_at _ _ _ _ _ _ (by omega), show 512 * k + (i - 512 * k) = i by omega]
      by_cases hb : a ≤ i ∧ i < a + b.length
      · rw [if_pos ⟨by omega, hb⟩, if_pos ⟨hb.1, hb.2, by omega⟩]
      · rw [if_neg (fun z => hb z.2), if_neg (fun z => hb ⟨z.1, z.2.1⟩)]
        rcases hh with hh | hh
        · rw [hh _ (by omega), show 512 * k + (i - 512 * k) = i by omega, ovl_at _ _ _ _ _ hi2, if_neg (fun z => hb ⟨z.1, z.2.1⟩)]
        · exact absurd ⟨by omega, by omega⟩ hb
    · rw [if_neg hs, ovl_at _ _ _ _ _ hi2]
      by_cases hb : a ≤ i ∧ i < a + b.length ∧ i < 512 * k
      · rw [if_pos hb, if_pos ⟨hb.1, hb.2.1, by omega⟩]
      · rw [if_neg hb, if_neg (by omega)]

/-
  Digits as plain functions of whole numbers: the value of a byte as a digit, and facts on them. No Go text in sight.
-/
theorem ret_i {k : IntKind} {a b : Int} (h : a = b) : Ending.returned (.int k a) = .returned (.int k b) := by rw [h]
theorem ret_ii {k l : IntKind} {a b c d : Int} (h : a = b) (g : c = d) : Ending.returned (.tuple #[.int k a, .int l c]) = .returned (.tuple #[.int k b, .int l d]) := by rw [h, g]
theorem ret_ib {k : IntKind} {a b : Int} {c d : Bool} (h : a = b) (g : c = d) : Ending.returned (.tuple #[.int k a, .bool c]) = .returned (.tuple #[.int k b, .bool d]) := by rw [h, g]
theorem ret_si {l : IntKind} {s t : ByteArray} {c d : Int} (h : s = t) (g : c = d) : Ending.returned (.tuple #[.string s, .int l c]) = .returned (.tuple #[.string t, .int l d]) := by rw [h, g]
/-- all that was there is as it was -/
abbrev Gr (w w' : World) : Prop := Below w.heap.size w w'
theorem Gr.refl (w : World) : Gr w w := Below.refl _ _
theorem Gr.alloc {w w' : World} (h : Gr w w') (c : Array Value) (t : TypeId) : Gr w (w'.alloc (.cells c t)) := Below.alloc h h.size _
theorem grown_trans {a b c : World} (h : Gr a b) (g : Gr b c) : Gr a c := below_trans h g
theorem grown_drewN {W w' : World} (h : Gr W w') (n : Nat) : Gr W (w'.drewN n) := below_drewN h n
theorem u32_bounds {n : Int} (h : (Lit.int .u32 n).wf = true) : 0 ≤ n ∧ n < 4294967296 := by
  simp [Lit.wf, IntKind.min, IntKind.max, IntKind.bits, IntKind.signed] at h
  omega
theorem u8_bounds {n : Int} (h : (Lit.int .u8 n).wf = true) : 0 ≤ n ∧ n < 256 := by
  simp [Lit.wf, IntKind.min, IntKind.max, IntKind.bits, IntKind.signed] at h
  omega

/-- a great letter made small -/
def sm (c : Int) : Int := if 65 ≤ c ∧ c ≤ 90 then c + 32 else c
/-- the value of a byte as a digit; 99 where it is none -/
def dv (c : Int) : Int := if 48 ≤ c ∧ c ≤ 57 then c - 48 else if 97 ≤ c ∧ c ≤ 122 then c - 87 else if 65 ≤ c ∧ c ≤ 90 then c - 55 else 99
/-- the byte of a digit's value -/
def dg (k : Int) : Int := if k < 10 then 48 + k else 87 + k
/-- is it a digit of the base -/
def isD (c b : Int) : Bool := decide (2 ≤ b ∧ b ≤ 36 ∧ dv c < b)
def vl (c b : Int) : Int := if isD c b = true then dv c else 0
theorem sm_bd (c : Int) (h0 : 0 ≤ c) (h1 : c < 256) : 0 ≤ sm c ∧ sm c < 256 := by unfold sm; omega
theorem dv_bd (c : Int) (h0 : 0 ≤ c) (h1 : c < 256) : 0 ≤ dv c ∧ dv c ≤ 99 := by unfold dv; omega
theorem dg_hit (c k : Int) (h0 : 0 ≤ c) (h1 : c < 256) (k0 : 0 ≤ k) (k1 : k < 36) (h : dg k = sm c) : dv c = k := by
  unfold dg sm at h; unfold dv; omega
theorem dg_of (c : Int) (h0 : 0 ≤ c) (h1 : c < 256) (h : dv c < 36) : dg (dv c) = sm c := by
  unfold dv at h ⊢; unfold dg sm; omega
theorem isD_hit (c b k : Int) (h0 : 0 ≤ c) (h1 : c < 256) (b0 : 2 ≤ b) (b1 : b ≤ 36) (k0 : 0 ≤ k) (k1 : k < b) (h : dg k = sm c) : isD c b = true ∧ vl c b = k := by
  have e := dg_hit c k h0 h1 k0 (by omega) h
  have d : isD c b = true := by unfold isD; simp; omega
  exact ⟨d, by unfold vl; rw [if_pos d, e]⟩
theorem isD_miss (c b : Int) (h0 : 0 ≤ c) (h1 : c < 256) (h : ∀ j : Nat, (j : Int) < b → ¬ dg j = sm c) : isD c b = false ∧ vl c b = 0 := by
  have d : isD c b = false := by
    unfold isD
    simp
    intro b0 b1
    have hd := dv_bd c h0 h1
    by_cases hc : dv c < b
    · exfalso
      obtain ⟨n, hn⟩ := Int.eq_ofNat_of_zero_le hd.1
      exact h n (by omega) (by rw [← hn]; exact dg_of c h0 h1 (by omega))
    · omega
  exact ⟨d, by unfold vl; rw [if_neg (by rw [d]; decide)]⟩
theorem isD_unfit (c b : Int) (h : b < 2 ∨ 36 < b) : isD c b = false ∧ vl c b = 0 := by
  have d : isD c b = false := by unfold isD; simp; omega
  exact ⟨d, by unfold vl; rw [if_neg (by rw [d]; decide)]⟩
theorem vl_bd (c b : Int) (h0 : 0 ≤ c) (h1 : c < 256) : 0 ≤ vl c b ∧ vl c b ≤ 35 := by
  unfold vl isD
  have := dv_bd c h0 h1
  split
  · simp at *; omega
  · omega

/-- a text's bytes as numbers -/
def L (s : ByteArray) : List Int := s.data.toList.map fun c => (c.toNat : Int)
theorem L_len (s : ByteArray) : (L s).length = s.size := by simp [L]
theorem L_get (s : ByteArray) (k : Nat) (h : k < s.size) : (L s)[k]'(by rw [L_len]; exact h) = (s[k].toNat : Int) := by
  simp [L]; rfl
theorem L_take (s : ByteArray) (k : Nat) (h : k < s.size) : (L s).take (k + 1) = (L s).take k ++ [(s[k].toNat : Int)] := by
  rw [List.take_succ_eq_append_getElem (by rw [L_len]; exact h), L_get s k h]
theorem L_drop (s : ByteArray) (k : Nat) (h : k < s.size) : (L s).drop k = (s[k].toNat : Int) :: (L s).drop (k + 1) := by
  rw [List.drop_eq_getElem_cons (by rw [L_len]; exact h), L_get s k h]
theorem L_bd (s : ByteArray) (k : Nat) (h : k < s.size) : 0 ≤ (s[k].toNat : Int) ∧ (s[k].toNat : Int) < 256 := by
  have := s[k].toNat_lt; omega

theorem L_extract (s : ByteArray) (a b : Nat) (h : b ≤ s.size) : L (s.extract a b) = ((L s).drop a).take (b - a) := by
  unfold L
  rw [Lib.extract_data]
  rw [← List.map_drop, ← List.map_take]
theorem L_from (s : ByteArray) (a : Nat) : L (s.extract a s.size) = (L s).drop a := by
  rw [L_extract s a s.size (Nat.le_refl _)]
  exact List.take_of_length_le (by rw [List.length_drop, L_len]; exact Nat.le_refl _)
theorem L_tail (s : ByteArray) : L (s.extract 1 s.size) = (L s).tail := by
  rw [L_from]; simp

/-- the number of digits, as long as it may be -/
def num (b : Int) (l : List Int) : Int := l.foldl (fun a c => a * b + vl c b) 0
def allD (b : Int) (l : List Int) : Bool := l.all fun c => isD c b
theorem num_snoc (b : Int) (l : List Int) (c : Int) : num b (l ++ [c]) = num b l * b + vl c b := by simp [num]
theorem allD_snoc (b : Int) (l : List Int) (c : Int) : allD b (l ++ [c]) = (allD b l && isD c b) := by simp [allD]
theorem allD_mid (b : Int) (l m : List Int) (c : Int) (h : isD c b = false) : allD b (l ++ c :: m) = false := by simp [allD, h]
/-- a text of digits read, behind its sign -/
def prsT (neg : Bool) (l : List Int) (b : Int) : Int × Int :=
  if l = [] then (0, 15) else if allD b l = false then (0, 15) else if 4294967296 ≤ num b l then (0, 4) else
  (if neg = true then (4294967296 - num b l) % 4294967296 else num b l, 0)
/-- what Parse answers -/
def prs (l : List Int) (b : Int) : Int × Int :=
  if b < 2 ∨ 36 < b then (0, 1) else if l.head? = some 45 then prsT true l.tail b else prsT false l b
theorem mul_b (n b : Int) (h0 : 0 ≤ n) (h1 : n < 4294967296) (b0 : 2 ≤ b) (b1 : b ≤ 36) : n * 2 ≤ n * b ∧ n * b ≤ n * 36 :=
  ⟨Int.mul_le_mul_of_nonneg_left b0 h0, Int.mul_le_mul_of_nonneg_left b1 h0⟩
theorem mul_ge (m b : Int) (h0 : 4294967296 ≤ m) (b0 : 2 ≤ b) : 4294967296 ≤ m * b := by
  have : m * 2 ≤ m * b := Int.mul_le_mul_of_nonneg_left b0 (by omega)
  omega

/-
  Numbers shown in a base, as plain lists of bytes: the digits, that they are read back as the number, and that unlike numbers have unlike texts. No Go text in sight; bases from 2 to 36.
-/
/-- bytes of numbers -/
def toB (l : List Int) : ByteArray := ⟨(l.map fun x => UInt8.ofNat x.toNat).toArray⟩
theorem toB_L (t : ByteArray) : toB (L t) = t := by
  obtain ⟨⟨l⟩⟩ := t
  simp [toB, L, Function.comp_def]
theorem L_toB (l : List Int) (h : ∀ x ∈ l, 0 ≤ x ∧ x < 256) : L (toB l) = l := by
  simp only [L, toB, List.map_map]
  conv => rhs; rw [← List.map_id l]
  apply List.map_congr_left
  intro x hx
  have := h x hx
  simp [UInt8.toNat_ofNat']
  omega
theorem L_eq (t : ByteArray) (l : List Int) (h : L t = l) : t = toB l := by rw [← h, toB_L]
theorem L_app (s t : ByteArray) : L (s ++ t) = L s ++ L t := by simp [L]

/-- the digits of a number, the highest first -/
def shF (b : Int) : Nat → Int → List Int
  | 0, _ => []
  | f + 1, n => if n < b then [dg n] else shF b f (n / b) ++ [dg (n % b)]
def sh (b n : Int) : List Int := shF b 32 n
theorem shF_lo (b n : Int) (f : Nat) (h : n < b) : shF b (f + 1) n = [dg n] := by simp [shF, h]
theorem shF_hi (b n : Int) (f : Nat) (h : ¬ n < b) : shF b (f + 1) n = shF b f (n / b) ++ [dg (n % b)] := by simp [shF, h]
theorem div_half (n b : Int) (h0 : 0 ≤ n) (b0 : 2 ≤ b) : 0 ≤ n / b ∧ n / b * 2 ≤ n ∧ 0 ≤ n % b ∧ n % b < b := by
  have h1 : n / b * b ≤ n := Int.ediv_mul_le n (by omega)
  have h2 : 0 ≤ n / b := Int.ediv_nonneg h0 (by omega)
  have h3 : n / b * 2 ≤ n / b * b := Int.mul_le_mul_of_nonneg_left b0 h2
  exact ⟨h2, by omega, Int.emod_nonneg n (by omega), Int.emod_lt_of_pos n (by omega)⟩
theorem div_pos (n b : Int) (b0 : 2 ≤ b) (h : ¬ n < b) : 0 < n / b := by
  have : 1 ≤ n / b := Int.le_ediv_of_mul_le (by omega) (by omega)
  omega
theorem dg_isD (b k : Int) (b0 : 2 ≤ b) (b1 : b ≤ 36) (k0 : 0 ≤ k) (k1 : k < b) : isD (dg k) b = true ∧ vl (dg k) b = k ∧ 0 ≤ dg k ∧ dg k < 256 ∧ ¬ dg k = 45 := by
  have e : dv (dg k) = k := by unfold dg dv; omega
  have d : isD (dg k) b = true := by unfold isD; rw [e]; simp; omega
  refine ⟨d, by unfold vl; rw [if_pos d, e], ?_, ?_, ?_⟩ <;> (unfold dg; omega)

theorem shF_len (b : Int) (f : Nat) : ∀ n, (shF b f n).length ≤ f := by
  induction f with
  | zero => intro n; simp [shF]
  | succ f ih =>
    intro n
    have := ih (n / b)
    unfold shF
    split <;> simp <;> omega
theorem toB_size (l : List Int) : (toB l).size = l.length := by simp [toB, ByteArray.size]
theorem toB_cons (x : Int) (l : List Int) : toB [x] ++ toB l = toB (x :: l) := by
  simp [toB, ByteArray.ext_iff]

/-- what is shown: digits of the base, at least one, the first no sign, read back as the number -/
theorem shF_all (b : Int) (b0 : 2 ≤ b) (b1 : b ≤ 36) (f : Nat) : ∀ n : Int, 0 ≤ n → n < 2 ^ f → 0 < f →
    allD b (shF b f n) = true ∧ num b (shF b f n) = n ∧ (∀ x ∈ shF b f n, 0 ≤ x ∧ x < 256 ∧ ¬ x = 45) ∧ shF b f n ≠ [] := by
  induction f with
  | zero => intro n _ _ h; omega
  | succ f ih =>
    intro n h0 h1 _
    by_cases c : n < b
    · rw [shF_lo b n f c]
      obtain ⟨d1, d2, d3, d4, d5⟩ := dg_isD b n b0 b1 h0 c
      refine ⟨by simp [allD, d1], by simp [num, d2], ?_, by simp⟩
      intro x hx
      simp at hx
      subst hx
      exact ⟨d3, d4, d5⟩
    · obtain ⟨q0, q1, r0, r1⟩ := div_half n b h0 b0
      have qp := div_pos n b b0 c
      have hp : (2 : Int) ^ (f + 1) = 2 ^ f * 2 := Int.pow_succ 2 f
      have hf : 0 < f := by
        rcases Nat.eq_zero_or_pos f with h | h
        · subst h; simp at h1; omega
        · exact h
      obtain ⟨i1, i2, i3, i4⟩ := ih (n / b) q0 (by omega) hf
      obtain ⟨d1, d2, d3, d4, d5⟩ := dg_isD b (n % b) b0 b1 r0 r1
      rw [shF_hi b n f c]
      refine ⟨by rw [allD_snoc, i1, d1]; rfl, ?_, ?_, by simp⟩
      · rw [num_snoc, i2, d2]
        exact Int.ediv_mul_add_emod n b
      · intro x hx
        rw [List.mem_append] at hx
        rcases hx with hx | hx
        · exact i3 x hx
        · simp at hx
          subst hx
          exact ⟨d3, d4, d5⟩
theorem sh_all (b n : Int) (b0 : 2 ≤ b) (b1 : b ≤ 36) (h0 : 0 ≤ n) (h1 : n < 4294967296) :
    allD b (sh b n) = true ∧ num b (sh b n) = n ∧ (∀ x ∈ sh b n, 0 ≤ x ∧ x < 256 ∧ ¬ x = 45) ∧ sh b n ≠ [] :=
  shF_all b b0 b1 32 n h0 (by simpa using h1) (by decide)
theorem sh_L (b n : Int) (b0 : 2 ≤ b) (b1 : b ≤ 36) (h0 : 0 ≤ n) (h1 : n < 4294967296) : L (toB (sh b n)) = sh b n :=
  L_toB _ fun x hx => ⟨((sh_all b n b0 b1 h0 h1).2.2.1 x hx).1, ((sh_all b n b0 b1 h0 h1).2.2.1 x hx).2.1⟩
theorem sh_back (b n : Int) (b0 : 2 ≤ b) (b1 : b ≤ 36) (h0 : 0 ≤ n) (h1 : n < 4294967296) : prs (sh b n) b = (n, 0) := by
  obtain ⟨i1, i2, i3, i4⟩ := sh_all b n b0 b1 h0 h1
  have hh : ¬ (sh b n).head? = some 45 := by
    intro h
    have := List.mem_of_mem_head? h
    exact (i3 45 this).2.2 rfl
  unfold prs
  rw [if_neg (by omega), if_neg hh]
  unfold prsT
  rw [if_neg i4, if_neg (by rw [i1]; decide), if_neg (by rw [i2]; omega), i2]
  simp
/-- the sign ahead -/
def sg (b n : Int) : List Int := if n < 2147483648 then sh b n else 45 :: sh b (4294967296 - n)
theorem sg_back (b n : Int) (b0 : 2 ≤ b) (b1 : b ≤ 36) (h0 : 0 ≤ n) (h1 : n < 4294967296) : prs (sg b n) b = (n, 0) := by
  unfold sg
  by_cases c : n < 2147483648
  · rw [if_pos c]; exact sh_back b n b0 b1 h0 h1
  · rw [if_neg c]
    obtain ⟨i1, i2, i3, i4⟩ := sh_all b (4294967296 - n) b0 b1 (by omega) (by omega)
    unfold prs
    rw [if_neg (by omega), if_pos (by simp)]
    unfold prsT
    simp only [List.tail_cons]
    rw [if_neg i4, if_neg (by rw [i1]; decide), if_neg (by rw [i2]; omega), i2]
    simp
    omega
theorem sg_bytes (b n : Int) (b0 : 2 ≤ b) (b1 : b ≤ 36) (h0 : 0 ≤ n) (h1 : n < 4294967296) : L (toB (sg b n)) = sg b n := by
  apply L_toB
  intro x hx
  unfold sg at hx
  by_cases c : n < 2147483648
  · rw [if_pos c] at hx
    have := (sh_all b n b0 b1 h0 h1).2.2.1 x hx
    exact ⟨this.1, this.2.1⟩
  · rw [if_neg c] at hx
    simp at hx
    rcases hx with rfl | hx
    · omega
    · have := (sh_all b (4294967296 - n) b0 b1 (by omega) (by omega)).2.2.1 x hx
      exact ⟨this.1, this.2.1⟩
theorem sh_inj (b n m : Int) (b0 : 2 ≤ b) (b1 : b ≤ 36) (h0 : 0 ≤ n) (h1 : n < 4294967296) (g0 : 0 ≤ m) (g1 : m < 4294967296) : sh b n = sh b m ↔ n = m := by
  constructor
  · intro h
    have e1 := (sh_all b n b0 b1 h0 h1).2.1
    have e2 := (sh_all b m b0 b1 g0 g1).2.1
    rw [h] at e1
    omega
  · intro h; rw [h]

end Go.Proofs.Ytnaoefjcfmdenab
