/-
  Texts of one proof, laid one behind the other: Sl Sb Dgs Dsh Pmm Ppr Ppa Pt1 Sg St Sd.
-/
import Derived.WalkKit
import Derived.ProofKit
import Derived.OpenShut
import Derived.WalkLawsBesides
import Derived.Handy
import Derived.Deep.Light
import Derived.Deep.QuietTactic
import Derived.BigQuiet
import Derived.Deep.RegionWith
import Derived.Below
import Derived.Laws.AppendOwnNone
import Derived.ChangeSlices
import Derived.SizedLaws
import Derived.Laws.BytesArg
import Derived.Laws.OwnMore
import Derived.Lib.AppendStr
import Derived.Lib.Strings
import Derived.ChangeArms
import Derived.Deep.RegionLaw
namespace Go.Proofs.YtkdaimagdmbnfabDoor
open Go.ChangeShapes Go.WideShapes Go.ChangeAt Go.RowKit
set_option linter.unusedVariables false
set_option linter.unusedSimpArgs false

/-
  Slices of integers that are read: what a slice value reads as in a world, and that it reads the same when only new blocks are laid. No Go text in sight.
-/
theorem hid {p : Prop} (h : p) : Hid p := h
theorem ret_b {a b : Bool} (h : a = b) : Ending.returned (.bool a) = .returned (.bool b) := by rw [h]
/-- what was there reads the same behind a call that leaves all below its first new block -/
theorem below_cell {w w' : World} (h : Below w.heap.size w w') {a : Addr} {v : Value} (hc : w.cell? a = some v) : w'.cell? a = some v :=
  (h.cell (p := a) (World.block_lt_of_cell? w a hc)).trans hc
theorem below_trans {a b c : World} (h : Below a.heap.size a b) (g : Below b.heap.size b c) : Below a.heap.size a c :=
  h.trans (g.mono h.size)
theorem below_drewN {a b : World} (h : Below a.heap.size a b) (n : Nat) : Below a.heap.size a (b.drewN n) := h.trans ⟨rfl, rfl, rfl, Nat.le_refl _, fun _ _ => rfl⟩
theorem below_grown {a b c : World} {row : Option Nat} (h : Below a.heap.size a b) (g : b.grownBy c row) (hr : ∀ k, row = some k → a.heap.size ≤ k) : Below a.heap.size a c :=
  h.grown g h.size hr

/-- the slice value v reads as the integers xs in the world w: an empty one, or one whose cells lie at a plain address -/
def Rd (k : IntKind) (w : World) (v : Value) (xs : List Int) : Prop :=
  (∃ ao cap, v = .slice ao 0 cap ∧ (ao = none → cap = 0) ∧ xs = []) ∨
  ∃ b off cap, v = .slice (some ⟨b, off, none⟩) xs.length cap ∧ 0 < xs.length ∧ xs.length ≤ cap ∧ cap ≤ maxLen ∧ ∀ i, i < xs.length → w.cell? ⟨b, off + i, none⟩ = some (.int k (xs.getD i 0))
theorem Rd.below {k : IntKind} {w w' : World} {v : Value} {xs : List Int} (h : Rd k w v xs) (g : Below w.heap.size w w') : Rd k w' v xs := by
  rcases h with h | ⟨b, off, cap, rfl, h0, h1, h2, hc⟩
  · exact Or.inl h
  · exact Or.inr ⟨b, off, cap, rfl, h0, h1, h2, fun i hi => below_cell g (hc i hi)⟩
theorem Rd_nil {k : IntKind} {w : World} : Rd k w (.slice none 0 0) [] := Or.inl ⟨none, 0, rfl, fun _ => rfl, rfl⟩
/-- what the call has built reads as what it was built of -/
theorem Rd_own {k : IntKind} {w : World} {base : Nat} {e : TypeId} {v : Value} {n : Nat} {xs : List Int} (h : w.ownsRow base e 1 v n (xs.map (Value.int k))) : Rd k w v xs ∧ n = xs.length := by
  obtain ⟨hl, h⟩ := h
  have hn : n = xs.length := by simp at hl; omega
  refine ⟨?_, hn⟩
  rcases h with ⟨rfl, h0⟩ | ⟨g, cap, cur, rfl, hb, hg, hc, hm, hs, ht⟩
  · have : xs = [] := List.eq_nil_of_length_eq_zero (by omega)
    subst this
    exact Rd_nil
  · rcases Nat.eq_zero_or_pos xs.length with h0 | h0
    · have : xs = [] := List.eq_nil_of_length_eq_zero h0
      subst this
      exact Or.inl ⟨_, _, by rw [hn]; rfl, (fun h => by cases h), rfl⟩
    · refine Or.inr ⟨g, 0, cap, by rw [hn], h0, by omega, hm, fun i hi => ?_⟩
      have e1 : cur[i]? = some (.int k (xs.getD i 0)) := by
        have e2 : (cur.toList.take (n * 1))[i]? = some (.int k (xs.getD i 0)) := by
          rw [ht, List.getElem?_map, List.getElem?_eq_getElem hi]
          simp [List.getD_eq_getElem?_getD, List.getElem?_eq_getElem hi]
        rw [List.getElem?_take] at e2
        split at e2
        · simpa using e2
        · cases e2
      simp [World.cell?, hg, e1]
/-- append of a slice that is read onto one of the call's own: one way on, whatever the source -/
theorem wp_append_rd {P : Program} {w : World} {k : IntKind} {o : Oper} {a : Act} {K : Act → World → Prop} {Q : Exit → Act → World → Prop} (s x : Operand) (t : TypeId)
    (ho : o.op = .call { callee := .builtin .append, args := #[s, x], argTypes := #[t, t] })
    (base : Nat) (e : TypeId) (i : TypeInfo) (bytes : Nat) (ht : P.underlying t = some (.slice e)) (hi : P.info? e = some i) (hz : i.zero = some (.int k 0)) (hsize : i.size = 1) (hby : i.bytes = bytes)
    (v : Value) (ys : List Int) (hs : a.eval s = v) (hown : w.ownsRow base e 1 v ys.length (ys.map (Value.int k)))
    (vx : Value) (xs : List Int) (hx : a.eval x = vx) (hr : Rd k w vx xs)
    (h63 : ys.length + xs.length ≤ maxLen) (hbytes : (ys.length + xs.length) * bytes ≤ 140737488355328) (hbase : base ≤ w.heap.size)
    (h : ∀ v' w', w'.ownsRow base e 1 v' (ys ++ xs).length ((ys ++ xs).map (Value.int k)) → w.grownBy w' v.ownBlock → K (a.put o.dst v') w') : o.wp P a w K Q := by
  have h1 : ∀ u ∈ xs.map (Value.int k), u.oneCell' = true := by
    intro u hu
    simp only [List.mem_map] at hu
    obtain ⟨n, _, rfl⟩ := hu
    rfl
  rcases hr with ⟨ao, cap, rfl, hn, rfl⟩ | ⟨b, off, cap, rfl, h0, hc1, hc2, hc⟩
  · cases ao with
    | none =>
      obtain rfl := hn rfl
      have hrun := run_append_owned_none (P := P) (w := w) base t o.type e i 1 ht hi v ys.length (ys.map (Value.int k)) hown
      unfold Oper.wp
      simp [execOp, ho, resolve, invoke, builtin, hs, hx, hrun, Result.andThen]
      exact h v w (by simpa using hown) ⟨rfl, rfl, rfl, Nat.le_refl _, fun _ _ _ => rfl⟩
    | some ad =>
      refine wp_append_own w s x t ho base e i (.int k 0) 1 bytes ht hi hz hsize hby rfl (by decide) v ys.length _ hs hown ad 0 cap [] hx rfl (by simp) (by simp) (by simpa using h63) (by simpa using hbytes) hbase ?_
      intro v' w' h2 h3 _
      exact h v' w' (by simpa using h2) h3
  · refine wp_append_own w s x t ho base e i (.int k 0) 1 bytes ht hi hz hsize hby rfl (by decide) v ys.length _ hs hown ⟨b, off, none⟩ xs.length cap (xs.map (Value.int k)) hx (by simp) ?_ h1 h63 hbytes hbase ?_
    · intro j u hj
      rw [List.getElem?_map] at hj
      cases hg : xs[j]? with
      | none => rw [hg] at hj; cases hj
      | some n =>
        rw [hg] at hj
        simp at hj
        subst hj
        have hj2 : j < xs.length := by
          rcases Nat.lt_or_ge j xs.length with h | h
          · exact h
          · rw [List.getElem?_eq_none h] at hg; cases hg
        have := hc j hj2
        rw [List.getD_eq_getElem?_getD, hg] at this
        simp at this
        by_cases hz : j = 0
        · subst hz; simpa [Addr.add] using this
        · simpa [Addr.add, hz] using this
    · intro v' w' h2 h3 _
      exact h v' w' (by simpa using h2) h3
theorem wpList_append_rd {P : Program} {w : World} {k : IntKind} {ops : Array Oper} {rest : List Oper} {o : Oper} {a : Act} {Q : Exit → Act → World → Prop} (hgd : o.guard = none) (s x : Operand) (t : TypeId)
    (ho : o.op = .call { callee := .builtin .append, args := #[s, x], argTypes := #[t, t] })
    (base : Nat) (e : TypeId) (i : TypeInfo) (bytes : Nat) (ht : P.underlying t = some (.slice e)) (hi : P.info? e = some i) (hz : i.zero = some (.int k 0)) (hsize : i.size = 1) (hby : i.bytes = bytes)
    (v : Value) (ys : List Int) (hs : a.eval s = v) (hown : w.ownsRow base e 1 v ys.length (ys.map (Value.int k)))
    (vx : Value) (xs : List Int) (hx : a.eval x = vx) (hr : Rd k w vx xs)
    (h63 : ys.length + xs.length ≤ maxLen) (hbytes : (ys.length + xs.length) * bytes ≤ 140737488355328) (hbase : base ≤ w.heap.size)
    (h : ∀ v' w', w'.ownsRow base e 1 v' (ys ++ xs).length ((ys ++ xs).map (Value.int k)) → w.grownBy w' v.ownBlock → wpList P ops Q rest (a.put o.dst v') w') : wpList P ops Q (o :: rest) a w :=
  wpList_plain hgd fun _ hK => wp_append_rd s x t ho base e i bytes ht hi hz hsize hby v ys hs hown vx xs hx hr h63 hbytes hbase fun v' w' h2 h3 => hK _ _ (h v' w' h2 h3)
/-- the same behind a guard that is met ('ok && f(append(..))') -/
theorem wpList_append_rdg {P : Program} {w : World} {k : IntKind} {ops : Array Oper} {rest : List Oper} {o : Oper} {a : Act} {Q : Exit → Act → World → Prop} (hgd : Region.wanted o (yielded ops a.tmps) = true) (s x : Operand) (t : TypeId)
    (ho : o.op = .call { callee := .builtin .append, args := #[s, x], argTypes := #[t, t] })
    (base : Nat) (e : TypeId) (i : TypeInfo) (bytes : Nat) (ht : P.underlying t = some (.slice e)) (hi : P.info? e = some i) (hz : i.zero = some (.int k 0)) (hsize : i.size = 1) (hby : i.bytes = bytes)
    (v : Value) (ys : List Int) (hs : a.eval s = v) (hown : w.ownsRow base e 1 v ys.length (ys.map (Value.int k)))
    (vx : Value) (xs : List Int) (hx : a.eval x = vx) (hr : Rd k w vx xs)
    (h63 : ys.length + xs.length ≤ maxLen) (hbytes : (ys.length + xs.length) * bytes ≤ 140737488355328) (hbase : base ≤ w.heap.size)
    (h : ∀ v' w', w'.ownsRow base e 1 v' (ys ++ xs).length ((ys ++ xs).map (Value.int k)) → w.grownBy w' v.ownBlock → wpList P ops Q rest (a.put o.dst v') w') : wpList P ops Q (o :: rest) a w :=
  wpList_step fun K hK => by
    rw [if_pos hgd]
    exact wp_append_rd s x t ho base e i bytes ht hi hz hsize hby v ys hs hown vx xs hx hr h63 hbytes hbase fun v' w' h2 h3 => hK _ _ (h v' w' h2 h3)

/-! what is asked of a slice that is read: its length, a cut, a cell -/
theorem rd_form {k : IntKind} {w : World} {v : Value} {xs : List Int} (h : Rd k w v xs) : ∃ ao cap, v = .slice ao xs.length cap ∧ xs.length ≤ cap ∧ (ao = none → cap = 0) ∧
    (0 < xs.length → cap ≤ maxLen ∧ ∃ b off, ao = some ⟨b, off, none⟩ ∧ ∀ i, i < xs.length → w.cell? ⟨b, off + i, none⟩ = some (.int k (xs.getD i 0))) := by
  rcases h with ⟨ao, cap, rfl, h1, rfl⟩ | ⟨b, off, cap, rfl, h0, h1, h2, hc⟩
  · exact ⟨ao, cap, rfl, Nat.zero_le _, h1, fun h => by simp at h⟩
  · exact ⟨_, cap, rfl, h1, (fun h => by cases h), fun _ => ⟨h2, b, off, rfl, hc⟩⟩
theorem rd_len {P : Program} {k : IntKind} {w : World} {v : Value} {xs : List Int} (h : Rd k w v xs) {t e : TypeId} (ht : P.underlying t = some (.slice e)) (ty : TypeId) (w' : World) :
    (Builtin.len_ #[t] ty #[v]).run P w' = .ok (.int .i64 xs.length) w' := by
  obtain ⟨ao, cap, rfl, _⟩ := rd_form h
  simp [Builtin.len_, run_underlying ht, goInt]
theorem rd_cut {P : Program} {k : IntKind} {w : World} {v : Value} {xs : List Int} (h : Rd k w v xs) {t : TypeId} (ht : P.underlying t = some (.slice (P.elem t))) (hs : ∀ w, (sizeOf (P.elem t)).run P w = .ok 1 w) (lo hi : Nat) (h1 : lo ≤ hi) (h2 : hi ≤ xs.length) :
    ∃ v', Rd k w v' ((xs.drop lo).take (hi - lo)) ∧ (∀ w', (Instr.slice t v (some (.int .i64 (lo : Int))) (some (.int .i64 (hi : Int))) none).run P w' = .ok v' w') ∧
      (lo = 0 → ∀ w', (Instr.slice t v none (some (.int .i64 (hi : Int))) none).run P w' = .ok v' w') ∧ (hi = xs.length → ∀ w', (Instr.slice t v (some (.int .i64 (lo : Int))) none none).run P w' = .ok v' w') := by
  obtain ⟨ao, cap, rfl, hc, hn, hx⟩ := rd_form h
  refine ⟨sliced ao lo hi cap 1, ?_, fun w' => ?_, fun h0 w' => ?_, fun h0 w' => ?_⟩
  · have hl : ((xs.drop lo).take (hi - lo)).length = hi - lo := by simp; omega
    rcases Nat.eq_zero_or_pos (hi - lo) with hz | hz
    · refine Or.inl ⟨if cap = lo then ao else ao.map (·.add (lo * 1)), cap - lo, by rw [sliced, hz], ?_, by rw [hz]; simp⟩
      intro he
      by_cases hcl : cap = lo
      · omega
      · rw [if_neg hcl] at he
        cases ao with
        | none => have := hn rfl; omega
        | some a => cases he
    · obtain ⟨hm, b, off, rfl, hcell⟩ := hx (by omega)
      refine Or.inr ⟨b, off + lo, cap - lo, ?_, by omega, by omega, by omega, fun i hi2 => ?_⟩
      · rw [sliced, hl, if_neg (by omega)]
        congr 1
        simp [Addr.add]
      · rw [hl] at hi2
        have := hcell (lo + i) (by omega)
        rw [show off + lo + i = off + (lo + i) by omega, this]
        simp only [List.getD_eq_getElem?_getD, List.getElem?_take, List.getElem?_drop]
        rw [if_pos hi2]
  · rw [run_slice_lh w' t ao xs.length cap ht .i64 .i64 (lo : Int) (hi : Int) (by omega) (by omega) (by omega), hs]
    simp [Result.andThen]
  · subst h0
    rw [run_slice_h w' t ao xs.length cap ht .i64 (hi : Int) (by omega) (by omega), hs]
    simp [Result.andThen]
  · subst h0
    rw [run_slice_l w' t ao xs.length cap ht .i64 (lo : Int) (by omega) (by omega), hs]
    simp [Result.andThen]
/-- the same with the bounds as the walk spells them -/
theorem rd_cutI {P : Program} {k : IntKind} {w : World} {v : Value} {xs : List Int} (h : Rd k w v xs) {t : TypeId} (ht : P.underlying t = some (.slice (P.elem t))) (hs : ∀ w, (sizeOf (P.elem t)).run P w = .ok 1 w) (lo hi : Int) (h0 : 0 ≤ lo) (h1 : lo ≤ hi) (h2 : hi ≤ xs.length) :
    ∃ v', Rd k w v' ((xs.drop lo.toNat).take (hi - lo).toNat) ∧ (∀ w', (Instr.slice t v (some (.int .i64 lo)) (some (.int .i64 hi)) none).run P w' = .ok v' w') ∧
      (lo = 0 → ∀ w', (Instr.slice t v none (some (.int .i64 hi)) none).run P w' = .ok v' w') ∧ (hi = xs.length → ∀ w', (Instr.slice t v (some (.int .i64 lo)) none none).run P w' = .ok v' w') := by
  obtain ⟨l, rfl⟩ := Int.eq_ofNat_of_zero_le h0
  obtain ⟨m, rfl⟩ := Int.eq_ofNat_of_zero_le (show 0 ≤ hi by omega)
  obtain ⟨v', r, a, b, c⟩ := rd_cut h ht hs l m (by omega) (by omega)
  refine ⟨v', ?_, a, fun h => b (by omega), fun h => c (by omega)⟩
  rw [show ((l : Int)).toNat = l by omega, show ((m : Int) - (l : Int)).toNat = m - l by omega]
  exact r
theorem rd_idx {P : Program} {k : IntKind} {w : World} {v : Value} {xs : List Int} (h : Rd k w v xs) {t : TypeId} (ht : P.underlying t = some (.slice (P.elem t))) (hs : ∀ w, (sizeOf (P.elem t)).run P w = .ok 1 w) (i : Int) (h0 : 0 ≤ i) (h1 : i < xs.length) :
    ∃ a : Addr, (∀ w', (Instr.indexAt t v (.int .i64 i)).run P w' = .ok (.pointer (some a)) w') ∧ w.cell? a = some (.int k (xs.getD i.toNat 0)) := by
  obtain ⟨ao, cap, rfl, hc, hn, hx⟩ := rd_form h
  obtain ⟨hm, b, off, rfl, hcell⟩ := hx (by omega)
  refine ⟨⟨b, off + i.toNat, none⟩, fun w' => ?_, hcell i.toNat (by omega)⟩
  rw [run_indexAt_slice (h := ht), if_pos ⟨h0, h1⟩, hs]
  simp only [Result.andThen, Nat.mul_one]
  congr 3
  unfold Addr.add
  split
  · rename_i hz; rw [hz]; rfl
  · rfl
theorem rd_one {k : IntKind} (w : World) (x : Int) (T : TypeId) : Rd k (w.alloc (.cells #[.int k x] T)) (.slice (some ⟨w.heap.size, 0, none⟩) 1 1) [x] :=
  Or.inr ⟨w.heap.size, 0, 1, rfl, by simp, by simp, by decide, fun i hi => by
    have : i = 0 := by simp at hi; omega
    subst this
    rw [World.cell?_alloc_new]
    rfl⟩
/-- a list that is written out -/
theorem rd_lit {k : IntKind} (w : World) (xs : List Int) (T : TypeId) (h0 : 0 < xs.length) (h1 : xs.length ≤ maxLen) : Rd k (w.alloc (.cells (xs.map (Value.int k)).toArray T)) (.slice (some ⟨w.heap.size, 0, none⟩) xs.length xs.length) xs :=
  Or.inr ⟨w.heap.size, 0, xs.length, rfl, h0, Nat.le_refl _, h1, fun i hi => by
    rw [World.cell?_alloc_new]
    simp [List.getD_eq_getElem?_getD, List.getElem?_eq_getElem hi]⟩
/-- blocks laid one behind the other -/
def lay (w : World) (os : List Obj) : World := os.foldl World.alloc w
theorem lay_below (w : World) (os : List Obj) : Below w.heap.size w (lay w os) := by
  have : ∀ (os : List Obj) (v : World), Below w.heap.size w v → Below w.heap.size w (os.foldl World.alloc v) := by
    intro os
    induction os with
    | nil => intro v h; exact h
    | cons o os ih => intro v h; exact ih _ (h.alloc h.size o)
  exact this os w (Below.refl _ _)
theorem size_al (w : World) (o : Obj) : (w.alloc o).heap.size = w.heap.size + 1 := by unfold World.alloc; simp
theorem lay_at (os : List Obj) : ∀ (w : World) (j : Nat), j < os.length → (lay w os).heap[w.heap.size + j]? = os[j]? := by
  induction os with
  | nil => intro w j h; simp at h
  | cons o os ih =>
    intro w j h
    cases j with
    | zero =>
      show (lay (w.alloc o) os).heap[w.heap.size]? = some o
      rw [(lay_below (w.alloc o) os).block w.heap.size (by rw [size_al]; omega)]
      exact heap_alloc_new w o
    | succ j =>
      have := ih (w.alloc o) j (by simpa using h)
      rw [size_al] at this
      show (lay (w.alloc o) os).heap[w.heap.size + (j + 1)]? = os[j]?
      rw [← this]
      congr 1
      omega
theorem rd_lay {k : IntKind} (w : World) (os : List Obj) (j : Nat) (hj : j < os.length) (xs : List Int) (T : TypeId) (h : os[j]? = some (.cells (xs.map (Value.int k)).toArray T)) (h0 : 0 < xs.length) (h1 : xs.length ≤ maxLen) :
    Rd k (lay w os) (.slice (some ⟨w.heap.size + j, 0, none⟩) xs.length xs.length) xs :=
  Or.inr ⟨w.heap.size + j, 0, xs.length, rfl, h0, Nat.le_refl _, h1, fun i hi => by
    have e := lay_at os w j hj
    rw [h] at e
    simp [World.cell?, e, List.getD_eq_getElem?_getD, List.getElem?_eq_getElem hi]⟩
theorem own_below {w w' : World} {base : Nat} {e : TypeId} {v : Value} {n : Nat} {xs : List Value} (h : w.ownsRow base e 1 v n xs) (g : Below w.heap.size w w') : w'.ownsRow base e 1 v n xs := by
  obtain ⟨hl, h⟩ := h
  refine ⟨hl, ?_⟩
  rcases h with h | ⟨b, cap, cur, rfl, hb, hg, hc, hm, hs, ht⟩
  · exact Or.inl h
  · refine Or.inr ⟨b, cap, cur, rfl, hb, ?_, hc, hm, hs, ht⟩
    rw [g.block b (Array.getElem?_eq_some_iff.1 hg).1]
    exact hg

/-- a parameter that is boxed -/
theorem box_cell (w : World) (cs : Array Value) (T : TypeId) (i : Nat) (v : Value) (h : cs[i]? = some v) : (w.alloc (.cells cs T)).cell? ⟨w.heap.size, i, none⟩ = some v := by rw [World.cell?_alloc_new]; exact h
theorem box_below (w : World) (o : Obj) : Below w.heap.size w (w.alloc o) := (Below.refl _ _).alloc (Nat.le_refl _) _
/-- a slice of integers that came in reads as some list; what its datum weighs bounds its length -/
theorem rd_open {H : Type} {enc : TypeId × Value → H} {P : Program} {W : World} {t e : TypeId} {k : IntKind} {a : Option Addr} {len cap : Nat} {d : DataW H} {ps : List MemPlace}
    (ht : P.underlying t = some (.slice e)) (he : P.underlying e = some (.int k)) (hc : P.cellsOf e = 1) (h : DataW.Trod enc P W 0 (fun _ => true) true t (.slice a len cap) d ps) :
    ∃ xs : List Int, Rd k W (.slice a len cap) xs ∧ (∀ n ∈ xs, (Lit.int k n).wf = true) ∧ (xs = [] ∨ ∃ ys zs, d = .slice ys zs ∧ xs.length ≤ ys.length + zs.length) := by
  obtain ⟨fuel, hf⟩ := h
  rcases open_ints ht he hc hf with ⟨hcs, _⟩ | ⟨x, l, c, zs, hcs, _, hl, hm, hz, hd, hcell, hwz⟩
  · simp [Value.cells] at hcs
    obtain ⟨rfl, rfl, rfl⟩ := hcs
    exact ⟨[], Rd_nil, fun n hn => by simp at hn, Or.inl rfl⟩
  · simp [Value.cells] at hcs
    obtain ⟨rfl, rfl, rfl⟩ := hcs
    have hz2 : zs.length = cap := by simpa using hz
    have hxl : (zs.take len).length = len := by simp; omega
    refine ⟨zs.take len, ?_, fun n hn => hwz n (List.mem_of_mem_take hn), Or.inr ⟨_, _, congrArg Prod.fst hd, by simp [lits]⟩⟩
    rcases Nat.eq_zero_or_pos len with h0 | h0
    · subst h0
      exact Or.inl ⟨some x, cap, rfl, (fun h => by cases h), by simp⟩
    · obtain ⟨b, off, spot⟩ := x
      have hc0 := hcell 0 (by omega)
      have hspot : spot = none := by simpa [Addr.add] using World.cell?_spot hc0
      subst hspot
      refine Or.inr ⟨b, off, cap, by rw [hxl], by omega, by omega, hm, fun i hi => ?_⟩
      have := hcell i (by omega)
      have e1 : (zs.take len).getD i 0 = zs.getD i 0 := by
        rw [List.getD_eq_getElem?_getD, List.getD_eq_getElem?_getD, List.getElem?_take, if_pos (by omega)]
      rw [e1, ← this]
      by_cases hi0 : i = 0
      · subst hi0; simp [Addr.add]
      · simp [Addr.add, hi0]

/-
  Slices of bytes as texts, and cells of a call's own row written. No Go text in sight.
-/
/-- a text's bytes as numbers -/
def LB (s : ByteArray) : List Int := s.data.toList.map fun c => (c.toNat : Int)
/-- numbers that are bytes -/
def bytesL (xs : List Int) : Prop := ∀ x ∈ xs, 0 ≤ x ∧ x < 256
theorem LB_len (s : ByteArray) : (LB s).length = s.size := by simp [LB]
theorem LB_bytes (s : ByteArray) : bytesL (LB s) := by
  intro x hx
  simp only [LB, List.mem_map] at hx
  obtain ⟨c, _, rfl⟩ := hx
  have := c.toNat_lt
  omega
theorem LB_nums (xs : List Int) (h : bytesL xs) : LB (strOfNums xs) = xs := by
  simp only [LB, strOfNums_data, List.map_map]
  conv => rhs; rw [← List.map_id xs]
  apply List.map_congr_left
  intro x hx
  have := h x hx
  simp only [Function.comp, id]
  rw [UInt8.toNat_ofNat']
  omega
theorem nums_LB (s : ByteArray) : strOfNums (LB s) = s := by
  cases s with
  | mk d =>
    simp only [strOfNums, LB, List.map_map]
    congr 1
    rw [show ((fun n : Int => UInt8.ofNat n.toNat) ∘ fun c : UInt8 => (c.toNat : Int)) = id by funext c; simp]
    simp
theorem nums_eq (xs ys : List Int) (hx : bytesL xs) (hy : bytesL ys) : (strOfNums xs = strOfNums ys) = (xs = ys) := by
  apply propext
  constructor
  · intro h
    rw [← LB_nums xs hx, ← LB_nums ys hy, h]
  · intro h
    rw [h]
/-- '==' of two texts, as the walk leaves it -/
theorem str_beq (A B : ByteArray) : (A.toList == B.toList) = decide (A = B) := by
  rw [Bool.eq_iff_iff]
  simp only [beq_iff_eq, decide_eq_true_eq, ByteArray.toList_eq]
  constructor
  · intro h
    cases A; cases B
    congr 1
    exact Array.ext' h
  · intro h; rw [h]
theorem strCells_LB (s : ByteArray) : Lib.strCells s = (LB s).map (Value.int .u8) := by simp [Lib.strCells, LB]

/-- a slice of bytes turned into a text -/
theorem rd_str {P : Program} {w : World} {v : Value} {xs : List Int} (h : Rd .u8 w v xs) {src dst e : TypeId} (hs : P.underlying src = some (.slice e)) (he : P.underlying e = some (.int .u8)) (hd : P.underlying dst = some .string) :
    (convert src dst v).run P w = .ok (.string (strOfNums xs)) w := by
  rcases h with ⟨ao, cap, rfl, hn, rfl⟩ | ⟨b, off, cap, rfl, h0, hc1, hc2, hc⟩
  · cases ao with
    | none => rw [run_convert_bytes_nil w src e hs he 0 cap dst hd]; rfl
    | some a =>
      rw [run_convert_bytes_string w src dst e _ 0 cap hs he hd, run_bytesToString w a 0 cap [] (by simp [loadCells, loadCellsFrom])]
      rfl
  · exact run_convert_bytes_arg w src e hs he b off xs.length cap xs rfl hc dst hd

/-- a cell of the call's own row: its address, and what is there once it is written -/
theorem own_set {P : Program} {k : IntKind} {w : World} {base : Nat} {e : TypeId} {v : Value} {ys : List Int} (h : w.ownsRow base e 1 v ys.length (ys.map (Value.int k))) {t : TypeId} (ht : P.underlying t = some (.slice (P.elem t))) (hs : ∀ w, (sizeOf (P.elem t)).run P w = .ok 1 w) (i : Int) (h0 : 0 ≤ i) (h1 : i < ys.length) :
    ∃ a : Addr, (∀ w', (Instr.indexAt t v (.int .i64 i)).run P w' = .ok (.pointer (some a)) w') ∧ w.cell? a = some (.int k (ys.getD i.toNat 0)) ∧ w.frozen? a = false ∧ base ≤ a.block ∧
      ∀ y, (w.setCell a (.int k y)).ownsRow base e 1 v (ys.set i.toNat y).length ((ys.set i.toNat y).map (Value.int k)) := by
  rcases h.2 with ⟨rfl, hz⟩ | ⟨g, cap, cur, rfl, hb, hg, hnc, hcm, hcs, htake⟩
  · omega
  · refine ⟨⟨g, i.toNat, none⟩, fun w' => ?_, ?_, h.frozenAt i.toNat, hb, fun y => ?_⟩
    · rw [run_indexAt_slice (h := ht), if_pos ⟨h0, h1⟩, hs]
      simp only [Result.andThen, Nat.mul_one]
      congr 3
      unfold Addr.add
      split
      · rename_i hz; rw [hz]
      · simp
    · rw [h.cellAt i.toNat (by omega), List.getElem?_map, List.getElem?_eq_getElem (by omega)]
      simp [List.getD_eq_getElem?_getD, List.getElem?_eq_getElem (show i.toNat < ys.length by omega)]
    · have := (h.stored i.toNat (.int k y)).1
      rw [List.length_set, List.map_set]
      exact this
/-- append of a text onto a row of the call's own -/
theorem wpList_append_rds {P : Program} {w : World} {ops : Array Oper} {rest : List Oper} {o : Oper} {a : Act} {Q : Exit → Act → World → Prop} (hgd : o.guard = none) (s x : Operand) (t u : TypeId)
    (ho : o.op = .call { callee := .builtin .append, args := #[s, x], argTypes := #[t, u] })
    (base : Nat) (e : TypeId) (i : TypeInfo) (ht : P.underlying t = some (.slice e)) (hu : P.underlying u = some .string) (hi : P.info? e = some i) (hz : i.zero = some (.int .u8 0)) (hsize : i.size = 1) (hby : i.bytes = 1)
    (v : Value) (ys : List Int) (hs : a.eval s = v) (hown : w.ownsRow base e 1 v ys.length (ys.map (Value.int .u8)))
    (S : ByteArray) (hx : a.eval x = .string S) (h63 : ys.length + S.size ≤ maxLen) (hbytes : ys.length + S.size ≤ 140737488355328) (hbase : base ≤ w.heap.size)
    (h : ∀ v' w', w'.ownsRow base e 1 v' (ys ++ LB S).length ((ys ++ LB S).map (Value.int .u8)) → w.grownBy w' v.ownBlock → wpList P ops Q rest (a.put o.dst v') w') : wpList P ops Q (o :: rest) a w := by
  obtain ⟨v', w', hr, ho2, hg, _⟩ := Lib.run_append_own_string w base t u o.type e i ht hu hi hz hsize hby v ys.length _ hown S h63 hbytes hbase
  refine wpList_plain hgd fun _ hK => ?_
  unfold Oper.wp
  simp [execOp, ho, resolve, invoke, builtin, hs, hx, hr, Result.andThen]
  refine hK _ _ (h v' w' ?_ hg)
  rw [strCells_LB] at ho2
  simpa [LB_len] using ho2

/-
  Digits as plain functions of whole numbers: the value of a byte as a digit, and facts on them. No Go text in sight.
-/
theorem ret_i {k : IntKind} {a b : Int} (h : a = b) : Ending.returned (.int k a) = .returned (.int k b) := by rw [h]
theorem ret_ii {k l : IntKind} {a b c d : Int} (h : a = b) (g : c = d) : Ending.returned (.tuple #[.int k a, .int l c]) = .returned (.tuple #[.int k b, .int l d]) := by rw [h, g]
theorem ret_ib {k : IntKind} {a b : Int} {c d : Bool} (h : a = b) (g : c = d) : Ending.returned (.tuple #[.int k a, .bool c]) = .returned (.tuple #[.int k b, .bool d]) := by rw [h, g]
theorem ret_si {l : IntKind} {s t : ByteArray} {c d : Int} (h : s = t) (g : c = d) : Ending.returned (.tuple #[.string s, .int l c]) = .returned (.tuple #[.string t, .int l d]) := by rw [h, g]
/-- all that was there is as it was -/
abbrev Gr (w w' : World) : Prop := Below w.heap.size w w'
theorem Gr.refl (w : World) : Gr w w := Below.refl _ _
theorem Gr.alloc {w w' : World} (h : Gr w w') (c : Array Value) (t : TypeId) : Gr w (w'.alloc (.cells c t)) := Below.alloc h h.size _
theorem grown_trans {a b c : World} (h : Gr a b) (g : Gr b c) : Gr a c := below_trans h g
theorem grown_drewN {W w' : World} (h : Gr W w') (n : Nat) : Gr W (w'.drewN n) := below_drewN h n
theorem u32_bounds {n : Int} (h : (Lit.int .u32 n).wf = true) : 0 ≤ n ∧ n < 4294967296 := by
  simp [Lit.wf, IntKind.min, IntKind.max, IntKind.bits, IntKind.signed] at h
  omega
theorem u8_bounds {n : Int} (h : (Lit.int .u8 n).wf = true) : 0 ≤ n ∧ n < 256 := by
  simp [Lit.wf, IntKind.min, IntKind.max, IntKind.bits, IntKind.signed] at h
  omega

/-- a great letter made small -/
def sm (c : Int) : Int := if 65 ≤ c ∧ c ≤ 90 then c + 32 else c
/-- the value of a byte as a digit; 99 where it is none -/
def dv (c : Int) : Int := if 48 ≤ c ∧ c ≤ 57 then c - 48 else if 97 ≤ c ∧ c ≤ 122 then c - 87 else if 65 ≤ c ∧ c ≤ 90 then c - 55 else 99
/-- the byte of a digit's value -/
def dg (k : Int) : Int := if k < 10 then 48 + k else 87 + k
/-- is it a digit of the base -/
def isD (c b : Int) : Bool := decide (2 ≤ b ∧ b ≤ 36 ∧ dv c < b)
def vl (c b : Int) : Int := if isD c b = true then dv c else 0
theorem sm_bd (c : Int) (h0 : 0 ≤ c) (h1 : c < 256) : 0 ≤ sm c ∧ sm c < 256 := by unfold sm; omega
theorem dv_bd (c : Int) (h0 : 0 ≤ c) (h1 : c < 256) : 0 ≤ dv c ∧ dv c ≤ 99 := by unfold dv; omega
theorem dg_hit (c k : Int) (h0 : 0 ≤ c) (h1 : c < 256) (k0 : 0 ≤ k) (k1 : k < 36) (h : dg k = sm c) : dv c = k := by
  unfold dg sm at h; unfold dv; omega
theorem dg_of (c : Int) (h0 : 0 ≤ c) (h1 : c < 256) (h : dv c < 36) : dg (dv c) = sm c := by
  unfold dv at h ⊢; unfold dg sm; omega
theorem isD_hit (c b k : Int) (h0 : 0 ≤ c) (h1 : c < 256) (b0 : 2 ≤ b) (b1 : b ≤ 36) (k0 : 0 ≤ k) (k1 : k < b) (h : dg k = sm c) : isD c b = true ∧ vl c b = k := by
  have e := dg_hit c k h0 h1 k0 (by omega) h
  have d : isD c b = true := by unfold isD; simp; omega
  exact ⟨d, by unfold vl; rw [if_pos d, e]⟩
theorem isD_miss (c b : Int) (h0 : 0 ≤ c) (h1 : c < 256) (h : ∀ j : Nat, (j : Int) < b → ¬ dg j = sm c) : isD c b = false ∧ vl c b = 0 := by
  have d : isD c b = false := by
    unfold isD
    simp
    intro b0 b1
    have hd := dv_bd c h0 h1
    by_cases hc : dv c < b
    · exfalso
      obtain ⟨n, hn⟩ := Int.eq_ofNat_of_zero_le hd.1
      exact h n (by omega) (by rw [← hn]; exact dg_of c h0 h1 (by omega))
    · omega
  exact ⟨d, by unfold vl; rw [if_neg (by rw [d]; decide)]⟩
theorem isD_unfit (c b : Int) (h : b < 2 ∨ 36 < b) : isD c b = false ∧ vl c b = 0 := by
  have d : isD c b = false := by unfold isD; simp; omega
  exact ⟨d, by unfold vl; rw [if_neg (by rw [d]; decide)]⟩
theorem vl_bd (c b : Int) (h0 : 0 ≤ c) (h1 : c < 256) : 0 ≤ vl c b ∧ vl c b ≤ 35 := by
  unfold vl isD
  have := dv_bd c h0 h1
  split
  · simp at *; omega
  · omega

/-- a text's bytes as numbers -/
def L (s : ByteArray) : List Int := s.data.toList.map fun c => (c.toNat : Int)
theorem L_len (s : ByteArray) : (L s).length = s.size := by simp [L]
theorem L_get (s : ByteArray) (k : Nat) (h : k < s.size) : (L s)[k]'(by rw [L_len]; exact h) = (s[k].toNat : Int) := by
  simp [L]; rfl
theorem L_take (s : ByteArray) (k : Nat) (h : k < s.size) : (L s).take (k + 1) = (L s).take k ++ [(s[k].toNat : Int)] := by
  rw [List.take_succ_eq_append_getElem (by rw [L_len]; exact h), L_get s k h]
theorem L_drop (s : ByteArray) (k : Nat) (h : k < s.size) : (L s).drop k = (s[k].toNat : Int) :: (L s).drop (k + 1) := by
  rw [List.drop_eq_getElem_cons (by rw [L_len]; exact h), L_get s k h]
theorem L_bd (s : ByteArray) (k : Nat) (h : k < s.size) : 0 ≤ (s[k].toNat : Int) ∧ (s[k].toNat : Int) < 256 := by
  have := s[k].toNat_lt; omega

theorem L_extract (s : ByteArray) (a b : Nat) (h : b ≤ s.size) : L (s.extract a b) = ((L s).drop a).take (b - a) := by
  unfold L
  rw [Lib.extract_data]
  rw [← List.map_drop, ← List.map_take]
theorem L_from (s : ByteArray) (a : Nat) : L (s.extract a s.size) = (L s).drop a := by
  rw [L_extract s a s.size (Nat.le_refl _)]
  exact List.take_of_length_le (by rw [List.length_drop, L_len]; exact Nat.le_refl _)
theorem L_tail (s : ByteArray) : L (s.extract 1 s.size) = (L s).tail := by
  rw [L_from]; simp

/-- the number of digits, as long as it may be -/
def num (b : Int) (l : List Int) : Int := l.foldl (fun a c => a * b + vl c b) 0
def allD (b : Int) (l : List Int) : Bool := l.all fun c => isD c b
theorem num_snoc (b : Int) (l : List Int) (c : Int) : num b (l ++ [c]) = num b l * b + vl c b := by simp [num]
theorem allD_snoc (b : Int) (l : List Int) (c : Int) : allD b (l ++ [c]) = (allD b l && isD c b) := by simp [allD]
theorem allD_mid (b : Int) (l m : List Int) (c : Int) (h : isD c b = false) : allD b (l ++ c :: m) = false := by simp [allD, h]
/-- a text of digits read, behind its sign -/
def prsT (neg : Bool) (l : List Int) (b : Int) : Int × Int :=
  if l = [] then (0, 15) else if allD b l = false then (0, 15) else if 4294967296 ≤ num b l then (0, 4) else
  (if neg = true then (4294967296 - num b l) % 4294967296 else num b l, 0)
/-- what Parse answers -/
def prs (l : List Int) (b : Int) : Int × Int :=
  if b < 2 ∨ 36 < b then (0, 1) else if l.head? = some 45 then prsT true l.tail b else prsT false l b
theorem mul_b (n b : Int) (h0 : 0 ≤ n) (h1 : n < 4294967296) (b0 : 2 ≤ b) (b1 : b ≤ 36) : n * 2 ≤ n * b ∧ n * b ≤ n * 36 :=
  ⟨Int.mul_le_mul_of_nonneg_left b0 h0, Int.mul_le_mul_of_nonneg_left b1 h0⟩
theorem mul_ge (m b : Int) (h0 : 4294967296 ≤ m) (b0 : 2 ≤ b) : 4294967296 ≤ m * b := by
  have : m * 2 ≤ m * b := Int.mul_le_mul_of_nonneg_left b0 (by omega)
  omega

/-
  Numbers shown in a base, as plain lists of bytes: the digits, that they are read back as the number, and that unlike numbers have unlike texts. No Go text in sight; bases from 2 to 36.
-/
/-- bytes of numbers -/
def toB (l : List Int) : ByteArray := ⟨(l.map fun x => UInt8.ofNat x.toNat).toArray⟩
theorem toB_L (t : ByteArray) : toB (L t) = t := by
  obtain ⟨⟨l⟩⟩ := t
  simp [toB, L, Function.comp_def]
theorem L_toB (l : List Int) (h : ∀ x ∈ l, 0 ≤ x ∧ x < 256) : L (toB l) = l := by
  simp only [L, toB, List.map_map]
  conv => rhs; rw [← List.map_id l]
  apply List.map_congr_left
  intro x hx
  have := h x hx
  simp [UInt8.toNat_ofNat']
  omega
theorem L_eq (t : ByteArray) (l : List Int) (h : L t = l) : t = toB l := by rw [← h, toB_L]
theorem L_app (s t : ByteArray) : L (s ++ t) = L s ++ L t := by simp [L]

/-- the digits of a number, the highest first -/
def shF (b : Int) : Nat → Int → List Int
  | 0, _ => []
  | f + 1, n => if n < b then [dg n] else shF b f (n / b) ++ [dg (n % b)]
def sh (b n : Int) : List Int := shF b 32 n
theorem shF_lo (b n : Int) (f : Nat) (h : n < b) : shF b (f + 1) n = [dg n] := by simp [shF, h]
theorem shF_hi (b n : Int) (f : Nat) (h : ¬ n < b) : shF b (f + 1) n = shF b f (n / b) ++ [dg (n % b)] := by simp [shF, h]
theorem div_half (n b : Int) (h0 : 0 ≤ n) (b0 : 2 ≤ b) : 0 ≤ n / b ∧ n / b * 2 ≤ n ∧ 0 ≤ n % b ∧ n % b < b := by
  have h1 : n / b * b ≤ n := Int.ediv_mul_le n (by omega)
  have h2 : 0 ≤ n / b := Int.ediv_nonneg h0 (by omega)
  have h3 : n / b * 2 ≤ n / b * b := Int.mul_le_mul_of_nonneg_left b0 h2
  exact ⟨h2, by omega, Int.emod_nonneg n (by omega), Int.emod_lt_of_pos n (by omega)⟩
theorem div_pos (n b : Int) (b0 : 2 ≤ b) (h : ¬ n < b) : 0 < n / b := by
  have : 1 ≤ n / b := Int.le_ediv_of_mul_le (by omega) (by omega)
  omega
theorem dg_isD (b k : Int) (b0 : 2 ≤ b) (b1 : b ≤ 36) (k0 : 0 ≤ k) (k1 : k < b) : isD (dg k) b = true ∧ vl (dg k) b = k ∧ 0 ≤ dg k ∧ dg k < 256 ∧ ¬ dg k = 45 := by
  have e : dv (dg k) = k := by unfold dg dv; omega
  have d : isD (dg k) b = true := by unfold isD; rw [e]; simp; omega
  refine ⟨d, by unfold vl; rw [if_pos d, e], ?_, ?_, ?_⟩ <;> (unfold dg; omega)

theorem shF_len (b : Int) (f : Nat) : ∀ n, (shF b f n).length ≤ f := by
  induction f with
  | zero => intro n; simp [shF]
  | succ f ih =>
    intro n
    have := ih (n / b)
    unfold shF
    split <;> simp <;> omega
theorem toB_size (l : List Int) : (toB l).size = l.length := by simp [toB, ByteArray.size]
theorem toB_cons (x : Int) (l : List Int) : toB [x] ++ toB l = toB (x :: l) := by
  simp [toB, ByteArray.ext_iff]

/-- what is shown: digits of the base, at least one, the first no sign, read back as the number -/
theorem shF_all (b : Int) (b0 : 2 ≤ b) (b1 : b ≤ 36) (f : Nat) : ∀ n : Int, 0 ≤ n → n < 2 ^ f → 0 < f →
    allD b (shF b f n) = true ∧ num b (shF b f n) = n ∧ (∀ x ∈ shF b f n, 0 ≤ x ∧ x < 256 ∧ ¬ x = 45) ∧ shF b f n ≠ [] := by
  induction f with
  | zero => intro n _ _ h; omega
  | succ f ih =>
    intro n h0 h1 _
    by_cases c : n < b
    · rw [shF_lo b n f c]
      obtain ⟨d1, d2, d3, d4, d5⟩ := dg_isD b n b0 b1 h0 c
      refine ⟨by simp [allD, d1], by simp [num, d2], ?_, by simp⟩
      intro x hx
      simp at hx
      subst hx
      exact ⟨d3, d4, d5⟩
    · obtain ⟨q0, q1, r0, r1⟩ := div_half n b h0 b0
      have qp := div_pos n b b0 c
      have hp : (2 : Int) ^ (f + 1) = 2 ^ f * 2 := Int.pow_succ 2 f
      have hf : 0 < f := by
        rcases Nat.eq_zero_or_pos f with h | h
        · subst h; simp at h1; omega
        · exact h
      obtain ⟨i1, i2, i3, i4⟩ := ih (n / b) q0 (by omega) hf
      obtain ⟨d1, d2, d3, d4, d5⟩ := dg_isD b (n % b) b0 b1 r0 r1
      rw [shF_hi b n f c]
      refine ⟨by rw [allD_snoc, i1, d1]; rfl, ?_, ?_, by simp⟩
      · rw [num_snoc, i2, d2]
        exact Int.ediv_mul_add_emod n b
      · intro x hx
        rw [List.mem_append] at hx
        rcases hx with hx | hx
        · exact i3 x hx
        · simp at hx
          subst hx
          exact ⟨d3, d4, d5⟩
theorem sh_all (b n : Int) (b0 : 2 ≤ b) (b1 : b ≤ 36) (h0 : 0 ≤ n) (h1 : n < 4294967296) :
    allD b (sh b n) = true ∧ num b (sh b n) = n ∧ (∀ x ∈ sh b n, 0 ≤ x ∧ x < 256 ∧ ¬ x = 45) ∧ sh b n ≠ [] :=
  shF_all b b0 b1 32 n h0 (by simpa using h1) (by decide)
theorem sh_L (b n : Int) (b0 : 2 ≤ b) (b1 : b ≤ 36) (h0 : 0 ≤ n) (h1 : n < 4294967296) : L (toB (sh b n)) = sh b n :=
  L_toB _ fun x hx => ⟨((sh_all b n b0 b1 h0 h1).2.2.1 x hx).1, ((sh_all b n b0 b1 h0 h1).2.2.1 x hx).2.1⟩
theorem sh_back (b n : Int) (b0 : 2 ≤ b) (b1 : b ≤ 36) (h0 : 0 ≤ n) (h1 : n < 4294967296) : prs (sh b n) b = (n, 0) := by
  obtain ⟨i1, i2, i3, i4⟩ := sh_all b n b0 b1 h0 h1
  have hh : ¬ (sh b n).head? = some 45 := by
    intro h
    have := List.mem_of_mem_head? h
    exact (i3 45 this).2.2 rfl
  unfold prs
  rw [if_neg (by omega), if_neg hh]
  unfold prsT
  rw [if_neg i4, if_neg (by rw [i1]; decide), if_neg (by rw [i2]; omega), i2]
  simp
/-- the sign ahead -/
def sg (b n : Int) : List Int := if n < 2147483648 then sh b n else 45 :: sh b (4294967296 - n)
theorem sg_back (b n : Int) (b0 : 2 ≤ b) (b1 : b ≤ 36) (h0 : 0 ≤ n) (h1 : n < 4294967296) : prs (sg b n) b = (n, 0) := by
  unfold sg
  by_cases c : n < 2147483648
  · rw [if_pos c]; exact sh_back b n b0 b1 h0 h1
  · rw [if_neg c]
    obtain ⟨i1, i2, i3, i4⟩ := sh_all b (4294967296 - n) b0 b1 (by omega) (by omega)
    unfold prs
    rw [if_neg (by omega), if_pos (by simp)]
    unfold prsT
    simp only [List.tail_cons]
    rw [if_neg i4, if_neg (by rw [i1]; decide), if_neg (by rw [i2]; omega), i2]
    simp
    omega
theorem sg_bytes (b n : Int) (b0 : 2 ≤ b) (b1 : b ≤ 36) (h0 : 0 ≤ n) (h1 : n < 4294967296) : L (toB (sg b n)) = sg b n := by
  apply L_toB
  intro x hx
  unfold sg at hx
  by_cases c : n < 2147483648
  · rw [if_pos c] at hx
    have := (sh_all b n b0 b1 h0 h1).2.2.1 x hx
    exact ⟨this.1, this.2.1⟩
  · rw [if_neg c] at hx
    simp at hx
    rcases hx with rfl | hx
    · omega
    · have := (sh_all b (4294967296 - n) b0 b1 (by omega) (by omega)).2.2.1 x hx
      exact ⟨this.1, this.2.1⟩
theorem sh_inj (b n m : Int) (b0 : 2 ≤ b) (b1 : b ≤ 36) (h0 : 0 ≤ n) (h1 : n < 4294967296) (g0 : 0 ≤ m) (g1 : m < 4294967296) : sh b n = sh b m ↔ n = m := by
  constructor
  · intro h
    have e1 := (sh_all b n b0 b1 h0 h1).2.1
    have e2 := (sh_all b m b0 b1 g0 g1).2.1
    rw [h] at e1
    omega
  · intro h; rw [h]

/-
  A memory of bytes, as plain functions of lists. No Go text in sight.
-/
/-- a stretch lies in a memory of L bytes -/
def inF (L a n : Int) : Bool := decide (a ≤ L ∧ n ≤ L - a)
/-- what is wrong with a number's address and size -/
def wrongF (L a s : Int) : Int := if ¬ (s = 1 ∨ s = 2 ∨ s = 4) then 1 else if ¬ a % s = 0 then 8 else if inF L a s = false then 9 else 0
/-- bytes as a number, the highest first; a number as bytes -/
def beV (l : List Int) : Int := l.foldl (fun v b => v * 256 + b) 0
def beB : Nat → Int → List Int
  | 0, _ => []
  | n + 1, v => beB n (v / 256) ++ [v % 256]
def fetF (m : List Int) (a s : Int) : Int × Int := if wrongF m.length a s = 0 then (beV ((m.drop a.toNat).take s.toNat), 0) else (0, wrongF m.length a s)
def stoF (m : List Int) (a s v : Int) : List Int × Int := if wrongF m.length a s = 0 then (m.take a.toNat ++ beB s.toNat v ++ m.drop (a.toNat + s.toNat), 0) else ([], wrongF m.length a s)
def texF (m : List Int) (a n : Int) : List Int × Int := if inF m.length a n = true then ((m.drop a.toNat).take n.toNat, 0) else ([], 9)
def putF (m : List Int) (a : Int) (s : List Int) : List Int × Int := if inF m.length a s.length = true then (m.take a.toNat ++ s ++ m.drop (a.toNat + s.length), 0) else ([], 9)
def movF (m : List Int) (f t n : Int) : List Int × Int := if inF m.length f n = true ∧ inF m.length t n = true then putF m t ((m.drop f.toNat).take n.toNat) else ([], 9)
def filF (m : List Int) (a n v : Int) : List Int × Int := if inF m.length a n = true then (m.take a.toNat ++ List.replicate n.toNat (v % 256) ++ m.drop (a.toNat + n.toNat), 0) else ([], 9)
def cmpL : List Int → List Int → Int
  | x :: xs, y :: ys => if y < x then 1 else if x < y then 4294967295 else cmpL xs ys
  | _, _ => 0
def cmpF (m : List Int) (a b n : Int) : Int × Int := if inF m.length a n = true ∧ inF m.length b n = true then (cmpL ((m.drop a.toNat).take n.toNat) ((m.drop b.toNat).take n.toNat), 0) else (0, 9)
def allAt (L : Int) : Int := (L + 3) / 4 * 4
def allF (m : List Int) (n : Int) : List Int × Int × Int :=
  if (4096 : Int) < m.length then ([], 0, 10) else if 4096 - allAt m.length < n then ([], 0, 10) else (m ++ List.replicate (allAt m.length + n - m.length).toNat 0, allAt m.length, 0)

theorem wrong_ok {L a s : Int} (h : wrongF L a s = 0) : (s = 1 ∨ s = 2 ∨ s = 4) ∧ a % s = 0 ∧ a ≤ L ∧ s ≤ L - a := by
  unfold wrongF at h
  by_cases h1 : s = 1 ∨ s = 2 ∨ s = 4
  · rw [if_neg (fun h => h h1)] at h
    by_cases h2 : a % s = 0
    · rw [if_neg (fun h => h h2)] at h
      by_cases h3 : inF L a s = false
      · rw [if_pos h3] at h; omega
      · simp [inF] at h3
        exact ⟨h1, h2, h3.1, h3.2⟩
    · rw [if_pos h2] at h; omega
  · rw [if_pos h1] at h; omega
theorem bytes_take {xs : List Int} (h : bytesL xs) (n : Nat) : bytesL (xs.take n) := fun x hx => h x (List.mem_of_mem_take hx)
theorem bytes_drop {xs : List Int} (h : bytesL xs) (n : Nat) : bytesL (xs.drop n) := fun x hx => h x (List.mem_of_mem_drop hx)
theorem bytes_app {xs ys : List Int} (h : bytesL xs) (g : bytesL ys) : bytesL (xs ++ ys) := fun x hx => (List.mem_append.1 hx).elim (h x) (g x)
theorem beB_len : ∀ (n : Nat) (v : Int), (beB n v).length = n
  | 0, _ => rfl
  | n + 1, v => by simp [beB, beB_len n]
theorem beB_bytes : ∀ (n : Nat) (v : Int), bytesL (beB n v)
  | 0, _ => fun x hx => by simp [beB] at hx
  | n + 1, v => by
    intro x hx
    simp only [beB, List.mem_append, List.mem_singleton] at hx
    rcases hx with hx | rfl
    · exact beB_bytes n _ x hx
    · omega
theorem beV_snoc (l : List Int) (b : Int) : beV (l ++ [b]) = beV l * 256 + b := by simp [beV]
/-- there and back -/
theorem beV_beB : ∀ (n : Nat) (v : Int), beV (beB n v) = v % 256 ^ n
  | 0, v => by simp [beB, beV]
  | n + 1, v => by
    rw [beB, beV_snoc, beV_beB n]
    have e : (256 : Int) ^ (n + 1) = 256 * 256 ^ n := by rw [Int.pow_succ, Int.mul_comm]
    rw [e]
    have hk : (0 : Int) < 256 ^ n := Int.pow_pos (by omega)
    obtain ⟨k, hk2⟩ : ∃ k, (256 : Int) ^ n = k := ⟨_, rfl⟩
    rw [hk2] at hk ⊢
    have h1 := Int.emod_add_mul_ediv (v / 256) k
    have h2 := Int.emod_nonneg (v / 256) (show k ≠ 0 by omega)
    have h3 := Int.emod_lt_of_pos (v / 256) hk
    have hv : v = (v / 256 % k * 256 + v % 256) + 256 * k * (v / 256 / k) := by
      rw [Int.mul_assoc]
      omega
    have h4 : 0 ≤ v % 256 ∧ v % 256 < 256 := by omega
    obtain ⟨u, hu⟩ : ∃ u, v / 256 % k = u := ⟨_, rfl⟩
    obtain ⟨t, ht⟩ : ∃ t, v / 256 / k = t := ⟨_, rfl⟩
    obtain ⟨r, hr⟩ : ∃ r, v % 256 = r := ⟨_, rfl⟩
    rw [hu, ht, hr] at hv
    rw [hu] at h2 h3 ⊢
    rw [hr] at h4 ⊢
    rw [hv, Int.add_mul_emod_self_left, Int.emod_eq_of_lt (by omega) (by omega)]
theorem sto_bytes {m : List Int} (h : bytesL m) (a s v : Int) : bytesL (stoF m a s v).1 := by
  unfold stoF
  split
  · exact bytes_app (bytes_app (bytes_take h _) (beB_bytes _ _)) (bytes_drop h _)
  · intro x hx; simp at hx
theorem tex_bytes {m : List Int} (h : bytesL m) (a n : Int) : bytesL (texF m a n).1 := by
  unfold texF
  split
  · exact bytes_take (bytes_drop h _) _
  · intro x hx; simp at hx
theorem put_bytes {m s : List Int} (h : bytesL m) (g : bytesL s) (a : Int) : bytesL (putF m a s).1 := by
  unfold putF
  split
  · exact bytes_app (bytes_app (bytes_take h _) g) (bytes_drop h _)
  · intro x hx; simp at hx
theorem mov_bytes {m : List Int} (h : bytesL m) (f t n : Int) : bytesL (movF m f t n).1 := by
  unfold movF
  split
  · exact put_bytes h (bytes_take (bytes_drop h _) _) _
  · intro x hx; simp at hx
theorem fil_bytes {m : List Int} (h : bytesL m) (a n v : Int) : bytesL (filF m a n v).1 := by
  unfold filF
  split
  · refine bytes_app (bytes_app (bytes_take h _) ?_) (bytes_drop h _)
    intro x hx
    rw [List.mem_replicate] at hx
    omega
  · intro x hx; simp at hx
theorem all_bytes {m : List Int} (h : bytesL m) (n : Int) : bytesL (allF m n).1 := by
  unfold allF
  split
  · intro x hx; simp at hx
  · split
    · intro x hx; simp at hx
    · refine bytes_app h ?_
      intro x hx
      rw [List.mem_replicate] at hx
      omega

/-
  Names, unit addresses and the bytes of properties, as plain functions of lists of numbers. No Go text in sight.
-/
theorem L_LB (s : ByteArray) : L s = LB s := rfl
theorem toB_nums (l : List Int) : toB l = strOfNums l := rfl

/-- a byte that a name may have -/
def nmC (c : Int) : Bool := decide (33 ≤ c ∧ c ≤ 126 ∧ ¬ (65 ≤ c ∧ c ≤ 90) ∧ ¬ c = 47 ∧ ¬ c = 92 ∧ ¬ c = 58 ∧ ¬ c = 91 ∧ ¬ c = 93 ∧ ¬ c = 64)
def nmF (l : List Int) : Bool := decide (1 ≤ l.length ∧ l.length ≤ 31) && l.all nmC
theorem nm_mid (l m : List Int) (c : Int) (h : nmC c = false) : nmF (l ++ c :: m) = false := by simp [nmF, h]

/-- pieces between bytes d -/
def spl (d : Int) (cur : List Int) : List Int → List (List Int)
  | [] => [cur]
  | c :: r => if c = d then cur :: spl d [] r else spl d (cur ++ [c]) r
theorem spl_skip (d : Int) (p r : List Int) (h : ∀ x ∈ p, ¬ x = d) : ∀ cur, spl d cur (p ++ r) = spl d (cur ++ p) r := by
  induction p with
  | nil => intro cur; simp
  | cons x p ih =>
    intro cur
    rw [List.cons_append, spl, if_neg (h x (by simp)), ih (fun y hy => h y (by simp [hy]))]
    simp
theorem spl_len (d : Int) : ∀ (l cur : List Int), 1 ≤ (spl d cur l).length
  | [], _ => by simp [spl]
  | c :: r, cur => by
    unfold spl
    split
    · simp
    · exact spl_len d r _

/-- a piece of a unit address: 1 to 8 digits of base 16 -/
def pcOk (p : List Int) : Bool := decide (1 ≤ p.length ∧ p.length ≤ 8) && allD 16 p
/-- what ParseUnit answers -/
def punF (l : List Int) : List Int × Int :=
  if (spl 44 [] l).all pcOk = false then ([], 15) else if 4 < (spl 44 [] l).length then ([], 3) else ((spl 44 [] l).map (num 16), 0)
theorem vl16_bd (c : Int) (h : isD c 16 = true) (h0 : 0 ≤ c) (h1 : c < 256) : 0 ≤ vl c 16 ∧ vl c 16 < 16 := by
  unfold vl
  rw [if_pos h]
  unfold isD at h
  have := dv_bd c h0 h1
  simp at h
  omega
theorem num16_lt (p : List Int) (hb : bytesL p) (hD : allD 16 p = true) : 0 ≤ num 16 p ∧ num 16 p < 16 ^ p.length := by
  suffices h : ∀ q : List Int, bytesL q.reverse → allD 16 q.reverse = true → 0 ≤ num 16 q.reverse ∧ num 16 q.reverse < 16 ^ q.length by
    have := h p.reverse (by simpa using hb) (by simpa using hD)
    simpa using this
  intro q
  induction q with
  | nil => intro _ _; simp [num]
  | cons c q ih =>
    intro hb hD
    rw [List.reverse_cons] at hb hD ⊢
    rw [allD_snoc, Bool.and_eq_true] at hD
    have i := ih (fun x hx => hb x (by simp at hx ⊢; exact Or.inl hx)) hD.1
    have hc := hb c (by simp)
    have hv := vl16_bd c hD.2 hc.1 hc.2
    rw [num_snoc, List.length_cons, Int.pow_succ]
    obtain ⟨k, hk⟩ : ∃ k, (16 : Int) ^ q.length = k := ⟨_, rfl⟩
    rw [hk] at i ⊢
    omega
theorem pc_num (p : List Int) (hb : bytesL p) (h : pcOk p = true) : 0 ≤ num 16 p ∧ num 16 p < 4294967296 := by
  simp [pcOk] at h
  have h1 := num16_lt p hb h.2
  have h2 : (16 : Int) ^ p.length ≤ 16 ^ 8 := by
    have := Nat.pow_le_pow_right (n := 16) (by decide) h.1.2
    have e : ((16 ^ p.length : Nat) : Int) ≤ ((16 ^ 8 : Nat) : Int) := by omega
    simpa using e
  omega
/-- such a piece as layer 2 reads it -/
theorem pc_prs (p : List Int) (hb : bytesL p) (h1 : 1 ≤ p.length) (h8 : p.length ≤ 8) (hm : ¬ p.head? = some 45) : prs p 16 = if pcOk p = true then (num 16 p, 0) else (0, 15) := by
  have hne : ¬ p = [] := by intro h; rw [h] at h1; simp at h1
  unfold prs
  rw [if_neg (by omega), if_neg hm]
  unfold prsT
  rw [if_neg hne]
  cases hD : allD 16 p
  · rw [if_pos rfl, if_neg (by simp [pcOk, hD])]
  · have hok : pcOk p = true := by simp [pcOk, hD]; omega
    have := pc_num p hb hok
    rw [if_neg (by decide), if_neg (by omega), if_pos hok]
    simp
theorem pc_minus (p : List Int) (hm : p.head? = some 45) : pcOk p = false := by
  cases p with
  | nil => simp at hm
  | cons c r =>
    simp at hm
    subst hm
    simp [pcOk, allD, isD, dv]

/-- what ShowUnit answers -/
def shoT : List Int → List Int
  | [] => []
  | x :: r => 44 :: (sh 16 x ++ shoT r)
def shoF (l : List Int) : List Int := (shoT l).drop 1
theorem shoT_snoc (l : List Int) (x : Int) : shoT (l ++ [x]) = shoT l ++ 44 :: sh 16 x := by
  induction l with
  | nil => simp [shoT]
  | cons y l ih => simp [shoT, ih]
theorem shoF_one (x : Int) : shoF [x] = sh 16 x := by simp [shoF, shoT]
theorem shoF_snoc (l : List Int) (x : Int) (h : l ≠ []) : shoF (l ++ [x]) = shoF l ++ (44 :: sh 16 x) := by
  cases l with
  | nil => exact absurd rfl h
  | cons y l => simp [shoF, shoT, shoT_snoc]
def cells (l : List Int) : Prop := ∀ x ∈ l, 0 ≤ x ∧ x < 4294967296
theorem shF_len16 (f : Nat) : ∀ (k : Nat) (n : Int), 0 ≤ n → n < 16 ^ (k + 1) → (shF 16 f n).length ≤ k + 1 := by
  induction f with
  | zero => intro k n _ _; simp [shF]
  | succ f ih =>
    intro k n h0 h1
    unfold shF
    split
    · simp
    · rename_i hn
      cases k with
      | zero => simp at h1; omega
      | succ k =>
        have := ih k (n / 16) (by omega) (by rw [Int.pow_succ] at h1; omega)
        simp
        omega
theorem sh16_len (n : Int) (h0 : 0 ≤ n) (h1 : n < 4294967296) : 1 ≤ (sh 16 n).length ∧ (sh 16 n).length ≤ 8 := by
  have h2 := (sh_all 16 n (by omega) (by omega) h0 h1).2.2.2
  have h3 := shF_len16 32 7 n h0 (by omega)
  unfold sh at *
  refine ⟨?_, h3⟩
  cases h : shF 16 32 n with
  | nil => exact absurd h h2
  | cons x r => simp
theorem sh16_not (n x : Int) (h0 : 0 ≤ n) (h1 : n < 4294967296) (hx : x ∈ sh 16 n) : ¬ x = 44 := by
  have h := (sh_all 16 n (by omega) (by omega) h0 h1).1
  unfold allD at h
  rw [List.all_eq_true] at h
  have := h x hx
  intro e
  subst e
  simp [isD, dv] at this
theorem sh16_bytes (n : Int) (h0 : 0 ≤ n) (h1 : n < 4294967296) : bytesL (sh 16 n) := fun x hx =>
  ⟨((sh_all 16 n (by omega) (by omega) h0 h1).2.2.1 x hx).1, ((sh_all 16 n (by omega) (by omega) h0 h1).2.2.1 x hx).2.1⟩
theorem shoT_bytes : ∀ l : List Int, cells l → bytesL (shoT l)
  | [], _ => fun x hx => by simp [shoT] at hx
  | y :: l, h => by
    intro x hx
    simp only [shoT, List.mem_cons, List.mem_append] at hx
    rcases hx with rfl | hx | hx
    · omega
    · exact sh16_bytes y (h y (by simp)).1 (h y (by simp)).2 x hx
    · exact shoT_bytes l (fun z hz => h z (by simp [hz])) x hx
theorem shoT_len : ∀ l : List Int, cells l → (shoT l).length ≤ 9 * l.length
  | [], _ => by simp [shoT]
  | y :: l, h => by
    have h1 := sh16_len y (h y (by simp)).1 (h y (by simp)).2
    have h2 := shoT_len l (fun z hz => h z (by simp [hz]))
    simp only [shoT, List.length_cons, List.length_append]
    omega
theorem shoF_bytes (l : List Int) (h : cells l) : bytesL (shoF l) := fun x hx => shoT_bytes l h x (List.mem_of_mem_drop hx)
theorem spl_sho : ∀ (l : List Int) (cur : List Int), cells l → spl 44 cur (shoT l) = cur :: l.map (sh 16)
  | [], cur, _ => by simp [shoT, spl]
  | y :: l, cur, h => by
    rw [shoT, spl, if_pos rfl, spl_skip 44 (sh 16 y) (shoT l) (fun x hx => sh16_not y x (h y (by simp)).1 (h y (by simp)).2 hx), List.nil_append, spl_sho l (sh 16 y) (fun z hz => h z (by simp [hz]))]
    rfl
theorem spl_shoF (l : List Int) (h : cells l) (hne : l ≠ []) : spl 44 [] (shoF l) = l.map (sh 16) := by
  cases l with
  | nil => exact absurd rfl hne
  | cons y l =>
    have e : shoF (y :: l) = sh 16 y ++ shoT l := by simp [shoF, shoT]
    rw [e, spl_skip 44 (sh 16 y) (shoT l) (fun x hx => sh16_not y x (h y (by simp)).1 (h y (by simp)).2 hx), List.nil_append, spl_sho l (sh 16 y) (fun z hz => h z (by simp [hz]))]
    rfl
theorem sh16_ok (n : Int) (h0 : 0 ≤ n) (h1 : n < 4294967296) : pcOk (sh 16 n) = true ∧ num 16 (sh 16 n) = n := by
  have h := sh_all 16 n (by omega) (by omega) h0 h1
  have hl := sh16_len n h0 h1
  refine ⟨?_, h.2.1⟩
  simp [pcOk, h.1]
  omega
/-- a unit address shown is parsed as itself -/
theorem pun_back (l : List Int) (h : cells l) : punF (shoF l) = if l = [] then ([], 15) else if 4 < l.length then ([], 3) else (l, 0) := by
  by_cases hne : l = []
  · subst hne
    simp [punF, shoF, shoT, spl, pcOk]
  · rw [if_neg hne]
    unfold punF
    rw [spl_shoF l h hne]
    have hall : (l.map (sh 16)).all pcOk = true := by
      rw [List.all_eq_true]
      intro p hp
      simp only [List.mem_map] at hp
      obtain ⟨n, hn, rfl⟩ := hp
      exact (sh16_ok n (h n hn).1 (h n hn).2).1
    rw [hall, if_neg (by decide), List.length_map]
    split
    · rfl
    · rw [List.map_map]
      have : l.map (num 16 ∘ sh 16) = l := by
        conv => rhs; rw [← List.map_id l]
        apply List.map_congr_left
        intro n hn
        exact (sh16_ok n (h n hn).1 (h n hn).2).2
      rw [this]

/-- what EncodeText and Join answer -/
def enTF (l : List Int) : List Int × Int := if l.all (fun c => decide (¬ c = 0)) = false then ([], 15) else if 256 ≤ l.length then ([], 3) else (l ++ [0], 0)
def joiF (ps : List (List Int)) : List Int × Int := if 256 < ps.flatten.length then ([], 3) else (ps.flatten, 0)
/-- what DecodeInt and DecodeText answer -/
def deIF (l : List Int) : Int × List Int × Int := if l.length < 4 then (0, [], 2) else (beV (l.take 4), l.drop 4, 0)
def deTF (l : List Int) : List Int × List Int × Int :=
  match spl 0 [] l with
  | p :: q :: r => (p, l.drop (p.length + 1), 0)
  | _ => ([], [], 2)
/-- what Ints and Texts answer -/
def intL : List Int → List Int
  | a :: b :: c :: d :: r => beV [a, b, c, d] :: intL r
  | _ => []
def intF (l : List Int) : List Int × Int := if l.length % 4 = 0 then (intL l, 0) else ([], 15)
def texL (cur : List Int) : List Int → Option (List (List Int))
  | [] => if cur = [] then some [] else none
  | c :: r => if c = 0 then (texL [] r).map (cur :: ·) else texL (cur ++ [c]) r
def texsF (l : List Int) : List (List Int) × Int := match texL [] l with
  | some ts => (ts, 0)
  | none => ([], 15)
theorem beV4 (n : Int) (h0 : 0 ≤ n) (h1 : n < 4294967296) : beV (beB 4 n) = n := by
  rw [beV_beB]
  exact Int.emod_eq_of_lt h0 (by omega)
theorem int_back : ∀ l : List Int, cells l → intL (l.map (beB 4)).flatten = l
  | [], _ => rfl
  | n :: l, h => by
    have hn := h n (by simp)
    have i := int_back l (fun x hx => h x (by simp [hx]))
    have e : beB 4 n = [n / 256 / 256 / 256 % 256, n / 256 / 256 % 256, n / 256 % 256, n % 256] := by simp [beB]
    have e2 := beV4 n hn.1 hn.2
    rw [e] at e2
    simp only [List.map_cons, List.flatten_cons]
    rw [e]
    show beV [n / 256 / 256 / 256 % 256, n / 256 / 256 % 256, n / 256 % 256, n % 256] :: intL (l.map (beB 4)).flatten = _
    rw [e2, i]
theorem enc_len : ∀ l : List Int, ((l.map (beB 4)).flatten).length = 4 * l.length
  | [] => rfl
  | n :: l => by
    simp only [List.map_cons, List.flatten_cons, List.length_append, beB_len, List.length_cons, enc_len l]
    omega
theorem intF_back (l : List Int) (h : cells l) : intF (l.map (beB 4)).flatten = (l, 0) := by
  unfold intF
  rw [enc_len, if_pos (by omega), int_back l h]
theorem texL_skip (p r : List Int) (h : ∀ x ∈ p, ¬ x = 0) : ∀ cur, texL cur (p ++ r) = texL (cur ++ p) r := by
  induction p with
  | nil => intro cur; simp
  | cons x p ih =>
    intro cur
    rw [List.cons_append, texL, if_neg (h x (by simp)), ih (fun y hy => h y (by simp [hy]))]
    simp
theorem tex_back : ∀ ts : List (List Int), (∀ t ∈ ts, ∀ x ∈ t, ¬ x = 0) → texL [] (ts.map (· ++ [0])).flatten = some ts
  | [], _ => rfl
  | t :: ts, h => by
    simp only [List.map_cons, List.flatten_cons, List.append_assoc]
    rw [texL_skip t _ (h t (by simp)), List.nil_append]
    show texL t (0 :: (ts.map (· ++ [0])).flatten) = _
    rw [texL, if_pos rfl, tex_back ts (fun u hu => h u (by simp [hu]))]
    rfl
theorem texsF_back (ts : List (List Int)) (h : ∀ t ∈ ts, ∀ x ∈ t, ¬ x = 0) : texsF (ts.map (· ++ [0])).flatten = (ts, 0) := by
  unfold texsF
  rw [tex_back ts h]

/-
  Paths of devices, as plain functions of lists of bytes: parsed, shown, and that each undoes the other. No Go text in sight.
-/
/-- a step: its name, its unit address, its arguments -/
abbrev Sp := List Int × List Int × List Int
/-- what stands ahead of the first c -/
def upTo (c : Int) : List Int → List Int
  | [] => []
  | x :: l => if x = c then [] else x :: upTo c l
theorem upTo_len (c : Int) (l : List Int) : (upTo c l).length ≤ l.length := by
  induction l with
  | nil => simp [upTo]
  | cons x l ih => simp only [upTo]; split <;> simp; omega
theorem upTo_take (c : Int) (l : List Int) : l.take (upTo c l).length = upTo c l := by
  induction l with
  | nil => simp [upTo]
  | cons x l ih => simp only [upTo]; split <;> simp [ih]
theorem upTo_free (c : Int) (l : List Int) : ∀ x ∈ upTo c l, ¬ x = c := by
  induction l with
  | nil => simp [upTo]
  | cons x l ih =>
    simp only [upTo]
    split
    · simp
    · rename_i h
      intro y hy
      simp at hy
      rcases hy with rfl | hy
      · exact h
      · exact ih y hy
theorem upTo_mem (c : Int) (l : List Int) : ∀ x ∈ upTo c l, x ∈ l := by
  intro x hx
  rw [← upTo_take c l] at hx
  exact List.mem_of_mem_take hx
theorem upTo_all (c : Int) (l : List Int) (h : ∀ x ∈ l, ¬ x = c) : upTo c l = l := by
  induction l with
  | nil => rfl
  | cons x l ih => rw [upTo, if_neg (h x (by simp)), ih (fun y hy => h y (by simp [hy]))]
theorem upTo_app (c : Int) (a b : List Int) (h : ∀ x ∈ a, ¬ x = c) : upTo c (a ++ c :: b) = a := by
  induction a with
  | nil => simp [upTo]
  | cons x a ih => rw [List.cons_append, upTo, if_neg (h x (by simp)), ih (fun y hy => h y (by simp [hy]))]
theorem upTo_split (c : Int) (l : List Int) (h : (upTo c l).length < l.length) : l = upTo c l ++ c :: l.drop ((upTo c l).length + 1) := by
  induction l with
  | nil => simp [upTo] at h
  | cons x l ih =>
    by_cases hx : x = c
    · subst hx; simp [upTo]
    · simp only [upTo, if_neg hx, List.length_cons] at h ⊢
      have := ih (by omega)
      simp only [List.cons_append, List.drop_succ_cons]
      rw [← this]

/-- a step's text parsed -/
def stepF (l : List Int) : Option Sp :=
  if (upTo 64 (upTo 58 l)).length < (upTo 58 l).length ∧ ¬ (punF ((upTo 58 l).drop ((upTo 64 (upTo 58 l)).length + 1))).2 = 0 then none
  else if nmF (upTo 64 (upTo 58 l)) = true then
    some (upTo 64 (upTo 58 l), if (upTo 64 (upTo 58 l)).length < (upTo 58 l).length then (punF ((upTo 58 l).drop ((upTo 64 (upTo 58 l)).length + 1))).1 else [], l.drop ((upTo 58 l).length + 1))
  else none
/-- all of them -/
def stepL : List (List Int) → Option (List Sp)
  | [] => some []
  | p :: r => match stepF p, stepL r with
    | some x, some l => some (x :: l)
    | _, _ => none
/-- what Parse answers -/
def parF (l : List Int) : List Sp × Int :=
  if 256 < l.length then ([], 3) else if l = [47] then ([], 0) else
  match l with
  | 47 :: r => (match stepL (spl 47 [] r) with
    | some x => (x, 0)
    | none => ([], 15))
  | _ => ([], 15)
/-- a step that can be shown, and its text -/
def okS (x : Sp) : Bool := nmF x.1 && (decide (x.2.1.length ≤ 4) && x.2.2.all (fun c => decide (¬ c = 47)))
def bodT (x : Sp) : List Int := x.1 ++ ((if x.2.1 = [] then [] else 64 :: shoF x.2.1) ++ (if x.2.2 = [] then [] else 58 :: x.2.2))
def shpT : List Sp → List Int
  | [] => []
  | x :: l => 47 :: (bodT x ++ shpT l)
/-- what Show answers -/
def shpF (l : List Sp) : List Int × Int := if l.all okS = false then ([], 1) else if l = [] then ([47], 0) else if 256 < (shpT l).length then ([], 3) else (shpT l, 0)

theorem nm_byte {l : List Int} (h : nmF l = true) : (∀ x ∈ l, ¬ x = 47 ∧ ¬ x = 58 ∧ ¬ x = 64) ∧ 1 ≤ l.length := by
  unfold nmF at h
  rw [Bool.and_eq_true, List.all_eq_true] at h
  refine ⟨fun x hx => ?_, ?_⟩
  · have := h.2 x hx
    unfold nmC at this
    simp at this
    omega
  · have := h.1
    simp at this
    omega
theorem sho_byte (l : List Int) (h : cells l) : ∀ x ∈ shoF l, ¬ x = 47 ∧ ¬ x = 58 ∧ ¬ x = 64 := by
  have key : ∀ l : List Int, cells l → ∀ x ∈ shoT l, ¬ x = 47 ∧ ¬ x = 58 ∧ ¬ x = 64 := by
    intro l
    induction l with
    | nil => intro _ x hx; simp [shoT] at hx
    | cons y l ih =>
      intro h x hx
      simp only [shoT, List.mem_cons, List.mem_append] at hx
      rcases hx with rfl | hx | hx
      · omega
      · have h2 := (sh_all 16 y (by omega) (by omega) (h y (by simp)).1 (h y (by simp)).2).1
        unfold allD at h2
        rw [List.all_eq_true] at h2
        have := h2 x hx
        unfold isD dv at this
        simp at this
        refine ⟨?_, ?_, ?_⟩ <;> (intro e; subst e; simp at this)
      · exact ih (fun z hz => h z (by simp [hz])) x hx
  exact fun x hx => key l h x (List.mem_of_mem_drop hx)
theorem ok_parts {x : Sp} (h : okS x = true) : nmF x.1 = true ∧ x.2.1.length ≤ 4 ∧ ∀ c ∈ x.2.2, ¬ c = 47 := by
  unfold okS at h
  rw [Bool.and_eq_true, Bool.and_eq_true, List.all_eq_true] at h
  refine ⟨h.1, by simpa using h.2.1, fun c hc => by simpa using h.2.2 c hc⟩
/-- a step that is shown is parsed as itself -/
theorem step_back (x : Sp) (h : okS x = true) (hc : cells x.2.1) : stepF (bodT x) = some x := by
  obtain ⟨hn, hu, ha⟩ := ok_parts h
  obtain ⟨nm, u, ar⟩ := x
  simp only at hn hu ha hc
  obtain ⟨hb, hl⟩ := nm_byte hn
  have hpre : upTo 58 (bodT (nm, u, ar)) = nm ++ (if u = [] then [] else 64 :: shoF u) ∧ (bodT (nm, u, ar)).drop ((nm ++ (if u = [] then [] else 64 :: shoF u)).length + 1) = ar := by
    have hfree : ∀ x ∈ nm ++ (if u = [] then [] else 64 :: shoF u), ¬ x = 58 := by
      intro x hx
      rcases List.mem_append.1 hx with hx | hx
      · exact (hb x hx).2.1
      · split at hx
        · simp at hx
        · simp only [List.mem_cons] at hx
          rcases hx with rfl | hx
          · omega
          · exact (sho_byte u hc x hx).2.1
    unfold bodT
    simp only
    by_cases har : ar = []
    · subst har
      simp only [if_true, List.append_nil]
      refine ⟨upTo_all 58 _ hfree, ?_⟩
      rw [List.drop_of_length_le (by omega)]
    · rw [if_neg har, ← List.append_assoc]
      refine ⟨upTo_app 58 _ ar hfree, ?_⟩
      rw [show (nm ++ if u = [] then [] else 64 :: shoF u) ++ 58 :: ar = ((nm ++ if u = [] then [] else 64 :: shoF u) ++ [58]) ++ ar by simp]
      rw [List.drop_left' (by simp; omega)]
  obtain ⟨hp1, hp2⟩ := hpre
  unfold stepF
  rw [hp1, hp2]
  by_cases hu0 : u = []
  · subst hu0
    simp only [if_true, List.append_nil]
    rw [upTo_all 64 nm (fun x hx => (hb x hx).2.2)]
    simp [hn]
  · simp only [if_neg hu0]
    rw [upTo_app 64 nm (shoF u) (fun x hx => (hb x hx).2.2)]
    have hd : (nm ++ 64 :: shoF u).drop (nm.length + 1) = shoF u := by
      rw [show nm ++ 64 :: shoF u = (nm ++ [64]) ++ shoF u by simp, List.drop_left' (by simp)]
    have hpb : punF (shoF u) = (u, 0) := by rw [pun_back u hc, if_neg hu0, if_neg (by omega)]
    rw [hd, hpb]
    simp [hn]
theorem bod_byte (x : Sp) (h : okS x = true) (hc : cells x.2.1) : ∀ c ∈ bodT x, ¬ c = 47 := by
  obtain ⟨hn, hu, ha⟩ := ok_parts h
  intro c hx
  unfold bodT at hx
  simp only [List.mem_append] at hx
  rcases hx with hx | hx | hx
  · exact ((nm_byte hn).1 c hx).1
  · split at hx
    · simp at hx
    · simp only [List.mem_cons] at hx
      rcases hx with rfl | hx
      · omega
      · exact (sho_byte _ hc c hx).1
  · split at hx
    · simp at hx
    · simp only [List.mem_cons] at hx
      rcases hx with rfl | hx
      · omega
      · exact ha c hx
theorem spl_shp (x : Sp) (l : List Sp) (h : ∀ y ∈ x :: l, okS y = true ∧ cells y.2.1) : spl 47 [] (bodT x ++ shpT l) = (x :: l).map bodT := by
  induction l generalizing x with
  | nil =>
    have h1 := h x (by simp)
    have := spl_skip 47 (bodT x) [] (bod_byte x h1.1 h1.2) []
    rw [List.nil_append] at this
    rw [shpT, this]
    rfl
  | cons y l ih =>
    have h1 := h x (by simp)
    rw [shpT, spl_skip 47 (bodT x) _ (bod_byte x h1.1 h1.2) [], List.nil_append, spl, if_pos rfl, ih y (fun z hz => h z (by simp at hz ⊢; exact Or.inr hz))]
    rfl
theorem stepL_back (l : List Sp) (h : ∀ y ∈ l, okS y = true ∧ cells y.2.1) : stepL (l.map bodT) = some l := by
  induction l with
  | nil => rfl
  | cons x l ih =>
    have h1 := h x (by simp)
    rw [List.map_cons, stepL, step_back x h1.1 h1.2, ih (fun z hz => h z (by simp [hz]))]
/-- a path that is shown is parsed as its steps -/
theorem par_back (l : List Sp) (h : l.all okS = true) (hc : ∀ x ∈ l, cells x.2.1) (hl : (shpT l).length ≤ 256) (hne : l ≠ []) : parF (shpT l) = (l, 0) := by
  cases l with
  | nil => exact absurd rfl hne
  | cons x l =>
    rw [List.all_eq_true] at h
    have hh : ∀ y ∈ x :: l, okS y = true ∧ cells y.2.1 := fun y hy => ⟨h y hy, hc y hy⟩
    have hn := (nm_byte (ok_parts (h x (by simp))).1).2
    unfold parF
    rw [if_neg (by omega), if_neg]
    · rw [shpT]
      simp only
      rw [spl_shp x l hh, stepL_back _ hh]
    · intro e
      have := congrArg List.length e
      simp only [shpT, bodT, List.length_cons, List.length_append, List.length_nil] at this
      omega
/-! what is parsed can be shown -/
theorem num_short (p : List Int) (hb : bytesL p) (h : pcOk p = true) : (sh 16 (num 16 p)).length ≤ p.length := by
  have hn := pc_num p hb h
  simp [pcOk] at h
  have h1 := num16_lt p hb h.2
  obtain ⟨k, hk⟩ : ∃ k, p.length = k + 1 := ⟨p.length - 1, by omega⟩
  rw [hk] at h1 ⊢
  exact shF_len16 32 k _ h1.1 h1.2
theorem pun_parts (l : List Int) (hb : bytesL l) (h : (punF l).2 = 0) : (spl 44 [] l).all pcOk = true ∧ (spl 44 [] l).length ≤ 4 ∧ (punF l).1 = (spl 44 [] l).map (num 16) := by
  unfold punF at h ⊢
  split at h
  · simp at h
  · rename_i h1
    split at h
    · simp at h
    · rename_i h2
      rw [if_neg h1, if_neg h2]
      exact ⟨by simpa using h1, by omega, rfl⟩
theorem spl_bytes (d : Int) : ∀ (l cur : List Int), bytesL l → bytesL cur → ∀ p ∈ spl d cur l, bytesL p
  | [], cur, _, h2, p, hp => by simp [spl] at hp; subst hp; exact h2
  | c :: r, cur, h1, h2, p, hp => by
    have hr : bytesL r := fun x hx => h1 x (by simp [hx])
    simp only [spl] at hp
    split at hp
    · simp only [List.mem_cons] at hp
      rcases hp with rfl | hp
      · exact h2
      · exact spl_bytes d r [] hr (fun x hx => by simp at hx) p hp
    · exact spl_bytes d r (cur ++ [c]) hr (fun x hx => by
        rcases List.mem_append.1 hx with hx | hx
        · exact h2 x hx
        · simp at hx; subst hx; exact h1 x (by simp)) p hp
theorem spl_free (d : Int) : ∀ (l cur : List Int), (∀ x ∈ cur, ¬ x = d) → ∀ p ∈ spl d cur l, ∀ x ∈ p, ¬ x = d
  | [], cur, h, p, hp => by simp [spl] at hp; subst hp; exact h
  | c :: r, cur, h, p, hp => by
    simp only [spl] at hp
    split at hp
    · simp only [List.mem_cons] at hp
      rcases hp with rfl | hp
      · exact h
      · exact spl_free d r [] (fun x hx => by simp at hx) p hp
    · rename_i hc
      exact spl_free d r (cur ++ [c]) (fun x hx => by
        rcases List.mem_append.1 hx with hx | hx
        · exact h x hx
        · simp at hx; subst hx; exact hc) p hp
/-- the letters of the pieces -/
def sumL : List (List Int) → Nat
  | [] => 0
  | p :: r => p.length + 1 + sumL r
theorem spl_sum (d : Int) : ∀ (l cur : List Int), sumL (spl d cur l) = cur.length + l.length + 1
  | [], cur => by simp [spl, sumL]
  | c :: r, cur => by
    simp only [spl]
    split
    · simp only [sumL, spl_sum d r [], List.length_nil, List.length_cons]; omega
    · rw [spl_sum d r (cur ++ [c])]; simp; omega
theorem sho_short : ∀ (ps : List (List Int)), (∀ p ∈ ps, bytesL p) → ps.all pcOk = true → (shoT (ps.map (num 16))).length ≤ sumL ps
  | [], _, _ => by simp [shoT, sumL]
  | p :: r, hb, h => by
    rw [List.all_cons, Bool.and_eq_true] at h
    have h1 := num_short p (hb p (by simp)) h.1
    have h2 := sho_short r (fun q hq => hb q (by simp [hq])) h.2
    simp only [List.map_cons, shoT, sumL, List.length_cons, List.length_append]
    omega
theorem pun_short (l : List Int) (hb : bytesL l) (h : (punF l).2 = 0) : cells (punF l).1 ∧ (punF l).1.length ≤ 4 ∧ (shoF (punF l).1).length ≤ l.length ∧ (punF l).1 ≠ [] := by
  obtain ⟨h1, h2, h3⟩ := pun_parts l hb h
  have hpb := spl_bytes 44 l [] hb (fun x hx => by simp at hx)
  have hs := spl_sum 44 l []
  have hsl := spl_len 44 l []
  rw [h3]
  refine ⟨?_, by simpa using h2, ?_, ?_⟩
  · intro x hx
    rw [List.mem_map] at hx
    obtain ⟨p, hp, rfl⟩ := hx
    rw [List.all_eq_true] at h1
    exact pc_num p (hpb p hp) (h1 p hp)
  · have := sho_short _ hpb h1
    unfold shoF
    rw [List.length_drop]
    simp at hs
    omega
  · intro e
    have := congrArg List.length e
    simp at this
    rw [this] at hsl
    simp at hsl
theorem step_ok7 (p : List Int) (x : Sp) (hb : bytesL p) (hf : ∀ c ∈ p, ¬ c = 47) (h : stepF p = some x) : okS x = true ∧ cells x.2.1 ∧ (bodT x).length ≤ p.length ∧ bytesL x.1 ∧ bytesL x.2.2 := by
  have hl1 := upTo_len 58 p
  have hl2 := upTo_len 64 (upTo 58 p)
  have hb1 : bytesL (upTo 58 p) := fun c hc => hb c (upTo_mem 58 p c hc)
  have hb2 : bytesL (upTo 64 (upTo 58 p)) := fun c hc => hb1 c (upTo_mem 64 _ c hc)
  have hb3 : bytesL (p.drop ((upTo 58 p).length + 1)) := fun c hc => hb c (List.mem_of_mem_drop hc)
  have hf3 : ∀ c ∈ p.drop ((upTo 58 p).length + 1), ¬ c = 47 := fun c hc => hf c (List.mem_of_mem_drop hc)
  have hl3 : (p.drop ((upTo 58 p).length + 1)).length = p.length - ((upTo 58 p).length + 1) := by simp
  unfold stepF at h
  split at h
  · cases h
  · rename_i h1
    split at h
    · rename_i h2
      have h := Option.some.inj h
      subst h
      by_cases hat : (upTo 64 (upTo 58 p)).length < (upTo 58 p).length
      · have hE : (punF ((upTo 58 p).drop ((upTo 64 (upTo 58 p)).length + 1))).2 = 0 := by
          by_cases e : (punF ((upTo 58 p).drop ((upTo 64 (upTo 58 p)).length + 1))).2 = 0
          · exact e
          · exact absurd ⟨hat, e⟩ h1
        obtain ⟨u1, u2, u3, u4⟩ := pun_short _ (fun c hc => hb1 c (List.mem_of_mem_drop hc)) hE
        have hl4 : ((upTo 58 p).drop ((upTo 64 (upTo 58 p)).length + 1)).length = (upTo 58 p).length - ((upTo 64 (upTo 58 p)).length + 1) := by simp
        refine ⟨?_, ?_, ?_, hb2, hb3⟩
        · unfold okS
          rw [Bool.and_eq_true, Bool.and_eq_true, List.all_eq_true]
          refine ⟨h2, ?_, fun c hc => by simpa using hf3 c hc⟩
          simp only [if_pos hat]
          simpa using u2
        · simp only [if_pos hat]; exact u1
        · unfold bodT
          simp only [if_pos hat, if_neg u4, List.length_append, List.length_cons]
          split
          · simp only [List.length_nil]; omega
          · rename_i hne
            have : 0 < (p.drop ((upTo 58 p).length + 1)).length := List.length_pos_iff.2 hne
            simp only [List.length_cons]
            omega
      · refine ⟨?_, ?_, ?_, hb2, hb3⟩
        · unfold okS
          rw [Bool.and_eq_true, Bool.and_eq_true, List.all_eq_true]
          refine ⟨h2, ?_, fun c hc => by simpa using hf3 c hc⟩
          simp only [if_neg hat]
          decide
        · simp only [if_neg hat]; intro c hc; simp at hc
        · unfold bodT
          simp only [if_neg hat, if_true, List.length_append, List.length_nil]
          split
          · simp only [List.length_nil]; omega
          · rename_i hne
            have : 0 < (p.drop ((upTo 58 p).length + 1)).length := List.length_pos_iff.2 hne
            simp only [List.length_cons]
            omega
    · cases h
theorem stepL_ok : ∀ (ps : List (List Int)) (l : List Sp), (∀ p ∈ ps, bytesL p ∧ ∀ c ∈ p, ¬ c = 47) → stepL ps = some l → (∀ x ∈ l, okS x = true ∧ cells x.2.1 ∧ bytesL x.1 ∧ bytesL x.2.2) ∧ (shpT l).length ≤ sumL ps ∧ l.length = ps.length
  | [], l, _, h => by simp [stepL] at h; subst h; simp [shpT, sumL]
  | p :: r, l, hp, h => by
    rw [stepL] at h
    split at h
    · rename_i x l' h1 h2
      have h := Option.some.inj h
      subst h
      have hx := step_ok7 p x (hp p (by simp)).1 (hp p (by simp)).2 h1
      obtain ⟨i1, i2, i3⟩ := stepL_ok r l' (fun q hq => hp q (by simp [hq])) h2
      refine ⟨fun y hy => ?_, ?_, by simp [i3]⟩
      · simp only [List.mem_cons] at hy
        rcases hy with rfl | hy
        · exact ⟨hx.1, hx.2.1, hx.2.2.2⟩
        · exact i1 y hy
      · have := hx.2.2.1
        simp only [shpT, sumL, List.length_cons, List.length_append]
        omega
    · cases h
/-- what is parsed is fit to be shown, and is no longer then -/
theorem par_ok (s : List Int) (hb : bytesL s) (h : (parF s).2 = 0) : (∀ x ∈ (parF s).1, okS x = true ∧ cells x.2.1 ∧ bytesL x.1 ∧ bytesL x.2.2) ∧ (shpT (parF s).1).length ≤ s.length ∧ s.length ≤ 256 ∧ ((parF s).1 = [] → s = [47]) := by
  unfold parF at h ⊢
  split at h
  · simp at h
  · rename_i h1
    rw [if_neg h1]
    split at h
    · rename_i h2
      rw [if_pos h2]
      exact ⟨fun x hx => by simp at hx, by simp [shpT], by omega, fun _ => h2⟩
    · rename_i h2
      rw [if_neg h2]
      split at h
      · rename_i r
        cases hs : stepL (spl 47 [] r) with
        | none => rw [hs] at h; simp at h
        | some l =>
          have hrb : bytesL r := fun x hx => hb x (by simp [hx])
          obtain ⟨i1, i2, i3⟩ := stepL_ok _ l (fun p hp => ⟨spl_bytes 47 r [] hrb (fun x hx => by simp at hx) p hp, spl_free 47 r [] (fun x hx => by simp at hx) p hp⟩) hs
          have hsm := spl_sum 47 r []
          have hsl := spl_len 47 r []
          simp only [hs]
          refine ⟨i1, ?_, by omega, fun e => ?_⟩
          · simp at hsm
            simp only [List.length_cons]
            omega
          · rw [e] at i3
            simp at i3
            omega
      · simp at h
theorem par_err (s : List Int) (h : (parF s).2 ≠ 0) : (parF s).1 = [] := by
  unfold parF at h ⊢
  split
  · rfl
  · rename_i h1
    rw [if_neg h1] at h
    split
    · rfl
    · rename_i h2
      rw [if_neg h2] at h
      split
      · rename_i r
        split
        · rename_i x hx
          simp [hx] at h
        · rfl
      · rfl
theorem par_long (s : List Int) : ((parF s).2 = 3) ↔ 256 < s.length := by
  unfold parF
  split
  · rename_i h; simp [h]
  · rename_i h
    constructor
    · intro e
      split at e
      · simp at e
      · split at e
        · split at e <;> simp at e
        · simp at e
    · intro e; exact absurd e h

/-
  The device tree as plain lists: when it is formed, and that adding a device, setting and dropping a property leave it formed. No Go text in sight.
-/
/-- a property: its name, its bytes -/
abbrev Pp := List Int × List Int
/-- a device: its name, its unit address, its parent, its properties, its cells -/
abbrev Nd := List Int × List Int × Int × List Pp × List Int
/-- the number of a property -/
def pfF (l : List Pp) (nm : List Int) : Option Nat := l.findIdx? (fun x => decide (x.1 = nm))
/-- such a child among these devices -/
def twF (t : List Nd) (p : Int) (nm un : List Int) : Bool := t.any (fun x => decide (x.2.2.1 = p) && (decide (x.1 = nm) && decide (x.2.1 = un)))
def okP (l : List Pp) (k : Nat) (x : Pp) : Bool := nmF x.1 && (decide (x.2.length ≤ 256) && (pfF (l.take k) x.1).isNone)
def okA (t : List Nd) (i : Nat) (x : Nd) : Bool := nmF x.1 && (decide (x.2.1.length ≤ 4) && (decide (0 ≤ x.2.2.1) && (decide (x.2.2.1 < i) && !twF (t.take i) x.2.2.1 x.1 x.2.1)))
/-- the properties are right -/
def okR (l : List Pp) : Bool := decide (∀ k (h : k < l.length), okP l k l[k] = true)
/-- the device x at place i is right -/
def okN (t : List Nd) (i : Nat) (x : Nd) : Bool := (decide (i = 0) || okA t i x) && (decide (x.2.2.2.1.length ≤ 16) && (decide (x.2.2.2.2.length ≤ 16) && okR x.2.2.2.1))
def rootF (x : Nd) : Bool := decide (x.1 = []) && (decide (x.2.1 = []) && decide (x.2.2.1 = -1))
/-- a formed tree -/
def frmT (t : List Nd) : Bool := decide (∃ h : 1 ≤ t.length, t.length ≤ 32 ∧ rootF t[0] = true ∧ ∀ i (h : i < t.length), okN t i t[i] = true)
theorem frm_iff (t : List Nd) : frmT t = true ↔ ∃ h : 1 ≤ t.length, t.length ≤ 32 ∧ rootF t[0] = true ∧ ∀ i (h : i < t.length), okN t i t[i] = true := by
  unfold frmT
  rw [decide_eq_true_eq]

/-! properties -/
theorem pf_some {l : List Pp} {nm : List Int} {k : Nat} (h : pfF l nm = some k) : ∃ g : k < l.length, l[k].1 = nm ∧ ∀ j (hj : j < k), ¬ (l[j]'(by omega)).1 = nm := by
  unfold pfF at h
  rw [List.findIdx?_eq_some_iff_getElem] at h
  obtain ⟨g, h1, h2⟩ := h
  exact ⟨g, by simpa using h1, fun j hj => by simpa using h2 j hj⟩
theorem pf_none {l : List Pp} {nm : List Int} : pfF l nm = none ↔ ∀ x ∈ l, ¬ x.1 = nm := by
  unfold pfF
  rw [List.findIdx?_eq_none_iff]
  simp
theorem pf_hit {l : List Pp} {nm : List Int} {k : Nat} (g : k < l.length) (h1 : l[k].1 = nm) (h2 : ∀ j (hj : j < k), ¬ (l[j]'(by omega)).1 = nm) : pfF l nm = some k := by
  unfold pfF
  rw [List.findIdx?_eq_some_iff_getElem]
  exact ⟨g, by simpa using h1, fun j hj => by simpa using h2 j hj⟩
/-- names are told apart -/
def apartN (l : List Pp) : Prop := ∀ i j (hi : i < l.length) (hj : j < l.length), i < j → ¬ l[i].1 = l[j].1
theorem okR_iff (l : List Pp) : okR l = true ↔ (∀ x ∈ l, nmF x.1 = true ∧ x.2.length ≤ 256) ∧ apartN l := by
  unfold okR
  rw [decide_eq_true_eq]
  constructor
  · intro h
    refine ⟨fun x hx => ?_, fun i j hi hj hij => ?_⟩
    · obtain ⟨k, hk, rfl⟩ := List.getElem_of_mem hx
      have := h k hk
      unfold okP at this
      simp only [Bool.and_eq_true, decide_eq_true_eq] at this
      exact ⟨this.1, this.2.1⟩
    · have := h j hj
      unfold okP at this
      simp only [Bool.and_eq_true, Option.isNone_iff_eq_none] at this
      have h3 := pf_none.1 this.2.2 l[i] (by rw [List.mem_take_iff_getElem]; exact ⟨i, by omega, rfl⟩)
      exact h3
  · rintro ⟨h1, h2⟩ k hk
    unfold okP
    have := h1 l[k] (List.getElem_mem hk)
    simp only [Bool.and_eq_true, Option.isNone_iff_eq_none, decide_eq_true_eq]
    refine ⟨this.1, this.2, pf_none.2 fun x hx => ?_⟩
    rw [List.mem_take_iff_getElem] at hx
    obtain ⟨i, hi, rfl⟩ := hx
    exact h2 i k (by omega) hk (by omega)
/-- a property set -/
def setP (l : List Pp) (nm d : List Int) : List Pp := match pfF l nm with
  | some k => l.set k (nm, d)
  | none => l ++ [(nm, d)]
/-- a property dropped -/
def drpP (l : List Pp) (k : Nat) : List Pp := l.take k ++ l.drop (k + 1)
theorem set_names (l : List Pp) (nm d : List Int) (k : Nat) (h : pfF l nm = some k) (i : Nat) (hi : i < (l.set k (nm, d)).length) : (l.set k (nm, d))[i].1 = (l[i]'(by simpa using hi)).1 := by
  obtain ⟨g, h1, _⟩ := pf_some h
  rw [List.getElem_set]
  split
  · rename_i e
    subst e
    exact h1.symm
  · rfl
theorem setP_ok (l : List Pp) (nm d : List Int) (h : okR l = true) (hn : nmF nm = true) (hd : d.length ≤ 256) : okR (setP l nm d) = true := by
  rw [okR_iff] at h ⊢
  obtain ⟨h1, h2⟩ := h
  unfold setP
  cases hp : pfF l nm with
  | some k =>
    refine ⟨fun x hx => ?_, fun i j hi hj hij => ?_⟩
    · rcases List.mem_or_eq_of_mem_set hx with hx | rfl
      · exact h1 x hx
      · exact ⟨hn, hd⟩
    · rw [set_names l nm d k hp i hi, set_names l nm d k hp j hj]
      exact h2 i j _ _ hij
  | none =>
    refine ⟨fun x hx => ?_, fun i j hi hj hij => ?_⟩
    · rcases List.mem_append.1 hx with hx | hx
      · exact h1 x hx
      · simp at hx; subst hx; exact ⟨hn, hd⟩
    · have hi2 : i < l.length := by simp at hj; omega
      rw [List.getElem_append_left hi2]
      by_cases hj2 : j < l.length
      · rw [List.getElem_append_left hj2]
        exact h2 i j hi2 hj2 hij
      · rw [List.getElem_append_right (by omega)]
        simp
        exact pf_none.1 hp _ (List.getElem_mem hi2)
theorem drp_get (l : List Pp) (k i : Nat) (hk : k < l.length) (hi : i < (drpP l k).length) : (drpP l k)[i] = l[if i < k then i else i + 1]'(by unfold drpP at hi; simp at hi; split <;> omega) := by
  unfold drpP at hi ⊢
  by_cases h : i < k
  · rw [List.getElem_append_left (by simp; omega)]
    simp [h]
  · rw [List.getElem_append_right (by simp; omega)]
    simp only [List.getElem_drop, List.length_take, if_neg h]
    congr 1
    omega
theorem drp_len (l : List Pp) (k : Nat) (hk : k < l.length) : (drpP l k).length = l.length - 1 := by unfold drpP; simp; omega
theorem drpP_ok (l : List Pp) (k : Nat) (h : okR l = true) (hk : k < l.length) : okR (drpP l k) = true := by
  rw [okR_iff] at h ⊢
  obtain ⟨h1, h2⟩ := h
  refine ⟨fun x hx => ?_, fun i j hi hj hij => ?_⟩
  · unfold drpP at hx
    rcases List.mem_append.1 hx with hx | hx
    · exact h1 x (List.mem_of_mem_take hx)
    · exact h1 x (List.mem_of_mem_drop hx)
  · rw [drp_get l k i hk hi, drp_get l k j hk hj]
    refine h2 _ _ _ _ ?_
    split <;> split <;> omega
theorem setP_len (l : List Pp) (nm d : List Int) (h : ¬ (pfF l nm = none ∧ 16 ≤ l.length)) (hl : l.length ≤ 16) : (setP l nm d).length ≤ 16 := by
  unfold setP
  cases hp : pfF l nm with
  | some k => simpa using hl
  | none =>
    have : ¬ 16 ≤ l.length := fun g => h ⟨hp, g⟩
    simp
    omega

/-! devices -/
/-- all but properties and cells -/
def keyN (x : Nd) : List Int × List Int × Int := (x.1, x.2.1, x.2.2.1)
theorem tw_key (t t' : List Nd) (h : t.map keyN = t'.map keyN) (p : Int) (nm un : List Int) : twF t p nm un = twF t' p nm un := by
  have e : ∀ t : List Nd, twF t p nm un = (t.map keyN).any (fun x => decide (x.2.2 = p) && (decide (x.1 = nm) && decide (x.2.1 = un))) := by
    intro t
    unfold twF
    rw [List.any_map]
    rfl
  rw [e, e, h]
theorem map_set_key (t : List Nd) (n : Nat) (x : Nd) (hn : n < t.length) (hk : keyN x = keyN t[n]) : (t.set n x).map keyN = t.map keyN := by
  rw [List.map_set, hk]
  apply List.ext_getElem
  · simp
  · intro i h1 h2
    rw [List.getElem_set]
    split
    · rename_i e
      subst e
      simp
    · rfl
theorem okA_key (t t' : List Nd) (h : t.map keyN = t'.map keyN) (i : Nat) (x x' : Nd) (hx : keyN x = keyN x') : okA t i x = okA t' i x' := by
  unfold keyN at hx
  obtain ⟨e1, e2, e3⟩ : x.1 = x'.1 ∧ x.2.1 = x'.2.1 ∧ x.2.2.1 = x'.2.2.1 := ⟨(Prod.mk.inj hx).1, (Prod.mk.inj (Prod.mk.inj hx).2).1, (Prod.mk.inj (Prod.mk.inj hx).2).2⟩
  unfold okA
  rw [e1, e2, e3, tw_key (t.take i) (t'.take i) (by rw [List.map_take, List.map_take, h])]
/-- a device's properties changed: formed as before -/
theorem frm_set (t : List Nd) (n : Nat) (l : List Pp) (hf : frmT t = true) (hn : n < t.length) (h1 : l.length ≤ 16) (h2 : okR l = true) : frmT (t.set n (t[n].1, t[n].2.1, t[n].2.2.1, l, t[n].2.2.2.2)) = true := by
  rw [frm_iff] at hf ⊢
  obtain ⟨g0, g1, g2, g3⟩ := hf
  have hk : (t.set n (t[n].1, t[n].2.1, t[n].2.2.1, l, t[n].2.2.2.2)).map keyN = t.map keyN := map_set_key t n _ hn rfl
  refine ⟨by simpa using g0, by simpa using g1, ?_, fun i hi => ?_⟩
  · rw [List.getElem_set]
    split
    · rename_i e
      subst e
      unfold rootF at g2 ⊢
      exact g2
    · exact g2
  · have hi2 : i < t.length := by simpa using hi
    have h3 := g3 i hi2
    rw [List.getElem_set]
    split
    · rename_i e
      subst e
      unfold okN at h3 ⊢
      simp only [Bool.and_eq_true, decide_eq_true_eq] at h3 ⊢
      rw [okA_key _ t hk n (t[n].1, t[n].2.1, t[n].2.2.1, l, t[n].2.2.2.2) t[n] rfl]
      exact ⟨h3.1, h1, h3.2.2.1, h2⟩
    · unfold okN at h3 ⊢
      rw [okA_key _ t hk i t[i] t[i] rfl]
      exact h3
/-- what Add answers -/
def addF (t : List Nd) (p : Int) (nm un : List Int) : List Nd × Int × Int :=
  if frmT t = false then ([], 0, 1) else if p < 0 ∨ (t.length : Int) ≤ p then ([], 0, 19) else if nmF nm = false ∨ 4 < un.length then ([], 0, 1)
  else if twF t p nm un = true then ([], 0, 20) else if 32 ≤ t.length then ([], 0, 22) else (t ++ [(nm, un, p, [], [])], t.length, 0)
theorem add_formed (t : List Nd) (p : Int) (nm un : List Int) (h : (addF t p nm un).2.2 = 0) : frmT (addF t p nm un).1 = true := by
  unfold addF at h ⊢
  split at h
  · simp at h
  · rename_i c1
    split at h
    · simp at h
    · rename_i c2
      split at h
      · simp at h
      · rename_i c3
        split at h
        · simp at h
        · rename_i c4
          split at h
          · simp at h
          · rename_i c5
            rw [if_neg c1, if_neg c2, if_neg c3, if_neg c4, if_neg c5]
            have hf : frmT t = true := by simpa using c1
            rw [frm_iff] at hf ⊢
            obtain ⟨g0, g1, g2, g3⟩ := hf
            refine ⟨by simp, by simp; omega, ?_, fun i hi => ?_⟩
            · rw [List.getElem_append_left g0]
              exact g2
            · by_cases hi2 : i < t.length
              · rw [List.getElem_append_left hi2]
                have h3 := g3 i hi2
                unfold okN okA at h3 ⊢
                rw [List.take_append_of_le_length (by omega)]
                exact h3
              · have e : i = t.length := by simp at hi; omega
                subst e
                rw [List.getElem_append_right (Nat.le_refl _)]
                simp only [Nat.sub_self, List.getElem_cons_zero]
                unfold okN okA
                rw [List.take_left']
                · have c3' : nmF nm = true ∧ un.length ≤ 4 := by
                    constructor
                    · cases hq : nmF nm
                      · exact absurd (Or.inl hq) c3
                      · rfl
                    · by_cases g : 4 < un.length
                      · exact absurd (Or.inr g) c3
                      · omega
                  have c4' : twF t p nm un = false := by simpa using c4
                  simp only [c3'.1, c4', Bool.and_eq_true, Bool.or_eq_true, decide_eq_true_eq]
                  refine ⟨Or.inr ⟨trivial, c3'.2, by omega, by omega, by simp⟩, by simp, by simp, by decide⟩
                · rfl

/-
  Slices of anything that is read: the rows of cells that a slice value has in a world, and what they read as. No Go text in sight.
-/
/-- the slice value v has these rows, of sz cells each -/
def SlC (sz : Nat) (w : World) (v : Value) (rows : List (List Value)) : Prop :=
  (∃ ao cap, v = .slice ao 0 cap ∧ (ao = none → cap = 0) ∧ rows = []) ∨
  ∃ b off cap, v = .slice (some ⟨b, off, none⟩) rows.length cap ∧ 0 < rows.length ∧ rows.length ≤ cap ∧ cap ≤ maxLen ∧
    ∀ i, i < rows.length → (rows.getD i []).length = sz ∧ ∀ j, j < sz → w.cell? ⟨b, off + i * sz + j, none⟩ = (rows.getD i [])[j]?
theorem SlC.below {sz : Nat} {w w' : World} {v : Value} {rows : List (List Value)} (h : SlC sz w v rows) (g : Below w.heap.size w w') : SlC sz w' v rows := by
  rcases h with h | ⟨b, off, cap, rfl, h0, h1, h2, hc⟩
  · exact Or.inl h
  · refine Or.inr ⟨b, off, cap, rfl, h0, h1, h2, fun i hi => ⟨(hc i hi).1, fun j hj => ?_⟩⟩
    have hl := (hc i hi).1
    have e := (hc i hi).2 j hj
    rw [List.getElem?_eq_getElem (by omega)] at e ⊢
    exact below_cell g e
theorem SlC.form {sz : Nat} {w : World} {v : Value} {rows : List (List Value)} (h : SlC sz w v rows) : ∃ ao cap, v = .slice ao rows.length cap ∧ rows.length ≤ cap ∧ (ao = none → cap = 0) ∧
    (0 < rows.length → cap ≤ maxLen ∧ ∃ b off, ao = some ⟨b, off, none⟩ ∧ ∀ i, i < rows.length → (rows.getD i []).length = sz ∧ ∀ j, j < sz → w.cell? ⟨b, off + i * sz + j, none⟩ = (rows.getD i [])[j]?) := by
  rcases h with ⟨ao, cap, rfl, h1, rfl⟩ | ⟨b, off, cap, rfl, h0, h1, h2, hc⟩
  · exact ⟨ao, cap, rfl, Nat.zero_le _, h1, fun h => by simp at h⟩
  · exact ⟨_, cap, rfl, h1, (fun h => by cases h), fun _ => ⟨h2, b, off, rfl, hc⟩⟩
/-- the slice value v reads as the list xs, each of its rows as R says -/
def SlR {α : Type} (sz : Nat) (R : World → List Value → α → Prop) (w : World) (v : Value) (xs : List α) : Prop :=
  ∃ rows, SlC sz w v rows ∧ rows.length = xs.length ∧ ∀ i (h : i < xs.length), R w (rows.getD i []) xs[i]
theorem SlR.below {α : Type} {sz : Nat} {R : World → List Value → α → Prop} {w w' : World} {v : Value} {xs : List α} (h : SlR sz R w v xs) (g : Below w.heap.size w w') (hR : ∀ cs x, R w cs x → R w' cs x) : SlR sz R w' v xs := by
  obtain ⟨rows, h1, h2, h3⟩ := h
  exact ⟨rows, h1.below g, h2, fun i hi => hR _ _ (h3 i hi)⟩
theorem SlR.nil {α : Type} {sz : Nat} {R : World → List Value → α → Prop} {w : World} : SlR sz R w (.slice none 0 0) ([] : List α) :=
  ⟨[], Or.inl ⟨none, 0, rfl, fun _ => rfl, rfl⟩, rfl, fun i h => by simp at h⟩
theorem slr_len {α : Type} {P : Program} {sz : Nat} {R : World → List Value → α → Prop} {w : World} {v : Value} {xs : List α} (h : SlR sz R w v xs) {t e : TypeId} (ht : P.underlying t = some (.slice e)) (ty : TypeId) (w' : World) :
    (Builtin.len_ #[t] ty #[v]).run P w' = .ok (.int .i64 xs.length) w' := by
  obtain ⟨rows, h1, h2, h3⟩ := h
  obtain ⟨ao, cap, rfl, _⟩ := h1.form
  simp [Builtin.len_, run_underlying ht, goInt, h2]
theorem slr_max {α : Type} {sz : Nat} {R : World → List Value → α → Prop} {w : World} {v : Value} {xs : List α} (h : SlR sz R w v xs) : xs.length ≤ maxLen := by
  obtain ⟨rows, h1, h2, h3⟩ := h
  rcases h1 with ⟨ao, cap, rfl, _, rfl⟩ | ⟨b, off, cap, rfl, h0, h1, h2', hc⟩
  · simp at h2; omega
  · omega
/-- an element of one cell: its address' rule, its cell, what it reads as -/
theorem slr_idx {α : Type} {P : Program} {R : World → List Value → α → Prop} {w : World} {v : Value} {xs : List α} (h : SlR 1 R w v xs) {t : TypeId} (ht : P.underlying t = some (.slice (P.elem t))) (hs : ∀ w, (sizeOf (P.elem t)).run P w = .ok 1 w) (i : Int) (h0 : 0 ≤ i) (h1 : i < xs.length) :
    ∃ (a : Addr) (c : Value), (∀ w', (Instr.indexAt t v (.int .i64 i)).run P w' = .ok (.pointer (some a)) w') ∧ w.cell? a = some c ∧ R w [c] (xs[i.toNat]'(by omega)) := by
  obtain ⟨rows, g1, g2, g3⟩ := h
  obtain ⟨ao, cap, rfl, hc, hn, hx⟩ := g1.form
  obtain ⟨hm, b, off, rfl, hcell⟩ := hx (by omega)
  have hi : i.toNat < rows.length := by omega
  obtain ⟨l1, l2⟩ := hcell i.toNat hi
  have e := l2 0 (by omega)
  have hr := g3 i.toNat (by omega)
  match hrow : rows.getD i.toNat [], l1 with
  | [c], _ =>
    rw [hrow] at e hr
    refine ⟨⟨b, off + i.toNat, none⟩, c, fun w' => ?_, by simpa using e, hr⟩
    rw [run_indexAt_slice (h := ht), if_pos ⟨h0, by omega⟩, hs]
    simp only [Result.andThen, Nat.mul_one]
    congr 3
    unfold Addr.add
    split
    · rename_i hz; rw [hz]; rfl
    · rfl
/-- what the call has built, one cell an element -/
theorem slr_own {α : Type} {R : World → List Value → α → Prop} {w : World} {base : Nat} {e : TypeId} {v : Value} {n : Nat} {cs : List Value} {xs : List α} (h : w.ownsRow base e 1 v n cs) (hl : cs.length = xs.length) (hR : ∀ i (h : i < xs.length), R w [cs[i]'(by omega)] xs[i]) : SlR 1 R w v xs := by
  obtain ⟨hl2, h⟩ := h
  have hn : n = cs.length := by omega
  refine ⟨cs.map (fun c => [c]), ?_, by simp [hl], fun i hi => by simpa [List.getD_eq_getElem?_getD, List.getElem?_eq_getElem (show i < cs.length by omega)] using hR i hi⟩
  rcases h with ⟨rfl, h0⟩ | ⟨g, cap, cur, rfl, hb, hg, hc, hm, hs, ht⟩
  · have : cs = [] := List.eq_nil_of_length_eq_zero (by omega)
    subst this
    exact Or.inl ⟨none, 0, rfl, fun _ => rfl, rfl⟩
  · rcases Nat.eq_zero_or_pos cs.length with h0 | h0
    · have : cs = [] := List.eq_nil_of_length_eq_zero h0
      subst this
      exact Or.inl ⟨_, _, by rw [hn]; rfl, (fun h => by cases h), rfl⟩
    · refine Or.inr ⟨g, 0, cap, by simp [hn], by simpa using h0, by simp; omega, hm, fun i hi => ?_⟩
      have hi2 : i < cs.length := by simpa using hi
      have e1 : (cs.map (fun c => [c])).getD i [] = [cs[i]] := by simp [List.getD_eq_getElem?_getD, List.getElem?_eq_getElem hi2]
      rw [e1]
      refine ⟨rfl, fun j hj => ?_⟩
      obtain rfl : j = 0 := by omega
      have e2 : (cur.toList.take (n * 1))[i]? = some cs[i] := by rw [ht, List.getElem?_eq_getElem hi2]
      rw [List.getElem?_take] at e2
      split at e2
      · simp [World.cell?, hg]
        simpa using e2
      · cases e2

/-- a slice value's length, for measures -/
def lenOf : Value → Nat | .slice _ n _ => n | _ => 0
theorem rd_lenOf {k : IntKind} {w : World} {v : Value} {xs : List Int} (h : Rd k w v xs) : lenOf v = xs.length := by
  obtain ⟨ao, cap, rfl, _⟩ := rd_form h
  rfl

/-- a slice that came in: its rows, each of which reads as something of the element's type -/
theorem slc_open {H : Type} {enc : TypeId × Value → H} {P : Program} {W : World} {t e : TypeId} {a : Option Addr} {len cap : Nat} {d : DataW H} {ps : List MemPlace} {sz fuel : Nat}
    (ht : P.underlying t = some (.slice e)) (hc : P.cellsOf e = sz) (hsz : 0 < sz) (h : DataW.trod enc P W 0 (fun _ => true) true fuel t [.slice a len cap] = some (d, ps)) :
    ∃ rows : List (List Value), SlC sz W (.slice a len cap) rows ∧ rows.length = len ∧ (d = .nil ∧ rows = [] ∨ ∃ ds zs, d = .slice ds zs ∧ ds.length = rows.length ∧
      ∀ i, i < rows.length → ∃ n y, DataW.trod enc P W 0 (fun _ => true) true n e (rows.getD i []) = some y ∧ ds[i]? = some y.1) := by
  rcases DataW.trod_slice ht h with ⟨h0, hx⟩ | ⟨x, l, c, elems, rest, n, _, hcs, hx, hb, hl, hm, hlen, hel, hsp, hns⟩
  · simp at h0 hx
    obtain ⟨rfl, rfl, rfl⟩ := h0
    exact ⟨[], Or.inl ⟨none, 0, rfl, fun _ => rfl, rfl⟩, rfl, Or.inl ⟨hx.1, rfl⟩⟩
  · simp at hcs
    obtain ⟨rfl, rfl, rfl⟩ := hcs
    rw [hc] at hel
    have each : ∀ i, i < len → ∃ cs y, W.cells? 0 (x.add (i * sz)) sz = some cs ∧ DataW.trod enc P W 0 (fun _ => true) true n e cs = some y ∧ elems[i]? = some y := by
      intro i hi
      have e1 := hel i hi
      rw [List.getElem?_eq_getElem (by omega)] at e1
      obtain ⟨cs, h1, h2⟩ := Option.bind_eq_some_iff.1 e1
      exact ⟨cs, _, h1, h2, List.getElem?_eq_getElem (by omega)⟩
    refine ⟨(List.range len).map (fun i => ((W.cells? 0 (x.add (i * sz)) sz).getD [])), ?_, by simp, Or.inr ⟨_, _, (Prod.mk.inj hx).1, by simp [hlen], fun i hi => ?_⟩⟩
    · rcases Nat.eq_zero_or_pos len with h0 | h0
      · subst h0
        exact Or.inl ⟨some x, cap, rfl, (fun h => by cases h), rfl⟩
      · obtain ⟨b, off, spot⟩ := x
        have hspot : spot = none := by
          obtain ⟨cs, y, h1, _, _⟩ := each 0 h0
          obtain ⟨_, g1, g2⟩ := World.cells?_some h1
          have g3 := g2 0 hsz
          rw [List.getElem?_eq_getElem (by omega)] at g3
          simpa [Addr.add] using World.cell?_spot g3
        subst hspot
        refine Or.inr ⟨b, off, cap, by simp, by simpa using h0, by simpa using hl, hm, fun i hi => ?_⟩
        have hi2 : i < len := by simpa using hi
        obtain ⟨cs, y, h1, _, _⟩ := each i hi2
        have e1 : ((List.range len).map (fun i => ((W.cells? 0 ((⟨b, off, none⟩ : Addr).add (i * sz)) sz).getD []))).getD i [] = cs := by
          simp [List.getD_eq_getElem?_getD, List.getElem?_range, hi2, h1]
        rw [e1]
        obtain ⟨_, g1, g2⟩ := World.cells?_some h1
        refine ⟨g1, fun j hj => ?_⟩
        rw [← g2 j hj]
        congr 1
        unfold Addr.add
        split
        · rename_i hz
          split
          · rename_i hz2; simp [hz, hz2]
          · simp [hz]
        · split
          · rename_i hz2; simp [hz2]
          · simp
    · have hi2 : i < len := by simpa using hi
      obtain ⟨cs, y, h1, h2, h3⟩ := each i hi2
      refine ⟨n, y, ?_, by rw [List.getElem?_map, h3]; rfl⟩
      have e1 : ((List.range len).map (fun i => ((W.cells? 0 (x.add (i * sz)) sz).getD []))).getD i [] = cs := by
        simp [List.getD_eq_getElem?_getD, List.getElem?_range, hi2, h1]
      rw [e1]
      exact h2

/-- texts -/
def strR (_ : World) (cs : List Value) (s : ByteArray) : Prop := cs = [.string s] ∧ s.size ≤ maxLen
/-- slices of bytes -/
def bytR (w : World) (cs : List Value) (xs : List Int) : Prop := ∃ v, cs = [v] ∧ Rd .u8 w v xs ∧ bytesL xs
theorem bytR_below {w w' : World} (g : Below w.heap.size w w') (cs : List Value) (xs : List Int) (h : bytR w cs xs) : bytR w' cs xs := by
  obtain ⟨v, h1, h2, h3⟩ := h
  exact ⟨v, h1, h2.below g, h3⟩
theorem wf_bytes {xs : List Int} (h : ∀ n ∈ xs, (Lit.int .u8 n).wf = true) : bytesL xs := by
  intro x hx
  have := h x hx
  simp [Lit.wf, IntKind.min, IntKind.max, IntKind.bits, IntKind.signed] at this
  omega
/-- from rows that each read as something to the list of what they read as -/
theorem choose_list {α β : Type} (rows : List β) (p : β → α → Prop) (h : ∀ r ∈ rows, ∃ x, p r x) : ∃ xs : List α, xs.length = rows.length ∧ ∀ i (h : i < rows.length) (g : i < xs.length), p rows[i] xs[i] := by
  induction rows with
  | nil => exact ⟨[], rfl, fun i h => by simp at h⟩
  | cons r rs ih =>
    obtain ⟨x, hx⟩ := h r (by simp)
    obtain ⟨xs, h1, h2⟩ := ih (fun r' hr => h r' (by simp [hr]))
    refine ⟨x :: xs, by simp [h1], fun i hi hg => ?_⟩
    cases i with
    | zero => exact hx
    | succ i => exact h2 i (by simpa using hi) (by simpa using hg)
theorem str_open {H : Type} {enc : TypeId × Value → H} {P : Program} {W : World} {t e : TypeId} {a : Option Addr} {len cap : Nat} {d : DataW H} {ps : List MemPlace}
    (ht : P.underlying t = some (.slice e)) (he : P.underlying e = some .string) (hc : P.cellsOf e = 1) (h : DataW.Trod enc P W 0 (fun _ => true) true t (.slice a len cap) d ps) :
    ∃ xs : List ByteArray, SlR 1 strR W (.slice a len cap) xs := by
  obtain ⟨fuel, hf⟩ := h
  obtain ⟨rows, h1, h2, h3⟩ := slc_open ht hc (by omega) (show DataW.trod enc P W 0 (fun _ => true) true fuel t [.slice a len cap] = some (d, ps) from hf)
  obtain ⟨xs, hx1, hx2⟩ := choose_list rows (fun r (s : ByteArray) => strR W r s) (fun r hr => by
    obtain ⟨i, hi, rfl⟩ := List.getElem_of_mem hr
    rcases h3 with ⟨_, rfl⟩ | ⟨ds, zs, _, _, h3⟩
    · simp at hi
    · obtain ⟨n, y, g, _⟩ := h3 i hi
      rw [List.getD_eq_getElem?_getD, List.getElem?_eq_getElem hi] at g
      obtain ⟨s, g1, _, g3⟩ := DataW.trod_string he g
      exact ⟨s, g1, g3⟩)
  refine ⟨xs, rows, h1, hx1.symm, fun i hi => ?_⟩
  rw [List.getD_eq_getElem?_getD, List.getElem?_eq_getElem (by omega)]
  exact hx2 i (by omega) hi
theorem byt_open {H : Type} {enc : TypeId × Value → H} {P : Program} {W : World} {t e b : TypeId} {a : Option Addr} {len cap : Nat} {d : DataW H} {ps : List MemPlace}
    (ht : P.underlying t = some (.slice e)) (he : P.underlying e = some (.slice b)) (hb : P.underlying b = some (.int .u8)) (hc : P.cellsOf e = 1) (hcb : P.cellsOf b = 1) (h : DataW.Trod enc P W 0 (fun _ => true) true t (.slice a len cap) d ps) :
    ∃ xs : List (List Int), SlR 1 bytR W (.slice a len cap) xs := by
  obtain ⟨fuel, hf⟩ := h
  obtain ⟨rows, h1, h2, h3⟩ := slc_open ht hc (by omega) (show DataW.trod enc P W 0 (fun _ => true) true fuel t [.slice a len cap] = some (d, ps) from hf)
  obtain ⟨xs, hx1, hx2⟩ := choose_list rows (fun r (s : List Int) => bytR W r s) (fun r hr => by
    obtain ⟨i, hi, rfl⟩ := List.getElem_of_mem hr
    rcases h3 with ⟨_, rfl⟩ | ⟨ds, zs, _, _, h3⟩
    · simp at hi
    · obtain ⟨n, y, g, _⟩ := h3 i hi
      rw [List.getD_eq_getElem?_getD, List.getElem?_eq_getElem hi] at g
      have g' : ∃ x l c, rows[i] = [.slice x l c] := by
        rcases DataW.trod_slice he g with ⟨h0, _⟩ | ⟨x, l, c, _, _, _, _, h0, _⟩
        · exact ⟨none, 0, 0, h0⟩
        · exact ⟨some x, l, c, h0⟩
      obtain ⟨x, l, c, g'⟩ := g'
      simp only [Option.getD_some] at g
      rw [g'] at g ⊢
      obtain ⟨zs, k1, k2, _⟩ := rd_open (k := .u8) (W := W) (a := x) (len := l) (cap := c) he hb hcb ⟨n, g⟩
      exact ⟨zs, _, rfl, k1, wf_bytes k2⟩)
  refine ⟨xs, rows, h1, hx1.symm, fun i hi => ?_⟩
  rw [List.getD_eq_getElem?_getD, List.getElem?_eq_getElem (by omega)]
  exact hx2 i (by omega) hi

/-
  Rows of structs: appended to a row of the call's own, and read from it. No Go text in sight.
-/
/-- append of one row of cells onto a row of the call's own -/
theorem wpList_append_row {P : Program} {w : World} {ops : Array Oper} {rest : List Oper} {o : Oper} {a : Act} {Q : Exit → Act → World → Prop} (hgd : o.guard = none) (s x : Operand) (t : TypeId)
    (ho : o.op = .call { callee := .builtin .append, args := #[s, x], argTypes := #[t, t] })
    (base : Nat) (e : TypeId) (i : TypeInfo) (z : Value) (sz bytes : Nat) (ht : P.underlying t = some (.slice e)) (hi : P.info? e = some i) (hz : i.zero = some z) (hsize : i.size = sz) (hby : i.bytes = bytes) (hzs : z.cells.size = sz) (hsz : 0 < sz)
    (v : Value) (n : Nat) (cs : List Value) (hs : a.eval s = v) (hown : w.ownsRow base e sz v n cs)
    (b : Nat) (row : List Value) (hx : a.eval x = .slice (some ⟨b, 0, none⟩) 1 1) (hl : row.length = sz) (hc : ∀ j u, row[j]? = some u → w.cell? ⟨b, j, none⟩ = some u) (h1 : ∀ u ∈ row, u.oneCell' = true)
    (h63 : n + 1 ≤ maxLen) (hbytes : (n + 1) * bytes ≤ 140737488355328) (hbase : base ≤ w.heap.size)
    (h : ∀ v' w', w'.ownsRow base e sz v' (n + 1) (cs ++ row) → w.grownBy w' v.ownBlock → wpList P ops Q rest (a.put o.dst v') w') : wpList P ops Q (o :: rest) a w := by
  refine wpList_plain hgd fun _ hK => ?_
  refine wp_append_own w s x t ho base e i z sz bytes ht hi hz hsize hby hzs hsz v n cs hs hown ⟨b, 0, none⟩ 1 1 row hx (by omega) ?_ h1 h63 hbytes hbase ?_
  · intro j u hj
    have := hc j u hj
    by_cases hz : j = 0
    · subst hz; simpa [Addr.add] using this
    · simpa [Addr.add, hz] using this
  · intro v' w' h2 h3 _
    exact hK _ _ (h v' w' h2 h3)
/-- append of a slice that is read, as one step of a region that draws its order -/
theorem step_append_rd {P : Program} {ops : Array Oper} {w : World} {k : IntKind} {o : Oper} {a : Act} {K : Act → World → Prop} {Q : Exit → Act → World → Prop} {E : Prop} (hgd : o.guard = none) (s x : Operand) (t : TypeId)
    (ho : o.op = .call { callee := .builtin .append, args := #[s, x], argTypes := #[t, t] })
    (base : Nat) (e : TypeId) (i : TypeInfo) (bytes : Nat) (ht : P.underlying t = some (.slice e)) (hi : P.info? e = some i) (hz : i.zero = some (.int k 0)) (hsize : i.size = 1) (hby : i.bytes = bytes)
    (v : Value) (ys : List Int) (hs : a.eval s = v) (hown : w.ownsRow base e 1 v ys.length (ys.map (Value.int k)))
    (vx : Value) (xs : List Int) (hx : a.eval x = vx) (hr : Rd k w vx xs)
    (h63 : ys.length + xs.length ≤ maxLen) (hbytes : (ys.length + xs.length) * bytes ≤ 140737488355328) (hbase : base ≤ w.heap.size)
    (h : ∀ v' w', w'.ownsRow base e 1 v' (ys ++ xs).length ((ys ++ xs).map (Value.int k)) → w.grownBy w' v.ownBlock → K (a.put o.dst v') w') :
    if Region.wanted o (yielded ops a.tmps) = true then Oper.wp P o a w K Q else E := by
  rw [if_pos (by simp [Region.wanted, hgd])]
  exact wp_append_rd s x t ho base e i bytes ht hi hz hsize hby v ys hs hown vx xs hx hr h63 hbytes hbase h
/-- a block that was laid of a row -/
theorem alloc_row (w : World) (row : List Value) (T : TypeId) : ∀ j u, row[j]? = some u → (w.alloc (.cells row.toArray T)).cell? ⟨w.heap.size, j, none⟩ = some u := by
  intro j u h
  rw [World.cell?_alloc_new]
  simpa using h
theorem alloc_rowS (w : World) (a : Addr) (v : Value) (row : List Value) (T : TypeId) : ∀ j u, row[j]? = some u → ((w.setCell a v).alloc (.cells row.toArray T)).cell? ⟨w.heap.size, j, none⟩ = some u := by
  intro j u h
  have := alloc_row (w.setCell a v) row T j u h
  rwa [show (w.setCell a v).heap.size = w.heap.size by simp [World.setCell]] at this
theorem alloc_rowSS (w : World) (a b : Addr) (v u' : Value) (row : List Value) (T : TypeId) : ∀ j u, row[j]? = some u → (((w.setCell a v).setCell b u').alloc (.cells row.toArray T)).cell? ⟨w.heap.size, j, none⟩ = some u := by
  intro j u h
  have := alloc_row ((w.setCell a v).setCell b u') row T j u h
  rwa [show ((w.setCell a v).setCell b u').heap.size = w.heap.size by simp [World.setCell]] at this
/-- a variable that is boxed: what is there behind calls that leave all that is old -/
theorem box_at {w w' : World} {cs : Array Value} {T : TypeId} (h : Below (w.alloc (.cells cs T)).heap.size (w.alloc (.cells cs T)) w') :
    (∀ j u, cs[j]? = some u → w'.cell? ⟨w.heap.size, j, none⟩ = some u) ∧ (∀ j, w'.frozen? ⟨w.heap.size, j, none⟩ = false) ∧ Below w.heap.size w w' := by
  have hb : w'.heap[w.heap.size]? = some (.cells cs T (0, 0)) := by
    rw [h.block w.heap.size (by rw [size_al]; omega)]
    exact heap_alloc_new w _
  refine ⟨fun j u hj => ?_, fun j => ?_, ?_⟩
  · simp [World.cell?, hb, hj]
  · simp [World.frozen?, hb]
  · exact below_trans (box_below w _) h
/-- what the call has built of rows reads as the list that they were built of -/
theorem slr_rows {α : Type} {R : World → List Value → α → Prop} {w : World} {base : Nat} {e : TypeId} {v : Value} {n sz : Nat} {xs : List α} (f : α → List Value) (hf : ∀ x ∈ xs, (f x).length = sz) (hsz : 0 < sz) (h : w.ownsRow base e sz v n (xs.flatMap f)) (hR : ∀ x ∈ xs, R w (f x) x) : SlR sz R w v xs := by
  obtain ⟨hl, h⟩ := h
  have hlen : ∀ ys : List α, (∀ x ∈ ys, (f x).length = sz) → (ys.flatMap f).length = ys.length * sz := by
    intro ys
    induction ys with
    | nil => intro _; simp
    | cons y ys ih =>
      intro hy
      rw [List.flatMap_cons, List.length_append, ih (fun x hx => hy x (by simp [hx])), hy y (by simp), List.length_cons, Nat.add_mul, Nat.one_mul]
      omega
  have hn : n = xs.length := by
    rw [hlen xs hf] at hl
    exact (Nat.eq_of_mul_eq_mul_right hsz hl).symm
  have hat : ∀ (ys : List α) (i : Nat) (hi : i < ys.length), (∀ x ∈ ys, (f x).length = sz) → ∀ j, j < sz → (ys.flatMap f)[i * sz + j]? = (f ys[i])[j]? := by
    intro ys
    induction ys with
    | nil => intro i hi; simp at hi
    | cons y ys ih =>
      intro i hi hy j hj
      have hy0 := hy y (by simp)
      rw [List.flatMap_cons]
      cases i with
      | zero =>
        rw [List.getElem?_append_left (by omega)]
        simp
      | succ i =>
        rw [Nat.add_mul, Nat.one_mul, List.getElem?_append_right (by omega), show i * sz + sz + j - (f y).length = i * sz + j by omega]
        exact ih i (by simpa using hi) (fun x hx => hy x (by simp [hx])) j hj
  refine ⟨xs.map f, ?_, by simp, fun i hi => ?_⟩
  · rcases h with ⟨rfl, h0⟩ | ⟨g, cap, cur, rfl, hb, hg, hc, hm, hs, ht⟩
    · have : xs = [] := List.eq_nil_of_length_eq_zero (by omega)
      subst this
      exact Or.inl ⟨none, 0, rfl, fun _ => rfl, rfl⟩
    · rcases Nat.eq_zero_or_pos xs.length with h0 | h0
      · have : xs = [] := List.eq_nil_of_length_eq_zero h0
        subst this
        exact Or.inl ⟨_, _, by rw [hn]; rfl, (fun h => by cases h), rfl⟩
      · refine Or.inr ⟨g, 0, cap, by rw [hn, List.length_map], by rw [List.length_map]; exact h0, by rw [List.length_map]; omega, hm, fun i hi => ?_⟩
        have hi2 : i < xs.length := by simpa using hi
        have e1 : (xs.map f).getD i [] = f xs[i] := by simp [List.getD_eq_getElem?_getD, List.getElem?_eq_getElem hi2]
        rw [e1]
        refine ⟨hf _ (List.getElem_mem hi2), fun j hj => ?_⟩
        have e2 := hat xs i hi2 hf j hj
        have hlt : i * sz + j < n * sz := by
          have : (i + 1) * sz ≤ n * sz := Nat.mul_le_mul_right _ (by omega)
          rw [Nat.add_mul, Nat.one_mul] at this
          omega
        rw [← ht, List.getElem?_take, if_pos hlt] at e2
        rw [← e2]
        simp [World.cell?, hg]
  · have e1 : (xs.map f).getD i [] = f xs[i] := by simp [List.getD_eq_getElem?_getD, List.getElem?_eq_getElem hi]
    rw [e1]
    exact hR _ (List.getElem_mem hi)

/-- an element of three cells: its address' rule, its cells, what it reads as -/
theorem slr_idx3 {α : Type} {P : Program} {R : World → List Value → α → Prop} {w : World} {v : Value} {xs : List α} (h : SlR 3 R w v xs) {t : TypeId} (ht : P.underlying t = some (.slice (P.elem t))) (hs : ∀ w, (sizeOf (P.elem t)).run P w = .ok 3 w) (i : Nat) (h1 : i < xs.length) :
    ∃ (b o : Nat) (c0 c1 c2 : Value), (∀ w', (Instr.indexAt t v (.int .i64 (i : Int))).run P w' = .ok (.pointer (some ⟨b, o, none⟩)) w') ∧ w.cell? ⟨b, o, none⟩ = some c0 ∧ w.cell? ⟨b, o + 1, none⟩ = some c1 ∧ w.cell? ⟨b, o + 2, none⟩ = some c2 ∧ R w [c0, c1, c2] xs[i] := by
  obtain ⟨rows, g1, g2, g3⟩ := h
  obtain ⟨ao, cap, rfl, hc, hn, hx⟩ := g1.form
  obtain ⟨hm, b, off, rfl, hcell⟩ := hx (by omega)
  obtain ⟨l1, l2⟩ := hcell i (by omega)
  have e0 := l2 0 (by omega)
  have e1 := l2 1 (by omega)
  have e2 := l2 2 (by omega)
  have hr := g3 i h1
  match hrow : rows.getD i [], l1 with
  | [c0, c1, c2], _ =>
    rw [hrow] at e0 e1 e2 hr
    refine ⟨b, off + i * 3, c0, c1, c2, fun w' => ?_, by simpa using e0, by simpa using e1, by simpa using e2, hr⟩
    rw [run_indexAt_slice (h := ht), if_pos ⟨by omega, by omega⟩, hs]
    simp only [Result.andThen, Int.toNat_natCast]
    congr 3
    unfold Addr.add
    split
    · rename_i hz; rw [hz]; rfl
    · rfl

/-
  Blocks that stand in a world: variables that are boxed, results kept in memory. No Go text in sight.
-/
theorem own_le {w : World} {b b' : Nat} {e : TypeId} {sz : Nat} {v : Value} {n : Nat} {cs : List Value} (h : b ≤ b') (o : w.ownsRow b' e sz v n cs) : w.ownsRow b e sz v n cs := by
  obtain ⟨hl, o⟩ := o
  refine ⟨hl, ?_⟩
  rcases o with o | ⟨g, cap, cur, rfl, hb, o⟩
  · exact Or.inl o
  · exact Or.inr ⟨g, cap, cur, rfl, by omega, o⟩
theorem own_form {w : World} {b : Nat} {e : TypeId} {sz : Nat} {v : Value} {n : Nat} {cs : List Value} (o : w.ownsRow b e sz v n cs) : ∃ ao cap, v = .slice ao n cap := by
  obtain ⟨hl, o⟩ := o
  rcases o with ⟨rfl, h0⟩ | ⟨g, cap, cur, rfl, o⟩
  · exact ⟨none, 0, by rw [h0]⟩
  · exact ⟨_, _, rfl⟩
theorem alloc_row2 (w : World) (A : Obj) (row : List Value) (T : TypeId) : ∀ j u, row[j]? = some u → ((w.alloc A).alloc (.cells row.toArray T)).cell? ⟨w.heap.size + 1, j, none⟩ = some u := by
  intro j u h
  have := alloc_row (w.alloc A) row T j u h
  rwa [size_al] at this
/-- a block that stands in a world: its cells, and that they may be written -/
def Stands (w : World) (b : Nat) (cs : Array Value) (T : TypeId) : Prop := w.heap[b]? = some (.cells cs T (0, 0))
theorem stands_new (w : World) (cs : Array Value) (T : TypeId) : Stands (w.alloc (.cells cs T)) w.heap.size cs T := heap_alloc_new w _
theorem Stands.below {w w' : World} {b : Nat} {cs : Array Value} {T : TypeId} (h : Stands w b cs T) (g : Below w.heap.size w w') : Stands w' b cs T := by
  unfold Stands at h ⊢
  rw [g.block b (Array.getElem?_eq_some_iff.1 h).1]
  exact h
theorem Stands.cell {w : World} {b : Nat} {cs : Array Value} {T : TypeId} (h : Stands w b cs T) (j : Nat) (u : Value) (hj : cs[j]? = some u) : w.cell? ⟨b, j, none⟩ = some u := by
  unfold Stands at h
  simp [World.cell?, h, hj]
theorem Stands.free {w : World} {b : Nat} {cs : Array Value} {T : TypeId} (h : Stands w b cs T) (j : Nat) : w.frozen? ⟨b, j, none⟩ = false := by
  unfold Stands at h
  simp [World.frozen?, h]
theorem Stands.set {w : World} {b : Nat} {cs : Array Value} {T : TypeId} (h : Stands w b cs T) (j : Nat) (u : Value) : Stands (w.setCell ⟨b, j, none⟩ u) b (cs.setIfInBounds j u) T := by
  unfold Stands at h ⊢
  have hb := (Array.getElem?_eq_some_iff.1 h).1
  have e : w.heap[b] = .cells cs T (0, 0) := (Array.getElem?_eq_some_iff.1 h).2
  simp only [World.setCell]
  rw [Array.getElem?_modify, if_pos rfl, Array.getElem?_eq_getElem hb, e]
  rfl
theorem Stands.other {w : World} {b b' : Nat} {cs : Array Value} {T : TypeId} (h : Stands w b cs T) (j : Nat) (u : Value) (hb : b ≠ b') : Stands (w.setCell ⟨b', j, none⟩ u) b cs T := by
  unfold Stands at h ⊢
  simp only [World.setCell]
  rw [Array.getElem?_modify, if_neg (by omega)]
  exact h
theorem own_other {w : World} {b : Nat} {e : TypeId} {v : Value} {n : Nat} {cs : List Value} (o : w.ownsRow b e 1 v n cs) (g : Nat) (j : Nat) (u : Value) (hg : g < b) : (w.setCell ⟨g, j, none⟩ u).ownsRow b e 1 v n cs := by
  obtain ⟨hl, o⟩ := o
  refine ⟨hl, ?_⟩
  rcases o with o | ⟨g', cap, cur, rfl, hb, h1, o⟩
  · exact Or.inl o
  · refine Or.inr ⟨g', cap, cur, rfl, hb, ?_, o⟩
    simp only [World.setCell]
    rw [Array.getElem?_modify, if_neg (by omega)]
    exact h1
theorem below_set {w w' : World} (h : Below w.heap.size w w') (g j : Nat) (u : Value) (hg : w.heap.size ≤ g) : Below w.heap.size w (w'.setCell ⟨g, j, none⟩ u) := by
  refine ⟨h.os, h.tape, h.output, by simpa [World.setCell] using h.size, fun k hk => ?_⟩
  rw [← h.block k hk]
  simp only [World.setCell]
  rw [Array.getElem?_modify, if_neg (by omega)]
/-- a block of another kind lies apart from a row of the call's own -/
theorem stands_apart {w : World} {b : Nat} {cs : Array Value} {T : TypeId} {base : Nat} {e : TypeId} {v : Value} {n sz : Nat} {xs : List Value} (h : Stands w b cs T) (o : w.ownsRow base e sz v n xs) (ht : ¬ e = T) : some b ≠ v.ownBlock := by
  obtain ⟨hl, o⟩ := o
  rcases o with ⟨rfl, h0⟩ | ⟨g, cap, cur, rfl, hb, hg, o⟩
  · simp [Value.ownBlock]
  · intro hh
    simp [Value.ownBlock] at hh
    subst hh
    unfold Stands at h
    rw [h] at hg
    simp at hg
    exact ht hg.2.symm
theorem Stands.grown {w w' : World} {b : Nat} {cs : Array Value} {T : TypeId} {row : Option Nat} (h : Stands w b cs T) (g : w.grownBy w' row) (hr : some b ≠ row) : Stands w' b cs T := by
  unfold Stands at h ⊢
  rw [g.block b (Array.getElem?_eq_some_iff.1 h).1 hr]
  exact h

end Go.Proofs.YtkdaimagdmbnfabDoor
