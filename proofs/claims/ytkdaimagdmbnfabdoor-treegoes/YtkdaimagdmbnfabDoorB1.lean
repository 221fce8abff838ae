/-
  Texts of one proof, laid one behind the other: Ow Rmm R3s R3q Nod Tro Trp Pt2 Pt3 Tgd Bk Rp1 Rmf Rp2 Rp3 Rp4 Rdg Rpa Rsh.
-/
import Derived.Test.YtkdaimagdmbnfabDoorB0
import Derived.Laws.OwnMore
import Derived.Test.YtkdaimagdmbnfabDoorProg
import Derived.Test.YtkdaimagdmbnfabDoorRows
import Derived.SizedLaws
import Derived.ChangeSame
namespace Go.Proofs.YtkdaimagdmbnfabDoor
open Go.ChangeShapes Go.WideShapes Go.ChangeAt Go.RowKit
set_option linter.unusedVariables false
set_option linter.unusedSimpArgs false

/-
  Rows that the call has built, whose cells may be slices of the call's own themselves: what stands when another row grows or is written, by the kinds of the blocks. No Go text in sight.
-/
/-- all old blocks stand but perhaps one of kind T -/
def Kept (T : TypeId) (w w' : World) : Prop := ∃ row, w.grownBy w' row ∧ ∀ g, row = some g → ∃ cur fr, w.heap[g]? = some (.cells cur T fr)
theorem grown_none {w w' : World} (h : Below w.heap.size w w') : w.grownBy w' none := ⟨h.os, h.tape, h.output, h.size, fun k hk _ => h.block k hk⟩
theorem Kept.below {T : TypeId} {w w' : World} (h : Below w.heap.size w w') : Kept T w w' := ⟨none, grown_none h, fun g hg => by cases hg⟩
theorem Kept.own {base : Nat} {e : TypeId} {sz : Nat} {w w' : World} {v : Value} {n : Nat} {cs : List Value} (o : w.ownsRow base e sz v n cs) (g : w.grownBy w' v.ownBlock) : Kept e w w' := by
  refine ⟨_, g, fun k hk => ?_⟩
  obtain ⟨_, o⟩ := o
  rcases o with ⟨rfl, _⟩ | ⟨k', cap, cur, rfl, _, h1, _⟩
  · simp [Value.ownBlock] at hk
  · simp [Value.ownBlock] at hk
    subst hk
    exact ⟨cur, _, h1⟩
theorem Kept.stands {b : Nat} {cs : Array Value} {T : TypeId} {w w' : World} (h : Stands w b cs T) (g : w.grownBy w' (some b)) : Kept T w w' :=
  ⟨_, g, fun k hk => by cases hk; exact ⟨cs, _, h⟩⟩
/-- what does not lie in blocks of kind T -/
def Apt {α : Type} (T : TypeId) (O : World → List Value → α → Prop) : Prop := ∀ w w' cs x, Kept T w w' → O w cs x → O w' cs x
theorem own_kept {T : TypeId} {w w' : World} (k : Kept T w w') {base : Nat} {e : TypeId} {sz : Nat} {v : Value} {n : Nat} {cs : List Value} (hne : ¬ e = T) (o : w.ownsRow base e sz v n cs) : w'.ownsRow base e sz v n cs := by
  obtain ⟨row, g, hr⟩ := k
  obtain ⟨hl, o⟩ := o
  refine ⟨hl, ?_⟩
  rcases o with o | ⟨b, cap, cur, rfl, hb, h1, o⟩
  · exact Or.inl o
  · refine Or.inr ⟨b, cap, cur, rfl, hb, ?_, o⟩
    rw [g.block b (Array.getElem?_eq_some_iff.1 h1).1 (fun e0 => ?_)]
    · exact h1
    · obtain ⟨cur', fr, h2⟩ := hr b e0.symm
      rw [h1] at h2
      simp at h2
      exact hne h2.2.1
theorem stands_kept {T : TypeId} {w w' : World} (k : Kept T w w') {b : Nat} {cs : Array Value} {e : TypeId} (hne : ¬ e = T) (h : Stands w b cs e) : Stands w' b cs e := by
  obtain ⟨row, g, hr⟩ := k
  unfold Stands at h ⊢
  rw [g.block b (Array.getElem?_eq_some_iff.1 h).1 (fun e0 => ?_)]
  · exact h
  · obtain ⟨cur', fr, h2⟩ := hr b e0.symm
    rw [h] at h2
    simp at h2
    exact hne h2.2.1
/-- rows of sz cells of kind e, each as O says -/
def OwnR {α : Type} (e : TypeId) (sz : Nat) (O : World → List Value → α → Prop) (base : Nat) (w : World) (v : Value) (xs : List α) : Prop :=
  ∃ rows : List (List Value), rows.length = xs.length ∧ (∀ r ∈ rows, r.length = sz) ∧ w.ownsRow base e sz v xs.length rows.flatten ∧ ∀ i (h : i < xs.length), O w (rows.getD i []) xs[i]
theorem OwnR.nil {α : Type} (e : TypeId) (sz : Nat) (O : World → List Value → α → Prop) (base : Nat) (w : World) : OwnR e sz O base w (.slice none 0 0) ([] : List α) := ⟨[], rfl, by simp, World.ownsRow_nil _ _ _ _, fun i hi => by simp at hi⟩
theorem OwnR.row {α : Type} {e : TypeId} {sz : Nat} {O : World → List Value → α → Prop} {base : Nat} {w : World} {v : Value} {xs : List α} (h : OwnR e sz O base w v xs) : ∃ cs, w.ownsRow base e sz v xs.length cs := by
  obtain ⟨rows, _, _, h3, _⟩ := h
  exact ⟨_, h3⟩
theorem OwnR.read {α : Type} {e : TypeId} {sz : Nat} {O R : World → List Value → α → Prop} {base : Nat} {w : World} {v : Value} {xs : List α} (hsz : 0 < sz) (h : OwnR e sz O base w v xs) (hR : ∀ cs x, O w cs x → R w cs x) : SlR sz R w v xs := by
  obtain ⟨rows, h1, h2, h3, h4⟩ := h
  have h5 : SlR sz (fun _ cs (r : List Value) => cs = r) w v rows := slr_rows (n := xs.length) (e := e) (base := base) id h2 hsz (by simpa [List.flatMap_id] using h3) (fun _ _ => rfl)
  obtain ⟨rows', k1, k2, k3⟩ := h5
  have e0 : rows' = rows := by
    apply List.ext_getElem k2
    intro i hi hj
    have := k3 i hj
    rw [List.getD_eq_getElem?_getD, List.getElem?_eq_getElem hi] at this
    simpa using this
  subst e0
  exact ⟨rows', k1, h1, fun i hi => hR _ _ (h4 i hi)⟩
theorem OwnR.kept {α : Type} {T e : TypeId} {sz : Nat} {O : World → List Value → α → Prop} {base : Nat} {w w' : World} {v : Value} {xs : List α} (h : OwnR e sz O base w v xs) (k : Kept T w w') (hne : ¬ e = T) (ha : Apt T O) : OwnR e sz O base w' v xs := by
  obtain ⟨rows, h1, h2, h3, h4⟩ := h
  exact ⟨rows, h1, h2, own_kept k hne h3, fun i hi => ha _ _ _ _ k (h4 i hi)⟩
theorem OwnR.apt {α : Type} {T e : TypeId} {sz : Nat} {O : World → List Value → α → Prop} {base : Nat} (hne : ¬ e = T) (ha : Apt T O) : ∀ w w' v xs, Kept T w w' → OwnR e sz O base w v xs → OwnR e sz O base w' v xs := fun w w' v xs k h => h.kept k hne ha
/-- behind a call that leaves all that is old -/
theorem OwnR.below {α : Type} {e : TypeId} {sz : Nat} {O : World → List Value → α → Prop} {base : Nat} {w w' : World} {v : Value} {xs : List α} (h : OwnR e sz O base w v xs) (g : Below w.heap.size w w') (hO : ∀ cs x, O w cs x → O w' cs x) : OwnR e sz O base w' v xs := by
  obtain ⟨rows, h1, h2, ⟨hl, h3⟩, h4⟩ := h
  refine ⟨rows, h1, h2, ⟨hl, ?_⟩, fun i hi => hO _ _ (h4 i hi)⟩
  rcases h3 with h | ⟨b, cap, cur, rfl, hb, hg, hc⟩
  · exact Or.inl h
  · refine Or.inr ⟨b, cap, cur, rfl, hb, ?_, hc⟩
    rw [g.block b (Array.getElem?_eq_some_iff.1 hg).1]
    exact hg
theorem OwnR.le {α : Type} {e : TypeId} {sz : Nat} {O O' : World → List Value → α → Prop} {base base' : Nat} {w : World} {v : Value} {xs : List α} (hb : base' ≤ base) (h : OwnR e sz O base w v xs) (hO : ∀ cs x, O w cs x → O' w cs x) : OwnR e sz O' base' w v xs := by
  obtain ⟨rows, h1, h2, h3, h4⟩ := h
  exact ⟨rows, h1, h2, own_le hb h3, fun i hi => hO _ _ (h4 i hi)⟩
/-- a row more -/
theorem OwnR.snoc {α : Type} {e : TypeId} {sz : Nat} {O : World → List Value → α → Prop} {base : Nat} {w w' : World} {U v' : Value} {xs : List α} {x : α} {row : List Value} {rows : List (List Value)} (ha : Apt e O) (h1 : rows.length = xs.length) (h2 : ∀ r ∈ rows, r.length = sz) (h3 : w.ownsRow base e sz U xs.length rows.flatten) (h4 : ∀ i (h : i < xs.length), O w (rows.getD i []) xs[i])
    (hr : row.length = sz) (hx : O w row x) (o : w'.ownsRow base e sz v' (xs.length + 1) (rows.flatten ++ row)) (g : w.grownBy w' U.ownBlock) : OwnR e sz O base w' v' (xs ++ [x]) := by
  have k := Kept.own h3 g
  refine ⟨rows ++ [row], by simp [h1], fun r hm => ?_, by simpa using o, fun i hi => ?_⟩
  · rcases List.mem_append.1 hm with hm | hm
    · exact h2 r hm
    · simp at hm; subst hm; exact hr
  · by_cases hlt : i < xs.length
    · rw [List.getD_eq_getElem?_getD, List.getElem?_append_left (by omega), List.getElem_append_left hlt, ← List.getD_eq_getElem?_getD]
      exact ha _ _ _ _ k (h4 i hlt)
    · have hi2 : i = xs.length := by simp at hi; omega
      subst hi2
      rw [List.getD_eq_getElem?_getD, List.getElem?_append_right (by omega), h1]
      simp
      exact ha _ _ _ _ k hx
theorem flat_set {α : Type} : ∀ (rows : List (List α)) (sz i j : Nat) (u : α), (∀ r ∈ rows, r.length = sz) → i < rows.length → j < sz → rows.flatten.set (i * sz + j) u = (rows.set i ((rows.getD i []).set j u)).flatten
  | [], sz, i, j, u, _, hi, _ => by simp at hi
  | r :: rows, sz, 0, j, u, h, hi, hj => by
    have hr := h r (by simp)
    simp only [List.flatten_cons, Nat.zero_mul, Nat.zero_add, List.set_cons_zero, List.getD_cons_zero]
    rw [List.set_append_left _ _ (by omega)]
  | r :: rows, sz, i + 1, j, u, h, hi, hj => by
    have hr := h r (by simp)
    have ih := flat_set rows sz i j u (fun x hx => h x (by simp [hx])) (by simpa using hi) hj
    simp only [List.flatten_cons, List.set_cons_succ, List.getD_cons_succ]
    rw [List.set_append_right _ _ (by rw [hr, Nat.add_mul]; omega), hr, show (i + 1) * sz + j - sz = i * sz + j by rw [Nat.add_mul]; omega, ih]
/-- a cell of a row written -/
theorem OwnR.set {α : Type} {e : TypeId} {sz : Nat} {O : World → List Value → α → Prop} {base : Nat} {w : World} {g n cap : Nat} {xs : List α} {rows : List (List Value)} (ha : Apt e O) (h1 : rows.length = xs.length) (h2 : ∀ r ∈ rows, r.length = sz) (h3 : w.ownsRow base e sz (.slice (some ⟨g, 0, none⟩) n cap) xs.length rows.flatten) (h4 : ∀ i (h : i < xs.length), O w (rows.getD i []) xs[i])
    (i j : Nat) (hi : i < xs.length) (hj : j < sz) (u : Value) (x : α) (hx : O (w.setCell ⟨g, i * sz + j, none⟩ u) ((rows.getD i []).set j u) x) : OwnR e sz O base (w.setCell ⟨g, i * sz + j, none⟩ u) (.slice (some ⟨g, 0, none⟩) n cap) (xs.set i x) ∧ Kept e w (w.setCell ⟨g, i * sz + j, none⟩ u) := by
  have hn : n = xs.length := by
    obtain ⟨_, h3⟩ := h3
    rcases h3 with ⟨h, _⟩ | ⟨g', cap', cur, h, _⟩
    · simp at h
    · simp at h; exact h.2.1
  subst hn
  obtain ⟨s1, s2⟩ := h3.stored (i * sz + j) u
  have k : Kept e w (w.setCell ⟨g, i * sz + j, none⟩ u) := Kept.own (v := .slice (some ⟨g, 0, none⟩) xs.length cap) h3 (by simpa [Value.ownBlock] using s2)
  rw [flat_set rows sz i j u h2 (by omega) hj] at s1
  refine ⟨⟨rows.set i ((rows.getD i []).set j u), by simp [h1], fun r hm => ?_, by simpa using s1, fun m hm => ?_⟩, k⟩
  · rcases List.mem_or_eq_of_mem_set hm with hm | rfl
    · exact h2 r hm
    · rw [List.length_set, List.getD_eq_getElem?_getD, List.getElem?_eq_getElem (by omega)]
      exact h2 _ (List.getElem_mem _)
  · rw [List.length_set] at hm
    rw [List.getElem_set]
    by_cases him : i = m
    · subst him
      rw [if_pos rfl, List.getD_eq_getElem?_getD, List.getElem?_set_self (by omega)]
      exact hx
    · rw [if_neg him, List.getD_eq_getElem?_getD, List.getElem?_set_ne him, ← List.getD_eq_getElem?_getD]
      exact ha _ _ _ _ k (h4 m hm)

/-
  In, Same, Copy, wrong, Fetch, Text of the document's answer for a memory of bytes.
-/
theorem uB : Tryd.prog.underlying 31 = some (.slice (Tryd.prog.elem 31)) := by kernel_rfl
theorem eB : Tryd.prog.elem 31 = 5 := by kernel_rfl
theorem zB (w : World) : (sizeOf (Tryd.prog.elem 31)).run Tryd.prog w = .ok 1 w := by rw [eB]; exact Tryd.sizeOf5 w
theorem infoU8 : (Tryd.prog.info? 5).map (fun i => (i.zero, i.size, i.bytes)) = some (some (.int .u8 0), 1, 1) := by kernel_rfl
theorem rd_strT {w : World} {v : Value} {xs : List Int} (h : Rd .u8 w v xs) : (convert 31 9 v).run Tryd.prog w = .ok (.string (strOfNums xs)) w :=
  rd_str h Tryd.underlying31 Tryd.underlying5 Tryd.underlying9

/-
  Same and Copy of the document's answer: the one tells whether two lists are one, the other returns the list in new memory, for all lists.
-/
theorem same_take (xs ys : List Int) (k : Nat) (h1 : k < xs.length) (h2 : k < ys.length) (h : xs.take k = ys.take k) (e : xs.getD k 0 = ys.getD k 0) : xs.take (k + 1) = ys.take (k + 1) := by
  rw [List.take_succ_eq_append_getElem h1, List.take_succ_eq_append_getElem h2, h]
  simp [List.getD_eq_getElem?_getD, List.getElem?_eq_getElem h1, List.getElem?_eq_getElem h2] at e
  rw [e]
theorem ne_at (xs ys : List Int) (k : Nat) (e : ¬ xs.getD k 0 = ys.getD k 0) : ¬ xs = ys := fun h => e (by rw [h])

set_option maxHeartbeats 1000000 in
theorem w_r3same (va vb : Value) (xs ys : List Int) (w : World) (ha : Rd .u32 w va xs) (hb : Rd .u32 w vb ys) :
    Calls Tryd.prog 10 #[va, vb] w fun e w' => e = .returned (.bool (decide (xs = ys))) ∧ Below w.heap.size w w' := by
  rcases ha with ⟨ao, ca, rfl, hao, rfl⟩ | ⟨b, off, ca, rfl, a0, a1, a2, hca⟩
  · rcases hb with ⟨bo, cb, rfl, hbo, rfl⟩ | ⟨b', off', cb, rfl, b0, b1, b2, hcb⟩
    · go_enter Tryd.func10, Tryd.ntmps10
      go_wp2
      go_rounds 1
      go_ret
      exact ⟨ret_b (by simp), Below.refl _ _⟩
    · have hf : Hid (decide (([] : List Int) = ys) = false) := by show _ = _; simp; intro h; subst h; simp at b0
      have hn : ((0 : Int) != (ys.length : Int)) = true := by simp; omega
      go_enter Tryd.func10, Tryd.ntmps10
      go_wp2
      all_goals go_ret
      all_goals exact ⟨ret_b hf.out.symm, Below.refl _ _⟩
  · rcases hb with ⟨bo, cb, rfl, hbo, rfl⟩ | ⟨b', off', cb, rfl, b0, b1, b2, hcb⟩
    · have hf : Hid (decide (xs = ([] : List Int)) = false) := by show _ = _; simp; intro h; subst h; simp at a0
      have hn : ((xs.length : Int) != (0 : Int)) = true := by simp; intro h; subst h; simp at a0
      go_enter Tryd.func10, Tryd.ntmps10
      go_wp2
      all_goals go_ret
      all_goals exact ⟨ret_b hf.out.symm, Below.refl _ _⟩
    · unfold maxLen at a2 b2
      by_cases hl : xs.length = ys.length
      · have hn : ((xs.length : Int) != (ys.length : Int)) = false := by simp [hl]
        have Hl := hid hl
        have HA := hid hca
        have HB := hid hcb
        clear hl hca hcb
        go_enter Tryd.func10, Tryd.ntmps10
        go_wp2
        go_loopw [5] (fun i wx => ∃ k : Nat, (k : Int) ≤ xs.length ∧ i = .int .i64 k ∧ Hid (xs.take k = ys.take k) ∧ Below w.heap.size w wx) (fun i _ => (xs.length - intOf i).toNat)
        case atStart => exact ⟨0, by omega, rfl, hid (by simp), Below.refl _ _⟩
        case round =>
          obtain ⟨k, hk, rfl, ht, hg⟩ := hrel
          by_cases hlt : (k : Int) < xs.length
          · have c1 := below_cell hg (HA.out k (by omega))
            have c2 := below_cell hg (HB.out k (by have := Hl.out; omega))
            have hlt2 : (k : Int) < (ys.length : Int) := by have := Hl.out; omega
            obtain ⟨x, hx⟩ : ∃ x, xs.getD k 0 = x := ⟨_, rfl⟩
            obtain ⟨y, hy⟩ : ∃ y, ys.getD k 0 = y := ⟨_, rfl⟩
            rw [hx] at c1
            rw [hy] at c2
            by_cases hxy : x = y
            · have ht2 : Hid (xs.take (k + 1) = ys.take (k + 1)) := same_take xs ys k (by omega) (by omega) ht.out (by rw [hx, hy, hxy])
              have hb : (x != y) = false := by simp [hxy]
              clear hx hy hxy
              go_wp2
              go_quiet (fail)
              go_wp2
              go_roundw
              case rel => exact ⟨k + 1, by omega, by go_num, ht2, below_drewN hg _⟩
              case measure => simp [intOf]; omega
            · have hf : Hid (decide (xs = ys) = false) := by show _ = _; simp; exact ne_at xs ys k (by rw [hx, hy]; exact hxy)
              have hb : (x != y) = true := by simp [hxy]
              clear hx hy hxy
              go_wp2
              go_quiet (fail)
              go_wp2
              go_ret
              exact ⟨ret_b hf.out.symm, below_drewN hg _⟩
          · have hf : Hid (decide (xs = ys) = true) := by
              show _ = _
              have h1 : xs.take k = xs := List.take_of_length_le (by omega)
              have h2 : ys.take k = ys := List.take_of_length_le (by have := Hl.out; omega)
              have := ht.out
              rw [h1, h2] at this
              simp [this]
            go_wp2
            go_ret
            exact ⟨ret_b hf.out.symm, hg⟩
      · have hf : Hid (decide (xs = ys) = false) := by show _ = _; simp; intro h; exact hl (by rw [h])
        have hn : ((xs.length : Int) != (ys.length : Int)) = true := by simp; omega
        clear hl
        go_enter Tryd.func10, Tryd.ntmps10
        go_wp2
        go_ret
        exact ⟨ret_b hf.out.symm, Below.refl _ _⟩

theorem infoU32 : (Tryd.prog.info? 47).map (fun i => (i.zero, i.size, i.bytes)) = some (some (.int .u32 0), 1, 4) := by kernel_rfl

/-
  Same of lists of cells, of the document's answer, that it only draws: for regions that draw their order.
-/
/-- but for draws the same world -/
def Dr (w w' : World) : Prop := ∃ m, w' = w.drewN m
theorem dr_refl (w : World) : Dr w w := ⟨0, rfl⟩
theorem dr_more {w w' : World} (h : Dr w w') (n : Nat) : Dr w (w'.drewN n) := by
  obtain ⟨m, rfl⟩ := h
  exact ⟨m + n, by rw [World.drewN_drewN]⟩
theorem dr_below {w w' : World} (h : Dr w w') : Below w.heap.size w w' := by
  obtain ⟨m, rfl⟩ := h
  exact below_drewN (Below.refl _ _) m

set_option maxHeartbeats 1000000 in
theorem w_r3sameQ (va vb : Value) (xs ys : List Int) (w : World) (ha : Rd .u32 w va xs) (hb : Rd .u32 w vb ys) :
    Calls Tryd.prog 10 #[va, vb] w fun e w' => e = .returned (.bool (decide (xs = ys))) ∧ Dr w w' := by
  rcases ha with ⟨ao, ca, rfl, hao, rfl⟩ | ⟨b, off, ca, rfl, a0, a1, a2, hca⟩
  · rcases hb with ⟨bo, cb, rfl, hbo, rfl⟩ | ⟨b', off', cb, rfl, b0, b1, b2, hcb⟩
    · go_enter Tryd.func10, Tryd.ntmps10
      go_wp2
      go_rounds 1
      go_ret
      exact ⟨ret_b (by simp), dr_refl _⟩
    · have hf : Hid (decide (([] : List Int) = ys) = false) := by show _ = _; simp; intro h; subst h; simp at b0
      have hn : ((0 : Int) != (ys.length : Int)) = true := by simp; omega
      go_enter Tryd.func10, Tryd.ntmps10
      go_wp2
      all_goals go_ret
      all_goals exact ⟨ret_b hf.out.symm, dr_refl _⟩
  · rcases hb with ⟨bo, cb, rfl, hbo, rfl⟩ | ⟨b', off', cb, rfl, b0, b1, b2, hcb⟩
    · have hf : Hid (decide (xs = ([] : List Int)) = false) := by show _ = _; simp; intro h; subst h; simp at a0
      have hn : ((xs.length : Int) != (0 : Int)) = true := by simp; intro h; subst h; simp at a0
      go_enter Tryd.func10, Tryd.ntmps10
      go_wp2
      all_goals go_ret
      all_goals exact ⟨ret_b hf.out.symm, dr_refl _⟩
    · unfold maxLen at a2 b2
      by_cases hl : xs.length = ys.length
      · have hn : ((xs.length : Int) != (ys.length : Int)) = false := by simp [hl]
        have Hl := hid hl
        have HA := hid hca
        have HB := hid hcb
        clear hl hca hcb
        go_enter Tryd.func10, Tryd.ntmps10
        go_wp2
        go_loopw [5] (fun i wx => ∃ k : Nat, (k : Int) ≤ xs.length ∧ i = .int .i64 k ∧ Hid (xs.take k = ys.take k) ∧ Dr w wx) (fun i _ => (xs.length - intOf i).toNat)
        case atStart => exact ⟨0, by omega, rfl, hid (by simp), dr_refl _⟩
        case round =>
          obtain ⟨k, hk, rfl, ht, hg⟩ := hrel
          by_cases hlt : (k : Int) < xs.length
          · have c1 := below_cell (dr_below hg) (HA.out k (by omega))
            have c2 := below_cell (dr_below hg) (HB.out k (by have := Hl.out; omega))
            have hlt2 : (k : Int) < (ys.length : Int) := by have := Hl.out; omega
            obtain ⟨x, hx⟩ : ∃ x, xs.getD k 0 = x := ⟨_, rfl⟩
            obtain ⟨y, hy⟩ : ∃ y, ys.getD k 0 = y := ⟨_, rfl⟩
            rw [hx] at c1
            rw [hy] at c2
            by_cases hxy : x = y
            · have ht2 : Hid (xs.take (k + 1) = ys.take (k + 1)) := same_take xs ys k (by omega) (by omega) ht.out (by rw [hx, hy, hxy])
              have hb : (x != y) = false := by simp [hxy]
              clear hx hy hxy
              go_wp2
              go_quiet (fail)
              go_wp2
              go_roundw
              case rel => exact ⟨k + 1, by omega, by go_num, ht2, dr_more hg _⟩
              case measure => simp [intOf]; omega
            · have hf : Hid (decide (xs = ys) = false) := by show _ = _; simp; exact ne_at xs ys k (by rw [hx, hy]; exact hxy)
              have hb : (x != y) = true := by simp [hxy]
              clear hx hy hxy
              go_wp2
              go_quiet (fail)
              go_wp2
              go_ret
              exact ⟨ret_b hf.out.symm, dr_more hg _⟩
          · have hf : Hid (decide (xs = ys) = true) := by
              show _ = _
              have h1 : xs.take k = xs := List.take_of_length_le (by omega)
              have h2 : ys.take k = ys := List.take_of_length_le (by have := Hl.out; omega)
              have := ht.out
              rw [h1, h2] at this
              simp [this]
            go_wp2
            go_ret
            exact ⟨ret_b hf.out.symm, hg⟩
      · have hf : Hid (decide (xs = ys) = false) := by show _ = _; simp; intro h; exact hl (by rw [h])
        have hn : ((xs.length : Int) != (ys.length : Int)) = true := by simp; omega
        clear hl
        go_enter Tryd.func10, Tryd.ntmps10
        go_wp2
        go_ret
        exact ⟨ret_b hf.out.symm, dr_refl _⟩

/-
  Devices and their properties in memory: what rows read as, and rows of the call's own.
-/
/-- a row's cells by their places -/
theorem slr_idxN {α : Type} {P : Program} {R : World → List Value → α → Prop} {w : World} {v : Value} {xs : List α} {sz : Nat} (h : SlR sz R w v xs) {t : TypeId} (ht : P.underlying t = some (.slice (P.elem t))) (hs : ∀ w, (sizeOf (P.elem t)).run P w = .ok sz w) (i : Nat) (h1 : i < xs.length) :
    ∃ (b o : Nat) (cs : List Value), (∀ w', (Instr.indexAt t v (.int .i64 (i : Int))).run P w' = .ok (.pointer (some ⟨b, o, none⟩)) w') ∧ cs.length = sz ∧ (∀ j, j < sz → w.cell? ⟨b, o + j, none⟩ = cs[j]?) ∧ R w cs xs[i] := by
  obtain ⟨rows, g1, g2, g3⟩ := h
  obtain ⟨ao, cap, rfl, hc, hn, hx⟩ := g1.form
  obtain ⟨hm, b, off, rfl, hcell⟩ := hx (by omega)
  obtain ⟨l1, l2⟩ := hcell i (by omega)
  refine ⟨b, off + i * sz, rows.getD i [], fun w' => ?_, l1, fun j hj => l2 j hj, g3 i h1⟩
  rw [run_indexAt_slice (h := ht), if_pos ⟨by omega, by omega⟩, hs]
  simp only [Result.andThen, Int.toNat_natCast]
  congr 3
  unfold Addr.add
  split
  · rename_i hz; rw [hz]; rfl
  · rfl
def propR (w : World) (cs : List Value) (x : Pp) : Prop := ∃ vd, cs = [.string (strOfNums x.1), vd] ∧ Rd .u8 w vd x.2
def nodR (w : World) (cs : List Value) (x : Nd) : Prop := ∃ vu vp vc, cs = [.string (strOfNums x.1), vu, .int .i64 x.2.2.1, vp, vc] ∧ Rd .u32 w vu x.2.1 ∧ SlR 2 propR w vp x.2.2.2.1 ∧ Rd .u32 w vc x.2.2.2.2
theorem propR_below {w w' : World} (g : Below w.heap.size w w') (cs : List Value) (x : Pp) (h : propR w cs x) : propR w' cs x := by
  obtain ⟨v, h1, h2⟩ := h
  exact ⟨v, h1, h2.below g⟩
theorem nodR_below {w w' : World} (g : Below w.heap.size w w') (cs : List Value) (x : Nd) (h : nodR w cs x) : nodR w' cs x := by
  obtain ⟨vu, vp, vc, h1, h2, h3, h4⟩ := h
  exact ⟨vu, vp, vc, h1, h2.below g, h3.below g (propR_below g), h4.below g⟩
/-- the same of what the call has built -/
def propO (base : Nat) (w : World) (cs : List Value) (x : Pp) : Prop := ∃ vd, cs = [.string (strOfNums x.1), vd] ∧ w.ownsRow base 5 1 vd x.2.length (x.2.map (Value.int .u8))
def nodO (base : Nat) (w : World) (cs : List Value) (x : Nd) : Prop := ∃ vu vp vc, cs = [.string (strOfNums x.1), vu, .int .i64 x.2.2.1, vp, vc] ∧ w.ownsRow base 47 1 vu x.2.1.length (x.2.1.map (Value.int .u32)) ∧ OwnR 33 2 (propO base) base w vp x.2.2.2.1 ∧ w.ownsRow base 47 1 vc x.2.2.2.2.length (x.2.2.2.2.map (Value.int .u32))
theorem propO_R {base : Nat} {w : World} (cs : List Value) (x : Pp) (h : propO base w cs x) : propR w cs x := by
  obtain ⟨v, h1, h2⟩ := h
  exact ⟨v, h1, (Rd_own h2).1⟩
theorem nodO_R {base : Nat} {w : World} (cs : List Value) (x : Nd) (h : nodO base w cs x) : nodR w cs x := by
  obtain ⟨vu, vp, vc, h1, h2, h3, h4⟩ := h
  exact ⟨vu, vp, vc, h1, (Rd_own h2).1, h3.read (by decide) propO_R, (Rd_own h4).1⟩
theorem propO_apt {base : Nat} {T : TypeId} (h : ¬ 5 = T) : Apt T (propO base) := by
  rintro w w' cs x k ⟨v, h1, h2⟩
  exact ⟨v, h1, own_kept k h h2⟩
theorem nodO_apt {base : Nat} {T : TypeId} (h8 : ¬ 5 = T) (h32 : ¬ 47 = T) (hp : ¬ 33 = T) : Apt T (nodO base) := by
  rintro w w' cs x k ⟨vu, vp, vc, h1, h2, h3, h4⟩
  exact ⟨vu, vp, vc, h1, own_kept k h32 h2, h3.kept k hp (propO_apt h8), own_kept k h32 h4⟩
theorem propO_below {base : Nat} {w w' : World} (g : Below w.heap.size w w') (cs : List Value) (x : Pp) (h : propO base w cs x) : propO base w' cs x := by
  obtain ⟨v, h1, h2⟩ := h
  exact ⟨v, h1, own_below h2 g⟩
theorem nodO_below {base : Nat} {w w' : World} (g : Below w.heap.size w w') (cs : List Value) (x : Nd) (h : nodO base w cs x) : nodO base w' cs x := by
  obtain ⟨vu, vp, vc, h1, h2, h3, h4⟩ := h
  exact ⟨vu, vp, vc, h1, own_below h2 g, h3.below g (propO_below g), own_below h4 g⟩
theorem propO_le {b b' : Nat} {w : World} (hb : b ≤ b') (cs : List Value) (x : Pp) (h : propO b' w cs x) : propO b w cs x := by
  obtain ⟨v, h1, h2⟩ := h
  exact ⟨v, h1, own_le hb h2⟩
theorem nodO_le {b b' : Nat} {w : World} (hb : b ≤ b') (cs : List Value) (x : Nd) (h : nodO b' w cs x) : nodO b w cs x := by
  obtain ⟨vu, vp, vc, h1, h2, h3, h4⟩ := h
  exact ⟨vu, vp, vc, h1, own_le hb h2, h3.le hb (propO_le hb), own_le hb h4⟩
/-- trees: read, and of the call's own -/
def RdT (w : World) (v : Value) (t : List Nd) : Prop := SlR 5 nodR w v t
def OwnT8 (base : Nat) (w : World) (v : Value) (t : List Nd) : Prop := OwnR 30 5 (nodO base) base w v t
theorem ownT8_read {base : Nat} {w : World} {v : Value} {t : List Nd} (h : OwnT8 base w v t) : RdT w v t := OwnR.read (by decide) h nodO_R
theorem RdT.below {w w' : World} {v : Value} {t : List Nd} (h : RdT w v t) (g : Below w.heap.size w w') : RdT w' v t := SlR.below h g (nodR_below g)
theorem OwnT8.below {base : Nat} {w w' : World} {v : Value} {t : List Nd} (h : OwnT8 base w v t) (g : Below w.heap.size w w') : OwnT8 base w' v t := OwnR.below h g (nodO_below g)
theorem OwnT8.le {b b' : Nat} {w : World} {v : Value} {t : List Nd} (hb : b ≤ b') (h : OwnT8 b' w v t) : OwnT8 b w v t := OwnR.le hb h (nodO_le hb)

/-- what is asked of devices: bytes, lengths, sizes -/
def bytN (x : Nd) : Prop := bytesL x.1 ∧ ∀ p ∈ x.2.2.2.1, bytesL p.1 ∧ bytesL p.2
def lenN (x : Nd) : Prop := x.1.length ≤ maxLen ∧ ∀ p ∈ x.2.2.2.1, p.1.length ≤ maxLen
def sizN (x : Nd) : Prop := x.2.1.length * 4 ≤ 140737488355328 ∧ x.2.2.2.2.length * 4 ≤ 140737488355328 ∧ x.2.2.2.1.length * 40 ≤ 140737488355328 ∧ ∀ p ∈ x.2.2.2.1, p.2.length ≤ 140737488355328

theorem uN : Tryd.prog.underlying 22 = some (.slice (Tryd.prog.elem 22)) := by kernel_rfl
theorem eN : Tryd.prog.elem 22 = 30 := by kernel_rfl
theorem zN (w : World) : (sizeOf (Tryd.prog.elem 22)).run Tryd.prog w = .ok 5 w := by rw [eN]; exact Tryd.sizeOf30 w
theorem uR : Tryd.prog.underlying 28 = some (.slice (Tryd.prog.elem 28)) := by kernel_rfl
theorem eR : Tryd.prog.elem 28 = 33 := by kernel_rfl
theorem zR (w : World) : (sizeOf (Tryd.prog.elem 28)).run Tryd.prog w = .ok 2 w := by rw [eR]; exact Tryd.sizeOf33 w
theorem rd_slice {k : IntKind} {w : World} {v : Value} {xs : List Int} (h : Rd k w v xs) : ∃ ao cap, v = .slice ao xs.length cap := by
  obtain ⟨ao, cap, rfl, _⟩ := rd_form h
  exact ⟨ao, cap, rfl⟩
theorem slr_slice {α : Type} {R : World → List Value → α → Prop} {sz : Nat} {w : World} {v : Value} {xs : List α} (h : SlR sz R w v xs) : ∃ ao cap, v = .slice ao xs.length cap := by
  obtain ⟨rows, h1, h2, _⟩ := h
  obtain ⟨ao, cap, rfl, _⟩ := h1.form
  exact ⟨ao, cap, by rw [h2]⟩
/-- a device's cells -/
theorem nod_at {w : World} {v : Value} {t : List Nd} (h : RdT w v t) (i : Nat) (h1 : i < t.length) :
    ∃ (b o : Nat) (nm : ByteArray) (vu vp vc : Value), (∀ w', (Instr.indexAt 22 v (.int .i64 (i : Int))).run Tryd.prog w' = .ok (.pointer (some ⟨b, o, none⟩)) w') ∧ w.cell? ⟨b, o, none⟩ = some (.string nm) ∧ w.cell? ⟨b, o + 1, none⟩ = some vu ∧ w.cell? ⟨b, o + 2, none⟩ = some (.int .i64 t[i].2.2.1) ∧ w.cell? ⟨b, o + 3, none⟩ = some vp ∧ w.cell? ⟨b, o + 4, none⟩ = some vc ∧ strOfNums t[i].1 = nm ∧ Rd .u32 w vu t[i].2.1 ∧ SlR 2 propR w vp t[i].2.2.2.1 ∧ Rd .u32 w vc t[i].2.2.2.2 := by
  obtain ⟨b, o, cs, r, hl, hc, vu, vp, vc, rfl, h2, h3, h4⟩ := slr_idxN h uN zN i h1
  exact ⟨b, o, _, vu, vp, vc, r, hc 0 (by omega), hc 1 (by omega), hc 2 (by omega), hc 3 (by omega), hc 4 (by omega), rfl, h2, h3, h4⟩
theorem prp_at8 {w : World} {v : Value} {l : List Pp} (h : SlR 2 propR w v l) (i : Nat) (h1 : i < l.length) :
    ∃ (b o : Nat) (nm : ByteArray) (vd : Value), (∀ w', (Instr.indexAt 28 v (.int .i64 (i : Int))).run Tryd.prog w' = .ok (.pointer (some ⟨b, o, none⟩)) w') ∧ w.cell? ⟨b, o, none⟩ = some (.string nm) ∧ w.cell? ⟨b, o + 1, none⟩ = some vd ∧ strOfNums l[i].1 = nm ∧ Rd .u8 w vd l[i].2 := by
  obtain ⟨b, o, cs, r, hl, hc, vd, rfl, h2⟩ := slr_idxN h uR zR i h1
  exact ⟨b, o, _, vd, r, hc 0 (by omega), hc 1 (by omega), rfl, h2⟩

/-
  What came in, read with its weight: slices of rows, slices of integers, structs of one-cell fields.
-/
theorem wf8 {n : Int} (h : (Lit.int .u32 n).wf = true) : 0 ≤ n ∧ n < 4294967296 := by
  simp [Lit.wf, IntKind.min, IntKind.max, IntKind.bits, IntKind.signed] at h
  omega
theorem all_weights {H : Type} {P : Program} {e : TypeId} {d : DataW H} {n : Nat} : ∀ {ds : List (DataW H)}, d ∈ ds → n ∈ d.weights P e → n ∈ DataW.weightsAll P e ds
  | x :: r, h, hn => by
    simp only [DataW.weightsAll, List.mem_append]
    rcases List.mem_cons.1 h with rfl | h
    · exact Or.inl hn
    · exact Or.inr (all_weights h hn)
/-- a slice's rows, each read as R says, each of which Q is true -/
theorem slr_trod {α H : Type} {enc : TypeId × Value → H} {W : World} {t e : TypeId} {cs : List Value} {y : DataW H × List MemPlace} {sz fuel : Nat} (R : World → List Value → α → Prop) (Q : α → Prop)
    (ht : Tryd.prog.underlying t = some (.slice e)) (hc : Tryd.prog.cellsOf e = sz) (hsz : 0 < sz) (h : DataW.trod enc Tryd.prog W 0 (fun _ => true) true fuel t cs = some y) (hw : ∀ n ∈ y.1.weights Tryd.prog t, n ≤ reachBytes)
    (hR : ∀ n cs z, DataW.trod enc Tryd.prog W 0 (fun _ => true) true n e cs = some z → (∀ m ∈ z.1.weights Tryd.prog e, m ≤ reachBytes) → ∃ x, R W cs x ∧ Q x) :
    ∃ a l c xs, cs = [.slice a l c] ∧ SlR sz R W (.slice a l c) xs ∧ (∀ x ∈ xs, Q x) ∧ xs.length * Tryd.prog.bytesOf e ≤ reachBytes := by
  have g' : ∃ x l c, cs = [.slice x l c] := by
    rcases DataW.trod_slice ht h with ⟨h0, _⟩ | ⟨x, l, c, _, _, _, _, h0, _⟩
    · exact ⟨none, 0, 0, h0⟩
    · exact ⟨some x, l, c, h0⟩
  obtain ⟨a, l, c, rfl⟩ := g'
  obtain ⟨d, ps⟩ := y
  obtain ⟨rows, h1, h2, h3⟩ := slc_open ht hc hsz h
  rcases h3 with ⟨rfl, rfl⟩ | ⟨ds, zs, rfl, hl, h3⟩
  · exact ⟨a, l, c, [], rfl, ⟨[], h1, rfl, fun i hi => by simp at hi⟩, fun x hx => by simp at hx, by simp⟩
  · have hwt : (ds.length + zs.length) * Tryd.prog.bytesOf e ≤ reachBytes := hw _ (by simp [DataW.weights, ht])
    obtain ⟨xs, hx1, hx2⟩ := choose_list (rows.zip ds) (fun (r : List Value × DataW H) (x : α) => R W r.1 x ∧ Q x) (fun r hr => by
      obtain ⟨i, hi, rfl⟩ := List.getElem_of_mem hr
      have hi2 : i < rows.length := by simp at hi; omega
      obtain ⟨n, y, g, g2⟩ := h3 i hi2
      rw [List.getD_eq_getElem?_getD, List.getElem?_eq_getElem hi2] at g
      obtain ⟨x, k1, k2⟩ := hR _ _ _ g (fun m hm => hw m (by
        simp only [DataW.weights, ht, List.mem_cons, List.mem_append]
        exact Or.inr (Or.inl (all_weights (List.mem_of_getElem? g2) hm))))
      refine ⟨x, ?_, k2⟩
      rw [List.getElem_zip]; exact k1)
    have hzl : (rows.zip ds).length = rows.length := by simp [hl]
    refine ⟨a, l, c, xs, rfl, ⟨rows, h1, by omega, fun i hi => ?_⟩, fun x hx => ?_, ?_⟩
    · have := (hx2 i (by omega) hi).1
      rw [List.getElem_zip] at this
      rw [List.getD_eq_getElem?_getD, List.getElem?_eq_getElem (by omega)]
      exact this
    · obtain ⟨i, hi, rfl⟩ := List.getElem_of_mem hx
      exact (hx2 i (by omega) hi).2
    · refine Nat.le_trans (Nat.mul_le_mul_right _ ?_) hwt
      omega
/-- a slice of integers -/
theorem rd_trod {H : Type} {enc : TypeId × Value → H} {W : World} {t e : TypeId} {k : IntKind} {cs : List Value} {y : DataW H × List MemPlace} {fuel : Nat}
    (ht : Tryd.prog.underlying t = some (.slice e)) (he : Tryd.prog.underlying e = some (.int k)) (hc : Tryd.prog.cellsOf e = 1) (h : DataW.trod enc Tryd.prog W 0 (fun _ => true) true fuel t cs = some y) (hw : ∀ n ∈ y.1.weights Tryd.prog t, n ≤ reachBytes) :
    ∃ a l c xs, cs = [.slice a l c] ∧ Rd k W (.slice a l c) xs ∧ (∀ n ∈ xs, (Lit.int k n).wf = true) ∧ xs.length * Tryd.prog.bytesOf e ≤ reachBytes := by
  have g' : ∃ x l c, cs = [.slice x l c] := by
    rcases DataW.trod_slice ht h with ⟨h0, _⟩ | ⟨x, l, c, _, _, _, _, h0, _⟩
    · exact ⟨none, 0, 0, h0⟩
    · exact ⟨some x, l, c, h0⟩
  obtain ⟨a, l, c, rfl⟩ := g'
  obtain ⟨d, ps⟩ := y
  obtain ⟨u, hu, hf, hd⟩ := rd_open (k := k) (d := d) (ps := ps) ht he hc ⟨_, h⟩
  refine ⟨a, l, c, u, rfl, hu, hf, ?_⟩
  rcases hd with rfl | ⟨ys, zs, rfl, hle⟩
  · simp
  · have hwt : (ys.length + zs.length) * Tryd.prog.bytesOf e ≤ reachBytes := hw _ (by simp [DataW.weights, ht])
    refine Nat.le_trans (Nat.mul_le_mul_right _ ?_) hwt
    omega
/-- a struct's fields, one after another: each field's cells are one, its weights are the struct's -/
theorem str_field {H : Type} {enc : TypeId × Value → H} {W : World} {t : TypeId} {fs : Array Field} {cs : List Value} {xs : List (DataW H × List MemPlace)} {n : Nat} (hu : Tryd.prog.underlying t = some (.struct fs))
    (hf : ∀ (i : Nat) f, fs[i]? = some f → DataW.trod enc Tryd.prog W 0 (fun _ => true) true n f.type ((cs.drop f.offset).take (Tryd.prog.cellsOf f.type)) = xs[i]?) {l : List (TypeId × Nat)} (hl : fs.toList.map (fun f => (f.type, f.offset)) = l) (hw : ∀ m ∈ (DataW.agg (xs.map (·.1))).weights Tryd.prog t, m ≤ reachBytes)
    (i : Nat) (a : TypeId) (o : Nat) (h : l[i]? = some (a, o)) (hc : Tryd.prog.cellsOf a = 1) (hi : i < xs.length) :
    DataW.trod enc Tryd.prog W 0 (fun _ => true) true n a ((cs.drop o).take 1) = some xs[i] ∧ ∀ m ∈ xs[i].1.weights Tryd.prog a, m ≤ reachBytes := by
  subst hl
  rw [List.getElem?_map] at h
  obtain ⟨f, g1, g2⟩ := Option.map_eq_some_iff.1 h
  obtain ⟨rfl, rfl⟩ := Prod.mk.inj g2
  have h1 := hf i f (by rw [← Array.getElem?_toList]; exact g1)
  rw [hc, List.getElem?_eq_getElem hi] at h1
  refine ⟨h1, fun m hm => hw m ?_⟩
  simp only [DataW.weights, hu]
  refine DataW.weights_mem_each (j := i) (t := f.type) (d := xs[i].1) ?_ ?_ m hm
  · rw [List.getElem?_map, g1]; rfl
  · rw [List.getElem?_map, List.getElem?_eq_getElem hi]; rfl

/-
  Slices of devices that came in, and a case of them: what they read as, and how much they hold.
-/
theorem prp_str : Tryd.prog.underlying 33 = some (.struct (Tryd.prog.fieldsOf 33)) := by kernel_rfl
theorem prpFs : (Tryd.prog.fieldsOf 33).toList.map (fun f => (f.type, f.offset)) = [(9, 0), (31, 1)] := by kernel_rfl
theorem nod_str : Tryd.prog.underlying 30 = some (.struct (Tryd.prog.fieldsOf 30)) := by kernel_rfl
theorem nodFs : (Tryd.prog.fieldsOf 30).toList.map (fun f => (f.type, f.offset)) = [(9, 0), (27, 1), (3, 2), (28, 3), (27, 4)] := by kernel_rfl
theorem bytI8 : Tryd.prog.bytesOf 5 = 1 := by kernel_rfl
theorem bytI32 : Tryd.prog.bytesOf 47 = 4 := by kernel_rfl
theorem bytPr : Tryd.prog.bytesOf 33 = 40 := by kernel_rfl
theorem bytNo : Tryd.prog.bytesOf 30 = 96 := by kernel_rfl
set_option maxRecDepth 100000 in
theorem prp_trod {H : Type} {enc : TypeId × Value → H} {W : World} (fuel : Nat) (cs : List Value) (y : DataW H × List MemPlace) (h : DataW.trod enc Tryd.prog W 0 (fun _ => true) true fuel 33 cs = some y) (hw : ∀ n ∈ y.1.weights Tryd.prog 33, n ≤ reachBytes) :
    ∃ x : Pp, propR W cs x ∧ bytesL x.1 ∧ bytesL x.2 ∧ x.1.length ≤ maxLen ∧ x.2.length ≤ 140737488351232 := by
  obtain ⟨xs, n, _, rfl, hl, hlen, hf⟩ := DataW.trod_struct prp_str h
  rw [show Tryd.prog.cellsOf 33 = 2 by kernel_rfl] at hl
  rw [show (Tryd.prog.fieldsOf 33).size = 2 by kernel_rfl] at hlen
  match cs, hl with
  | [c0, c1], _ =>
    have g0 := str_field prp_str hf prpFs hw 0 9 0 rfl (by kernel_rfl) (by omega)
    have g1 := str_field prp_str hf prpFs hw 1 31 1 rfl (by kernel_rfl) (by omega)
    obtain ⟨k, k1, k2, k3⟩ := DataW.trod_string Tryd.underlying9 g0.1
    obtain ⟨a, l, c, u, e1, hu, hf1, hz⟩ := rd_trod Tryd.underlying31 Tryd.underlying5 (by kernel_rfl) g1.1 g1.2
    simp at k1 e1
    subst k1 e1
    rw [bytI8] at hz
    unfold reachBytes at hz
    exact ⟨(LB k, u), ⟨_, by simp [nums_LB], hu⟩, LB_bytes k, wf_bytes hf1, by rw [LB_len]; exact k3, by simp only; omega⟩
/-- what is known of devices that came in -/
def goodN (x : Nd) : Prop := bytN x ∧ lenN x ∧ sizN x ∧ cells x.2.1 ∧ cells x.2.2.2.2 ∧ (Lit.int .i64 x.2.2.1).wf = true
set_option maxRecDepth 100000 in
theorem nod_trod {H : Type} {enc : TypeId × Value → H} {W : World} (fuel : Nat) (cs : List Value) (y : DataW H × List MemPlace) (h : DataW.trod enc Tryd.prog W 0 (fun _ => true) true fuel 30 cs = some y) (hw : ∀ n ∈ y.1.weights Tryd.prog 30, n ≤ reachBytes) :
    ∃ x : Nd, nodR W cs x ∧ goodN x := by
  obtain ⟨xs, n, _, rfl, hl, hlen, hf⟩ := DataW.trod_struct nod_str h
  rw [show Tryd.prog.cellsOf 30 = 5 by kernel_rfl] at hl
  rw [show (Tryd.prog.fieldsOf 30).size = 5 by kernel_rfl] at hlen
  match cs, hl with
  | [c0, c1, c2, c3, c4], _ =>
    have g0 := str_field nod_str hf nodFs hw 0 9 0 rfl (by kernel_rfl) (by omega)
    have g1 := str_field nod_str hf nodFs hw 1 27 1 rfl (by kernel_rfl) (by omega)
    have g2 := str_field nod_str hf nodFs hw 2 3 2 rfl (by kernel_rfl) (by omega)
    have g3 := str_field nod_str hf nodFs hw 3 28 3 rfl (by kernel_rfl) (by omega)
    have g4 := str_field nod_str hf nodFs hw 4 27 4 rfl (by kernel_rfl) (by omega)
    obtain ⟨k, k1, k2, k3⟩ := DataW.trod_string Tryd.underlying9 g0.1
    obtain ⟨a1, l1, r1, u, e1, hu, hf1, hz1⟩ := rd_trod Tryd.underlying27 Tryd.underlying47 (by kernel_rfl) g1.1 g1.2
    obtain ⟨p, p1, p2, p3⟩ := DataW.trod_int Tryd.underlying3 g2.1
    obtain ⟨a3, l3, r3, q, e3, hq, hf3, hz3⟩ := slr_trod (sz := 2) propR (fun x : Pp => bytesL x.1 ∧ bytesL x.2 ∧ x.1.length ≤ maxLen ∧ x.2.length ≤ 140737488351232) Tryd.underlying28 (by kernel_rfl) (by omega) g3.1 g3.2 prp_trod
    obtain ⟨a4, l4, r4, c, e4, hc, hf4, hz4⟩ := rd_trod Tryd.underlying27 Tryd.underlying47 (by kernel_rfl) g4.1 g4.2
    simp at k1 e1 p1 e3 e4
    subst k1 e1 p1 e3 e4
    rw [bytI32] at hz1 hz4
    rw [bytPr] at hz3
    unfold reachBytes at hz1 hz3 hz4
    exact ⟨(LB k, u, p, q, c), ⟨_, _, _, by simp [nums_LB], hu, hq, hc⟩, ⟨LB_bytes k, fun x hx => ⟨(hf3 x hx).1, (hf3 x hx).2.1⟩⟩, ⟨by rw [LB_len]; exact k3, fun x hx => (hf3 x hx).2.2.1⟩, ⟨by simp only; omega, by simp only; omega, by simp only; omega, fun x hx => by have := (hf3 x hx).2.2.2; omega⟩, fun n hn => wf8 (hf1 n hn), fun n hn => wf8 (hf4 n hn), p3⟩
set_option maxRecDepth 100000 in
/-- a list of devices as a parameter -/
theorem nod_open {H : Type} {enc : TypeId × Value → H} {W : World} {a : Option Addr} {len cap : Nat} {d : DataW H} {ps : List MemPlace} (h : DataW.Trod enc Tryd.prog W 0 (fun _ => true) true 22 (.slice a len cap) d ps) (hw : ∀ n ∈ d.weights Tryd.prog 22, n ≤ reachBytes) :
    ∃ t : List Nd, RdT W (.slice a len cap) t ∧ (∀ x ∈ t, goodN x) ∧ t.length * 96 ≤ 140737488351232 := by
  obtain ⟨fuel, hf⟩ := h
  obtain ⟨a', l', c', xs, e, h1, h2, h3⟩ := slr_trod (y := (d, ps)) (sz := 5) nodR goodN Tryd.underlying22 (by kernel_rfl) (by omega) (show DataW.trod enc Tryd.prog W 0 (fun _ => true) true fuel 22 [.slice a len cap] = some (d, ps) from hf) hw nod_trod
  simp at e
  obtain ⟨rfl, rfl, rfl⟩ := e
  rw [bytNo] at h3
  unfold reachBytes at h3
  exact ⟨xs, h1, h2, h3⟩

/-
  Properties of devices set, dropped, got and gone through, as plain lists. No Go text in sight.
-/
/-- what wrong answers -/
def wrgF (t : List Nd) (n : Int) : Int := if frmT t = false then 1 else if n < 0 ∨ (t.length : Int) ≤ n then 19 else 0
/-- the properties of a device; its device with others -/
def prpF (t : List Nd) (n : Int) : List Pp := (t.getD n.toNat ([], [], 0, [], [])).2.2.2.1
def putN (t : List Nd) (n : Int) (l : List Pp) : List Nd := match t[n.toNat]? with
  | none => t
  | some x => t.set n.toNat (x.1, x.2.1, x.2.2.1, l, x.2.2.2.2)
/-- what Set, Drop, Get, Next answer -/
def setF (t : List Nd) (n : Int) (nm d : List Int) : List Nd × Int :=
  if wrgF t n ≠ 0 then ([], wrgF t n) else if nmF nm = false then ([], 1) else if 256 < d.length then ([], 3)
  else if pfF (prpF t n) nm = none ∧ 16 ≤ (prpF t n).length then ([], 22) else (putN t n (setP (prpF t n) nm d), 0)
def drpF (t : List Nd) (n : Int) (nm : List Int) : List Nd × Int :=
  if wrgF t n ≠ 0 then ([], wrgF t n) else match pfF (prpF t n) nm with
  | none => ([], 2)
  | some k => (putN t n (drpP (prpF t n) k), 0)
def getF (t : List Nd) (n : Int) (nm : List Int) : List Int × Int :=
  if wrgF t n ≠ 0 then ([], wrgF t n) else match pfF (prpF t n) nm with
  | none => ([], 2)
  | some k => (((prpF t n).getD k ([], [])).2, 0)
def nxtF (t : List Nd) (n : Int) (nm : List Int) : List Int × Int :=
  if wrgF t n ≠ 0 then ([], wrgF t n) else match pfF (prpF t n) nm with
  | none => if nm = [] then (((prpF t n).getD 0 ([], [])).1, 0) else ([], 2)
  | some k => (((prpF t n).getD (k + 1) ([], [])).1, 0)
/-- the children of a device -/
def chiF (t : List Nd) (n : Int) : List Int := ((List.range t.length).filter (fun i => decide (0 ≤ n ∧ (t.getD i ([], [], 0, [], [])).2.2.1 = n))).map (fun (i : Nat) => (i : Int))

theorem wrg_ok {t : List Nd} {n : Int} (h : wrgF t n = 0) : frmT t = true ∧ 0 ≤ n ∧ n.toNat < t.length := by
  unfold wrgF at h
  split at h
  · simp at h
  · rename_i c1
    split at h
    · simp at h
    · rename_i c2
      exact ⟨by simpa using c1, by omega, by omega⟩
theorem wrg_err {t : List Nd} {n : Int} : wrgF t n = 0 ∨ wrgF t n = 1 ∨ wrgF t n = 19 := by
  unfold wrgF
  split
  · exact Or.inr (Or.inl rfl)
  · split
    · exact Or.inr (Or.inr rfl)
    · exact Or.inl rfl
theorem prp_at {t : List Nd} {n : Int} (h : n.toNat < t.length) : prpF t n = t[n.toNat].2.2.2.1 := by
  unfold prpF
  rw [List.getD_eq_getElem?_getD, List.getElem?_eq_getElem h]
  rfl
theorem put_at {t : List Nd} {n : Int} (h : n.toNat < t.length) (l : List Pp) : putN t n l = t.set n.toNat (t[n.toNat].1, t[n.toNat].2.1, t[n.toNat].2.2.1, l, t[n.toNat].2.2.2.2) := by
  unfold putN
  rw [List.getElem?_eq_getElem h]
theorem put_len (t : List Nd) (n : Int) (l : List Pp) : (putN t n l).length = t.length := by
  unfold putN
  split <;> simp
theorem put_prp {t : List Nd} {n : Int} (h : n.toNat < t.length) (l : List Pp) : prpF (putN t n l) n = l := by
  rw [prp_at (by rw [put_len]; exact h)]
  simp only [put_at h, List.getElem_set_self]
theorem frm_props {t : List Nd} {n : Int} (hf : frmT t = true) (h : n.toNat < t.length) : (prpF t n).length ≤ 16 ∧ okR (prpF t n) = true := by
  rw [prp_at h]
  obtain ⟨g0, g1, g2, g3⟩ := (frm_iff t).1 hf
  have := g3 n.toNat h
  unfold okN at this
  simp only [Bool.and_eq_true, decide_eq_true_eq] at this
  exact ⟨this.2.1, this.2.2.2⟩
theorem put_formed {t : List Nd} {n : Int} {l : List Pp} (hf : frmT t = true) (h : n.toNat < t.length) (h1 : l.length ≤ 16) (h2 : okR l = true) : frmT (putN t n l) = true := by
  rw [put_at h]
  exact frm_set t n.toNat l hf h h1 h2
theorem put_wrg {t : List Nd} {n : Int} {l : List Pp} (hw : wrgF t n = 0) (h1 : l.length ≤ 16) (h2 : okR l = true) : wrgF (putN t n l) n = 0 := by
  obtain ⟨hf, h0, hn⟩ := wrg_ok hw
  have := put_formed (l := l) hf hn h1 h2
  unfold wrgF
  rw [if_neg (by rw [this]; decide), put_len, if_neg (by omega)]
theorem set_ok {t : List Nd} {n : Int} {nm d : List Int} (h : (setF t n nm d).2 = 0) : wrgF t n = 0 ∧ nmF nm = true ∧ d.length ≤ 256 ∧ ¬ (pfF (prpF t n) nm = none ∧ 16 ≤ (prpF t n).length) ∧ setF t n nm d = (putN t n (setP (prpF t n) nm d), 0) := by
  unfold setF at h ⊢
  split at h
  · rename_i c; exact absurd h c
  · rename_i c1
    split at h
    · simp at h
    · rename_i c2
      split at h
      · simp at h
      · rename_i c3
        split at h
        · simp at h
        · rename_i c4
          refine ⟨by simpa using c1, by simpa using c2, by omega, c4, ?_⟩
          rw [if_neg c1, if_neg c2, if_neg c3, if_neg c4]
theorem set_err {t : List Nd} {n : Int} {nm d : List Int} (h : ¬ (setF t n nm d).2 = 0) : (setF t n nm d).1 = [] := by
  unfold setF at h ⊢
  split
  · rfl
  · split
    · rfl
    · split
      · rfl
      · split
        · rfl
        · rename_i c1 c2 c3 c4
          rw [if_neg c1, if_neg c2, if_neg c3, if_neg c4] at h
          simp at h
theorem set_good {t : List Nd} {n : Int} {nm d : List Int} (h : (setF t n nm d).2 = 0) : (setP (prpF t n) nm d).length ≤ 16 ∧ okR (setP (prpF t n) nm d) = true := by
  obtain ⟨hw, hn, hd, hm, e⟩ := set_ok h
  obtain ⟨hf, h0, hl⟩ := wrg_ok hw
  obtain ⟨p1, p2⟩ := frm_props hf hl
  exact ⟨setP_len _ _ _ hm p1, setP_ok _ _ _ p2 hn hd⟩
theorem set_formed {t : List Nd} {n : Int} {nm d : List Int} (h : (setF t n nm d).2 = 0) : frmT (setF t n nm d).1 = true ∧ wrgF (setF t n nm d).1 n = 0 := by
  obtain ⟨hw, hn, hd, hm, e⟩ := set_ok h
  obtain ⟨hf, h0, hl⟩ := wrg_ok hw
  obtain ⟨g1, g2⟩ := set_good h
  rw [e]
  exact ⟨put_formed hf hl g1 g2, put_wrg hw g1 g2⟩
theorem drp_formed {t : List Nd} {n : Int} {nm : List Int} (h : (drpF t n nm).2 = 0) : frmT (drpF t n nm).1 = true ∧ wrgF (drpF t n nm).1 n = 0 := by
  unfold drpF at h ⊢
  split at h
  · rename_i c; exact absurd h c
  · rename_i c1
    have hw : wrgF t n = 0 := by simpa using c1
    obtain ⟨hf, h0, hl⟩ := wrg_ok hw
    obtain ⟨p1, p2⟩ := frm_props hf hl
    rw [if_neg c1]
    cases hp : pfF (prpF t n) nm with
    | none => rw [hp] at h; simp at h
    | some k =>
      obtain ⟨g, _⟩ := pf_some hp
      have q1 : (drpP (prpF t n) k).length ≤ 16 := by rw [drp_len _ _ g]; omega
      have q2 := drpP_ok _ _ p2 g
      exact ⟨put_formed hf hl q1 q2, put_wrg hw q1 q2⟩

/-- what was set is got -/
theorem setP_get (l : List Pp) (nm d : List Int) : ∃ k, pfF (setP l nm d) nm = some k ∧ ((setP l nm d).getD k ([], [])).2 = d := by
  unfold setP
  cases hp : pfF l nm with
  | some k =>
    obtain ⟨g, h1, h2⟩ := pf_some hp
    refine ⟨k, pf_hit (by simpa using g) (by simp) (fun j hj => ?_), by simp [List.getD_eq_getElem?_getD, g]⟩
    rw [set_names l nm d k hp j (by simp; omega)]
    exact h2 j hj
  | none =>
    have hn := pf_none.1 hp
    refine ⟨l.length, pf_hit (by simp) (by simp) (fun j hj => ?_), by simp [List.getD_eq_getElem?_getD]⟩
    rw [List.getElem_append_left hj]
    exact hn _ (List.getElem_mem hj)
/-- all else stays -/
theorem setP_other (l : List Pp) (nm d o : List Int) (ho : ¬ o = nm) : pfF (setP l nm d) o = pfF l o ∧ ∀ k, pfF l o = some k → ((setP l nm d).getD k ([], [])).2 = (l.getD k ([], [])).2 := by
  unfold setP
  cases hp : pfF l nm with
  | some k =>
    obtain ⟨g, h1, h2⟩ := pf_some hp
    have e : pfF (l.set k (nm, d)) o = pfF l o := by
      cases hq : pfF l o with
      | some j =>
        obtain ⟨gj, j1, j2⟩ := pf_some hq
        refine pf_hit (by simpa using gj) ?_ (fun i hi => ?_)
        · rw [set_names l nm d k hp j (by simpa using gj)]; exact j1
        · rw [set_names l nm d k hp i (by simp; omega)]; exact j2 i hi
      | none =>
        rw [pf_none] at hq ⊢
        intro x hx
        rcases List.mem_or_eq_of_mem_set hx with hx | rfl
        · exact hq x hx
        · exact fun g => ho g.symm
    refine ⟨e, fun j hj => ?_⟩
    obtain ⟨gj, j1, j2⟩ := pf_some hj
    have hne : ¬ k = j := by
      intro g
      subst g
      exact ho (j1.symm.trans h1)
    simp [List.getD_eq_getElem?_getD, List.getElem?_set, hne]
  | none =>
    have hn := pf_none.1 hp
    have e : pfF (l ++ [(nm, d)]) o = pfF l o := by
      cases hq : pfF l o with
      | some j =>
        obtain ⟨gj, j1, j2⟩ := pf_some hq
        refine pf_hit (by simp; omega) ?_ (fun i hi => ?_)
        · rw [List.getElem_append_left gj]; exact j1
        · rw [List.getElem_append_left (by omega)]; exact j2 i hi
      | none =>
        rw [pf_none] at hq ⊢
        intro x hx
        rcases List.mem_append.1 hx with hx | hx
        · exact hq x hx
        · simp at hx; subst hx; exact fun g => ho g.symm
    refine ⟨e, fun j hj => ?_⟩
    obtain ⟨gj, j1, j2⟩ := pf_some hj
    simp [List.getD_eq_getElem?_getD, List.getElem?_append_left gj]
theorem get_set {t : List Nd} {n : Int} {nm d : List Int} (h : (setF t n nm d).2 = 0) : getF (setF t n nm d).1 n nm = (d, 0) := by
  obtain ⟨hw, hn, hd, hm, e⟩ := set_ok h
  obtain ⟨hf, h0, hl⟩ := wrg_ok hw
  have hw2 := (set_formed h).2
  obtain ⟨k, k1, k2⟩ := setP_get (prpF t n) nm d
  rw [e] at hw2 ⊢
  unfold getF
  rw [if_neg (by simpa using hw2), put_prp hl, k1]
  simp only [k2]
theorem get_other {t : List Nd} {n : Int} {nm d o : List Int} (h : (setF t n nm d).2 = 0) (ho : ¬ o = nm) : getF (setF t n nm d).1 n o = getF t n o := by
  obtain ⟨hw, hn, hd, hm, e⟩ := set_ok h
  obtain ⟨hf, h0, hl⟩ := wrg_ok hw
  have hw2 := (set_formed h).2
  obtain ⟨k1, k2⟩ := setP_other (prpF t n) nm d o ho
  rw [e] at hw2 ⊢
  unfold getF
  rw [if_neg (by simpa using hw2), if_neg (by simpa using hw), put_prp hl, k1]
  cases hq : pfF (prpF t n) o with
  | none => rfl
  | some k => simp only [k2 k hq]
theorem set_nodes {t : List Nd} {n : Int} {nm d : List Int} (h : (setF t n nm d).2 = 0) : (setF t n nm d).1.length = t.length ∧ ∀ i : Nat, ¬ (i : Int) = n → (setF t n nm d).1[i]? = t[i]? := by
  obtain ⟨hw, hn, hd, hm, e⟩ := set_ok h
  obtain ⟨hf, h0, hl⟩ := wrg_ok hw
  rw [e]
  refine ⟨put_len _ _ _, fun i hi => ?_⟩
  show (putN t n _)[i]? = _
  rw [put_at hl, List.getElem?_set, if_neg (by omega)]
/-- dropped it is gone -/
theorem drp_set {t : List Nd} {n : Int} {nm d : List Int} (h : (setF t n nm d).2 = 0) : (drpF (setF t n nm d).1 n nm).2 = 0 ∧ getF (drpF (setF t n nm d).1 n nm).1 n nm = ([], 2) := by
  obtain ⟨hw2, hw⟩ := set_formed h
  obtain ⟨T, hT⟩ : ∃ T, (setF t n nm d).1 = T := ⟨_, rfl⟩
  obtain ⟨hw0, hn, hd, hm, e⟩ := set_ok h
  obtain ⟨_, _, hl0⟩ := wrg_ok hw0
  have hpr : prpF T n = setP (prpF t n) nm d := by rw [← hT, e]; exact put_prp hl0 _
  rw [hT] at hw hw2 ⊢
  obtain ⟨hf, h0, hl⟩ := wrg_ok hw
  obtain ⟨p1, p2⟩ := frm_props hf hl
  obtain ⟨k, k1, k2⟩ := setP_get (prpF t n) nm d
  rw [← hpr] at k1
  obtain ⟨g, g1, g2⟩ := pf_some k1
  have hd0 : drpF T n nm = (putN T n (drpP (prpF T n) k), 0) := by
    unfold drpF
    rw [if_neg (by simpa using hw), k1]
  have hd1 := drp_formed (t := T) (n := n) (nm := nm) (by rw [hd0])
  rw [hd0] at hd1 ⊢
  refine ⟨rfl, ?_⟩
  have hgone : pfF (drpP (prpF T n) k) nm = none := by
    rw [pf_none]
    intro x hx
    obtain ⟨i, hi, rfl⟩ := List.getElem_of_mem hx
    rw [drp_get _ k i g hi]
    have ha := (okR_iff (prpF T n)).1 p2
    have hdl := drp_len (prpF T n) k g
    split
    · rename_i c
      exact g2 i c
    · rename_i c
      intro hh
      exact ha.2 k (i + 1) g (by omega) (by omega) (g1.trans hh.symm)
  unfold getF
  rw [if_neg (by simpa using hd1.2), put_prp hl, hgone]

/-- going from property to property -/
theorem nxt_first {t : List Nd} {n : Int} (hw : wrgF t n = 0) : nxtF t n [] = (((prpF t n).getD 0 ([], [])).1, 0) := by
  obtain ⟨hf, h0, hl⟩ := wrg_ok hw
  obtain ⟨p1, p2⟩ := frm_props hf hl
  have hnone : pfF (prpF t n) [] = none := by
    rw [pf_none]
    intro x hx
    have := (((okR_iff _).1 p2).1 x hx).1
    intro e
    rw [e] at this
    have := (nm_byte this).2
    simp at this
  unfold nxtF
  rw [if_neg (by simpa using hw), hnone]
  simp
theorem nxt_at {t : List Nd} {n : Int} (hw : wrgF t n = 0) (i : Nat) (hi : i < (prpF t n).length) : nxtF t n (prpF t n)[i].1 = (((prpF t n).getD (i + 1) ([], [])).1, 0) := by
  obtain ⟨hf, h0, hl⟩ := wrg_ok hw
  obtain ⟨p1, p2⟩ := frm_props hf hl
  have ha := ((okR_iff _).1 p2).2
  have hhit : pfF (prpF t n) (prpF t n)[i].1 = some i := pf_hit hi rfl (fun j hj => ha j i (by omega) hi hj)
  unfold nxtF
  rw [if_neg (by simpa using hw), hhit]
theorem nxt_err {t : List Nd} {n : Int} {nm : List Int} (h : ¬ (nxtF t n nm).2 = 0) : (nxtF t n nm).1 = [] := by
  unfold nxtF at h ⊢
  split
  · rfl
  · rename_i c
    rw [if_neg c] at h
    cases hp : pfF (prpF t n) nm with
    | some k => rw [hp] at h; simp at h
    | none =>
      rw [hp] at h
      simp only at h ⊢
      split at h
      · simp at h
      · rename_i c2
        rw [if_neg c2]

/-
  Steps that lead through a device tree, the path of a device, and that its steps lead to it. No Go text in sight.
-/
/-- does a step lead from a to this device -/
def matN (a : Int) (nm un : List Int) (x : Nd) : Bool := decide (x.2.2.1 = a) && (decide (x.1 = nm) && (decide (un = []) || decide (x.2.1 = un)))
/-- where it leads -/
def ldF (t : List Nd) (a : Nat) (x : Sp) : Option Nat := t.findIdx? (matN a x.1 x.2.1)
def finF (t : List Nd) : List Sp → Nat → Option Nat
  | [], a => some a
  | x :: r, a => match ldF t a x with
    | none => none
    | some k => finF t r k
/-- what Find answers -/
def finT (t : List Nd) (l : List Sp) : Int × Int := if frmT t = false then (0, 1) else match finF t l 0 with
  | none => (0, 19)
  | some k => ((k : Nat), 0)
/-- the steps from the root to n -/
def stF (t : List Nd) : Nat → Nat → List Sp
  | 0, _ => []
  | f + 1, n => if n = 0 then [] else match t[n]? with
    | none => []
    | some x => stF t f x.2.2.1.toNat ++ [(x.1, x.2.1, [])]
/-- what Path answers -/
def pthF (t : List Nd) (n : Int) : List Int × Int := if wrgF t n ≠ 0 then ([], wrgF t n) else shpF (stF t n.toNat n.toNat)
/-- an elder brother of its name, where it has no unit address -/
def eldN (t : List Nd) (n : Nat) : Prop := ∃ x, t[n]? = some x ∧ x.2.1 = [] ∧ ∃ (k : Nat) (y : Nd), k < n ∧ t[k]? = some y ∧ y.2.2.1 = x.2.2.1 ∧ y.1 = x.1
/-- none on the way up -/
def noE (t : List Nd) : Nat → Nat → Prop
  | 0, _ => True
  | f + 1, n => n = 0 ∨ ¬ eldN t n ∧ ∀ x, t[n]? = some x → noE t f x.2.2.1.toNat

theorem frm_at {t : List Nd} (hf : frmT t = true) {n : Nat} (h : n < t.length) (h0 : ¬ n = 0) : nmF t[n].1 = true ∧ t[n].2.1.length ≤ 4 ∧ 0 ≤ t[n].2.2.1 ∧ t[n].2.2.1 < n ∧ twF (t.take n) t[n].2.2.1 t[n].1 t[n].2.1 = false := by
  obtain ⟨g0, g1, g2, g3⟩ := (frm_iff t).1 hf
  have := g3 n h
  unfold okN okA at this
  simp only [Bool.and_eq_true, Bool.or_eq_true, decide_eq_true_eq, Bool.not_eq_true'] at this
  rcases this.1 with g | g
  · exact absurd g h0
  · exact ⟨g.1, g.2.1, g.2.2.1, g.2.2.2.1, g.2.2.2.2⟩
theorem st_fuel {t : List Nd} (hf : frmT t = true) : ∀ (f g n : Nat), n < t.length → n ≤ f → n ≤ g → stF t f n = stF t g n
  | 0, 0, n, _, _, _ => rfl
  | 0, g + 1, n, _, h1, _ => by
    have : n = 0 := by omega
    subst this
    simp [stF]
  | f + 1, 0, n, _, _, h2 => by
    have : n = 0 := by omega
    subst this
    simp [stF]
  | f + 1, g + 1, n, h, h1, h2 => by
    simp only [stF]
    by_cases h0 : n = 0
    · simp [h0]
    · rw [if_neg h0, if_neg h0, List.getElem?_eq_getElem h]
      obtain ⟨_, _, p0, p1, _⟩ := frm_at hf h h0
      simp only
      rw [st_fuel hf f g _ (by omega) (by omega) (by omega)]
theorem st_root (t : List Nd) (f : Nat) : stF t f 0 = [] := by cases f <;> simp [stF]
theorem st_step {t : List Nd} (hf : frmT t = true) {n : Nat} (h : n < t.length) (h0 : ¬ n = 0) : stF t n n = stF t t[n].2.2.1.toNat t[n].2.2.1.toNat ++ [(t[n].1, t[n].2.1, [])] := by
  obtain ⟨_, _, p0, p1, _⟩ := frm_at hf h h0
  obtain ⟨f, rfl⟩ : ∃ f, n = f + 1 := ⟨n - 1, by omega⟩
  conv => lhs; rw [stF]
  rw [if_neg h0, List.getElem?_eq_getElem h]
  simp only
  rw [st_fuel hf f t[f + 1].2.2.1.toNat _ (by omega) (by omega) (Nat.le_refl _)]
theorem st_len {t : List Nd} (hf : frmT t = true) : ∀ n, n < t.length → (stF t n n).length ≤ n := by
  intro n
  induction n using Nat.strongRecOn with
  | _ n ih =>
    intro h
    by_cases h0 : n = 0
    · subst h0; simp [stF]
    · obtain ⟨_, _, p0, p1, _⟩ := frm_at hf h h0
      rw [st_step hf h h0]
      have := ih t[n].2.2.1.toNat (by omega) (by omega)
      simp
      omega
theorem st_ok {t : List Nd} (hf : frmT t = true) : ∀ n, n < t.length → ∀ x ∈ stF t n n, okS x = true ∧ ∃ y ∈ t, x.1 = y.1 ∧ x.2.1 = y.2.1 ∧ x.2.2 = [] := by
  intro n
  induction n using Nat.strongRecOn with
  | _ n ih =>
    intro h x hx
    by_cases h0 : n = 0
    · subst h0; simp [stF] at hx
    · obtain ⟨q1, q2, p0, p1, _⟩ := frm_at hf h h0
      rw [st_step hf h h0, List.mem_append] at hx
      rcases hx with hx | hx
      · exact ih t[n].2.2.1.toNat (by omega) (by omega) x hx
      · simp at hx
        subst hx
        refine ⟨?_, t[n], List.getElem_mem h, rfl, rfl, rfl⟩
        unfold okS
        simp [q1, q2]
theorem fin_app (t : List Nd) (x : Sp) : ∀ (l : List Sp) (a : Nat), finF t (l ++ [x]) a = (finF t l a).bind (fun b => ldF t b x)
  | [], a => by
    simp only [List.nil_append, finF, Option.bind_some]
    cases ldF t a x <;> rfl
  | y :: l, a => by
    simp only [List.cons_append, finF]
    cases ldF t a y with
    | none => rfl
    | some k => exact fin_app t x l k
theorem ld_hit {t : List Nd} (hf : frmT t = true) {n : Nat} (h : n < t.length) (h0 : ¬ n = 0) (he : ¬ eldN t n) : ldF t t[n].2.2.1.toNat (t[n].1, t[n].2.1, []) = some n := by
  obtain ⟨q1, q2, p0, p1, tw⟩ := frm_at hf h h0
  unfold ldF
  rw [List.findIdx?_eq_some_iff_getElem]
  have hp : ((t[n].2.2.1.toNat : Nat) : Int) = t[n].2.2.1 := by omega
  refine ⟨h, by simp [matN, hp], fun j hj => ?_⟩
  intro hm
  unfold matN at hm
  rw [hp] at hm
  simp only [Bool.and_eq_true, Bool.or_eq_true, decide_eq_true_eq] at hm
  obtain ⟨m1, m2, m3⟩ := hm
  by_cases hu : t[n].2.1 = []
  · exact he ⟨t[n], List.getElem?_eq_getElem h, hu, j, t[j], hj, List.getElem?_eq_getElem (by omega), m1, m2⟩
  · rcases m3 with m3 | m3
    · exact hu m3
    · unfold twF at tw
      rw [List.any_eq_false] at tw
      apply tw t[j] (by rw [List.mem_take_iff_getElem]; exact ⟨j, by omega, rfl⟩)
      simp [m1, m2, m3]
/-- the steps of a device lead to it -/
theorem fin_back {t : List Nd} (hf : frmT t = true) : ∀ n, n < t.length → ∀ f, n ≤ f → noE t f n → finF t (stF t n n) 0 = some n := by
  intro n
  induction n using Nat.strongRecOn with
  | _ n ih =>
    intro h f hfu hE
    by_cases h0 : n = 0
    · subst h0
      simp [stF, finF]
    · obtain ⟨q1, q2, p0, p1, tw⟩ := frm_at hf h h0
      obtain ⟨g, rfl⟩ : ∃ g, f = g + 1 := ⟨f - 1, by omega⟩
      rcases hE with hE | ⟨e1, e2⟩
      · exact absurd hE h0
      · have i := ih t[n].2.2.1.toNat (by omega) (by omega) g (by omega) (e2 t[n] (List.getElem?_eq_getElem h))
        rw [st_step hf h h0, fin_app, i]
        exact ld_hit hf h h0 e1
theorem st_last {t : List Nd} (hf : frmT t = true) {n : Nat} (h : n < t.length) (h0 : ¬ n = 0) : ∃ l, stF t n n = l ++ [(t[n].1, t[n].2.1, [])] := ⟨_, st_step hf h h0⟩
theorem pth_err {t : List Nd} {n : Int} : (pthF t n).2 = 0 ∨ (pthF t n).1 = [] := by
  unfold pthF
  split
  · exact Or.inr rfl
  · have h : ∀ l : List Sp, (shpF l).2 = 0 ∨ (shpF l).1 = [] := by
      intro l
      unfold shpF
      split
      · exact Or.inr rfl
      · split
        · exact Or.inl rfl
        · split
          · exact Or.inr rfl
          · exact Or.inl rfl
    exact h _

/-
  What comes of devices that came in is as good as they are.
-/
def goodT (t : List Nd) : Prop := ∀ x ∈ t, goodN x
theorem goodT.byt {t : List Nd} (h : goodT t) : ∀ x ∈ t, bytN x := fun x hx => (h x hx).1
theorem goodT.len {t : List Nd} (h : goodT t) : ∀ x ∈ t, lenN x := fun x hx => (h x hx).2.1
theorem goodT.siz {t : List Nd} (h : goodT t) : ∀ x ∈ t, sizN x := fun x hx => (h x hx).2.2.1
theorem goodT.cel {t : List Nd} (h : goodT t) : ∀ x ∈ t, cells x.2.1 := fun x hx => (h x hx).2.2.2.1
theorem good_nil : goodT [] := fun x hx => by simp at hx
theorem good_new (nm un : List Int) (p : Int) (h1 : bytesL nm) (h2 : nm.length ≤ maxLen) (h3 : cells un) (h4 : un.length ≤ 4) (h5 : (Lit.int .i64 p).wf = true) : goodN (nm, un, p, [], []) := by
  refine ⟨⟨h1, fun x hx => by simp at hx⟩, ⟨h2, fun x hx => by simp at hx⟩, ⟨by simp only; omega, by simp, by simp, fun x hx => by simp at hx⟩, h3, fun x hx => by simp at hx, h5⟩
theorem root_good : goodT [([], [], -1, [], [])] := by
  intro x hx
  simp at hx
  subst hx
  exact good_new [] [] (-1) (fun x hx => by simp at hx) (by simp) (fun x hx => by simp at hx) (by simp) (by decide)
theorem add_goodT {t : List Nd} {p : Int} {nm un : List Int} (h : goodT t) (h1 : bytesL nm) (h2 : nm.length ≤ maxLen) (h3 : cells un) : goodT (addF t p nm un).1 := by
  unfold addF
  split
  · exact good_nil
  · rename_i c1
    split
    · exact good_nil
    · rename_i c2
      split
      · exact good_nil
      · rename_i c3
        split
        · exact good_nil
        · split
          · exact good_nil
          · rename_i c5
            intro x hx
            rcases List.mem_append.1 hx with hx | hx
            · exact h x hx
            · simp at hx
              subst hx
              refine good_new nm un p h1 h2 h3 (by omega) ?_
              simp [Lit.wf, IntKind.min, IntKind.max, IntKind.bits, IntKind.signed]
              omega
def goodP (p : Pp) : Prop := bytesL p.1 ∧ bytesL p.2 ∧ p.1.length ≤ maxLen ∧ p.2.length ≤ 140737488355328
theorem put_goodT {t : List Nd} {n : Int} {l : List Pp} (h : goodT t) (h1 : ∀ p ∈ l, goodP p) (h2 : l.length ≤ 16) : goodT (putN t n l) := by
  unfold putN
  split
  · exact h
  · rename_i y hy
    intro x hx
    rcases List.mem_or_eq_of_mem_set hx with hx | rfl
    · exact h x hx
    · obtain ⟨⟨b1, b2⟩, ⟨l1, l2⟩, ⟨s1, s2, s3, s4⟩, c1, c2, wp⟩ := h y (List.mem_of_getElem? hy)
      exact ⟨⟨b1, fun p hp => ⟨(h1 p hp).1, (h1 p hp).2.1⟩⟩, ⟨l1, fun p hp => (h1 p hp).2.2.1⟩, ⟨s1, s2, by simp only; omega, fun p hp => (h1 p hp).2.2.2⟩, c1, c2, wp⟩
theorem prp_goodP {t : List Nd} {n : Int} (h : goodT t) : ∀ p ∈ prpF t n, goodP p := by
  intro p hp
  unfold prpF at hp
  rw [List.getD_eq_getElem?_getD] at hp
  cases e : t[n.toNat]? with
  | none => rw [e] at hp; simp at hp
  | some y =>
    rw [e] at hp
    obtain ⟨⟨b1, b2⟩, ⟨l1, l2⟩, ⟨s1, s2, s3, s4⟩, c1, c2, wp⟩ := h y (List.mem_of_getElem? e)
    exact ⟨(b2 p hp).1, (b2 p hp).2, l2 p hp, s4 p hp⟩
theorem set_goodT {t : List Nd} {n : Int} {nm d : List Int} (h : goodT t) (h1 : bytesL nm) (h2 : nm.length ≤ maxLen) (h3 : bytesL d) : goodT (setF t n nm d).1 := by
  by_cases he : (setF t n nm d).2 = 0
  · obtain ⟨_, _, hd, _, e⟩ := set_ok he
    rw [e]
    refine put_goodT h (fun p hp => ?_) (set_good he).1
    have : p = (nm, d) ∨ p ∈ prpF t n := by
      unfold setP at hp
      split at hp
      · rcases List.mem_or_eq_of_mem_set hp with hp | hp
        · exact Or.inr hp
        · exact Or.inl hp
      · rcases List.mem_append.1 hp with hp | hp
        · exact Or.inr hp
        · exact Or.inl (by simpa using hp)
    rcases this with rfl | hp
    · exact ⟨h1, h3, h2, by simp only; omega⟩
    · exact prp_goodP h p hp
  · rw [set_err he]
    exact good_nil
theorem drp_goodT {t : List Nd} {n : Int} {nm : List Int} (h : goodT t) : goodT (drpF t n nm).1 := by
  unfold drpF
  split
  · exact good_nil
  · rename_i hw
    split
    · exact good_nil
    · rename_i k hk
      obtain ⟨hf, h0, hn⟩ := wrg_ok (t := t) (n := n) (by simpa using hw)
      have hl := (frm_props (n := n) hf hn).1
      refine put_goodT h (fun p hp => ?_) ?_
      · unfold drpP at hp
        rcases List.mem_append.1 hp with hp | hp
        · exact prp_goodP h p (List.mem_of_mem_take hp)
        · exact prp_goodP h p (List.mem_of_mem_drop hp)
      · unfold drpP
        simp
        omega
theorem get_bytes {t : List Nd} {n : Int} {nm : List Int} (h : goodT t) : bytesL (getF t n nm).1 := by
  unfold getF
  split
  · exact fun x hx => by simp at hx
  · split
    · exact fun x hx => by simp at hx
    · rename_i k hk
      obtain ⟨g, _, _⟩ := pf_some hk
      rw [List.getD_eq_getElem?_getD, List.getElem?_eq_getElem g]
      exact (prp_goodP h _ (List.getElem_mem g)).2.1

/-
  What a bound on the number of values and letters says of a slice's length.
-/
theorem bk_pos {H : Type} : ∀ d : DataW H, 1 ≤ Rows.uptoBulk d
  | .lit (.string _) => by simp [Rows.uptoBulk]
  | .lit (.int _ _) => by simp [Rows.uptoBulk]
  | .lit (.bool _) => by simp [Rows.uptoBulk]
  | .lit (.float _ _) => by simp [Rows.uptoBulk]
  | .lit .nil => by simp [Rows.uptoBulk]
  | .nil => by simp [Rows.uptoBulk]
  | .ptr _ => by simp [Rows.uptoBulk]
  | .slice _ _ => by simp [Rows.uptoBulk]
  | .agg _ => by simp [Rows.uptoBulk]
  | .iface _ _ => by simp [Rows.uptoBulk]
  | .map _ => by simp [Rows.uptoBulk]
  | .held _ => by simp [Rows.uptoBulk]
theorem bk_len {H : Type} : ∀ l : List (DataW H), l.length ≤ Rows.uptoBulkAll l
  | [] => Nat.zero_le _
  | d :: r => by
    have h1 := bk_pos d
    have h2 := bk_len r
    simp only [Rows.uptoBulkAll, List.length_cons]
    omega
theorem bk_mem {H : Type} {d : DataW H} : ∀ {l : List (DataW H)}, d ∈ l → Rows.uptoBulk d ≤ Rows.uptoBulkAll l
  | x :: r, h => by
    simp only [Rows.uptoBulkAll]
    rcases List.mem_cons.1 h with rfl | h
    · omega
    · have := bk_mem h
      omega
theorem bk_slice {H : Type} (a b : List (DataW H)) : a.length + b.length ≤ Rows.uptoBulk (.slice a b) := by
  have h1 := bk_len a
  have h2 := bk_len b
  simp only [Rows.uptoBulk]
  omega
theorem bk_string {H : Type} (l : List UInt8) : l.length ≤ Rows.uptoBulk (DataW.lit (H := H) (.string l)) := by
  simp [Rows.uptoBulk]

/-
  Named, EncodeInt, EncodeText of the document's answer for properties.
-/
theorem run_at {w : World} (s : ByteArray) (k : Nat) (h : k < s.size) (hm : s.size ≤ maxLen) : (Instr.index 9 (.string s) (.int .i64 (k : Int))).run Tryd.prog w = .ok (.int .u8 (s[k].toNat : Int)) w := by
  unfold maxLen at hm
  rw [run_index_string (h := Tryd.underlying9)]
  simp [h]

theorem run_bad (k : Nat) (hk : k < 6) (w : World) : (Instr.index 9 (.string ⟨#[47, 92, 58, 91, 93, 64]⟩) (.int .i64 (k : Int))).run Tryd.prog w = .ok (.int .u8 (([47, 92, 58, 91, 93, 64] : List Int).getD k 0)) w := by
  rw [run_at ⟨#[47, 92, 58, 91, 93, 64]⟩ k (show k < 6 from hk) (by decide)]
  have : k = 0 ∨ k = 1 ∨ k = 2 ∨ k = 3 ∨ k = 4 ∨ k = 5 := by omega
  rcases this with rfl | rfl | rfl | rfl | rfl | rfl <;> rfl

set_option maxHeartbeats 1000000 in
set_option maxRecDepth 100000 in
theorem w_rnamed (s : ByteArray) (w : World) (hs : s.size ≤ maxLen) :
    Calls Tryd.prog 33 #[.string s] w fun e w' => e = .returned (.bool (nmF (L s))) ∧ Below w.heap.size w w' := by
  have hs2 := hs
  unfold maxLen at hs2
  have z0 := run_bad 0 (by omega)
  have z1 := run_bad 1 (by omega)
  have z2 := run_bad 2 (by omega)
  have z3 := run_bad 3 (by omega)
  have z4 := run_bad 4 (by omega)
  have z5 := run_bad 5 (by omega)
  simp only [List.getD_eq_getElem?_getD, List.getElem?_cons_zero, List.getElem?_cons_succ, Option.getD_some, Int.cast_ofNat_Int] at z0 z1 z2 z3 z4 z5
  by_cases h1 : 1 ≤ s.size ∧ s.size ≤ 31
  · obtain ⟨h1, h31⟩ := h1
    go_enter Tryd.func33, Tryd.ntmps33
    go_wp2_with fail
    go_loopw [3] (fun I wx => ∃ (k : Nat), (k : Int) ≤ s.size ∧ I = .int .i64 k ∧ Hid (((L s).take k).all nmC = true) ∧ Below w.heap.size w wx) (fun I _ => (s.size - intOf I).toNat)
    case atStart => exact ⟨0, by omega, rfl, hid rfl, Below.refl _ _⟩
    case round =>
      obtain ⟨k, hk, rfl, ha, hb⟩ := hrel
      by_cases hlt : (k : Int) < s.size
      · have hkk : k < s.size := by omega
        obtain ⟨c, hc⟩ : ∃ c, (s[k].toNat : Int) = c := ⟨_, rfl⟩
        have hcb := L_bd s k hkk
        rw [hc] at hcb
        obtain ⟨c0, c1⟩ := hcb
        have hLd : Hid (L s = (L s).take k ++ c :: (L s).drop (k + 1)) := by
          show _ = _
          rw [← hc, ← L_drop s k hkk, List.take_append_drop]
        have hLt : Hid ((L s).take (k + 1) = (L s).take k ++ [c]) := by show _ = _; rw [← hc]; exact L_take s k hkk
        cases hcc : nmC c
        · have hf : Hid (nmF (L s) = false) := by show _ = _; rw [hLd.out]; exact nm_mid _ _ _ hcc
          have hcs : c < 33 ∨ 126 < c ∨ (65 ≤ c ∧ c ≤ 90) ∨ c = 47 ∨ c = 92 ∨ c = 58 ∨ c = 91 ∨ c = 93 ∨ c = 64 := by simp [nmC] at hcc; omega
          have hrun := run_at (w := wr) s k hkk hs
          rw [hc] at hrun
          clear hcc hLd hLt hc
          rcases hcs with h | h | h | h | h | h | h | h | h
          · go_wp2_with fail
            go_ret
            exact ⟨ret_b hf.out.symm, hb⟩
          · go_wp2_with fail
            go_ret
            exact ⟨ret_b hf.out.symm, hb⟩
          · obtain ⟨h, h'⟩ := h
            go_wp2_with fail
            go_ret
            exact ⟨ret_b hf.out.symm, hb⟩
          all_goals subst h
          all_goals go_wp2_with fail
          all_goals go_rounds 7
          all_goals go_ret
          all_goals exact ⟨ret_b hf.out.symm, hb⟩
        · have ha2 : Hid (((L s).take (k + 1)).all nmC = true) := by
            show _ = _
            rw [hLt.out, List.all_append, ha.out]
            simp [hcc]
          simp [nmC] at hcc
          have hrun := run_at (w := wr) s k hkk hs
          rw [hc] at hrun
          obtain ⟨q1, q2, q3, n1, n2, n3, n4, n5, n6⟩ := hcc
          clear hLd hLt hc
          rcases q3 with hq | hq
          all_goals go_wp2_with fail
          all_goals go_rounds 7
          all_goals go_roundw
          case rel => exact ⟨k + 1, by omega, by go_num, ha2, hb⟩
          case measure => simp [intOf]; omega
          case rel => exact ⟨k + 1, by omega, by go_num, ha2, hb⟩
          case measure => simp [intOf]; omega
      · have hf : Hid (nmF (L s) = true) := by
          show _ = _
          have := ha.out
          rw [List.take_of_length_le (by rw [L_len]; omega)] at this
          unfold nmF
          rw [this, L_len]
          simp
          omega
        go_wp2_with fail
        go_ret
        exact ⟨ret_b hf.out.symm, hb⟩
  · have hf : Hid (nmF (L s) = false) := by
      show _ = _
      unfold nmF
      rw [L_len]
      simp
      omega
    by_cases h0 : s.size < 1
    · go_enter Tryd.func33, Tryd.ntmps33
      go_wp2_with fail
      go_ret
      exact ⟨ret_b hf.out.symm, Below.refl _ _⟩
    · have h32 : (31 : Int) < s.size := by omega
      go_enter Tryd.func33, Tryd.ntmps33
      go_wp2_with fail
      go_ret
      exact ⟨ret_b hf.out.symm, Below.refl _ _⟩

/-- one byte more on a row of bytes of the call's own -/
def Own8 (base : Nat) (w : World) (v : Value) (xs : List Int) : Prop := w.ownsRow base 5 1 v xs.length (xs.map (Value.int .u8))

theorem enc_at (n : Int) (h0 : 0 ≤ n) (k : Nat) (hk : k ≤ 3) : (beB 4 n).take (3 - k + 1) = (beB 4 n).take (3 - k) ++ [n / 2 ^ (8 * k) % 256] := by
  have e : beB 4 n = [n / 256 / 256 / 256 % 256, n / 256 / 256 % 256, n / 256 % 256, n % 256] := by simp [beB]
  rw [e]
  have : k = 0 ∨ k = 1 ∨ k = 2 ∨ k = 3 := by omega
  rcases this with rfl | rfl | rfl | rfl
  all_goals simp
  all_goals omega

/-
  Fetch and Text of the document's answer for a memory of bytes.
-/
/-- a byte of the memory: its address' rule, its cell, its bounds -/
theorem mem_at {w : World} {v : Value} {xs : List Int} (h : Rd .u8 w v xs) (hb : bytesL xs) (i : Int) (h0 : 0 ≤ i) (h1 : i < xs.length) :
    ∃ (ad : Addr) (b : Int), (∀ w', (Instr.indexAt 31 v (.int .i64 i)).run Tryd.prog w' = .ok (.pointer (some ad)) w') ∧ w.cell? ad = some (.int .u8 b) ∧ 0 ≤ b ∧ b < 256 ∧ xs.getD i.toNat 0 = b := by
  obtain ⟨ad, h2, h3⟩ := rd_idx h uB zB i h0 h1
  have hm : xs.getD i.toNat 0 ∈ xs := by
    rw [List.getD_eq_getElem?_getD, List.getElem?_eq_getElem (by omega)]
    simp
  exact ⟨ad, _, h2, h3, (hb _ hm).1, (hb _ hm).2, rfl⟩
theorem take_one (xs : List Int) (p : Nat) (h : p < xs.length) : (xs.drop p).take 1 = [xs.getD p 0] := by
  rw [List.drop_eq_getElem_cons h, List.getD_eq_getElem?_getD, List.getElem?_eq_getElem h]; rfl
theorem take_more (xs : List Int) (p n : Nat) (h : p < xs.length) : (xs.drop p).take (n + 1) = xs.getD p 0 :: (xs.drop (p + 1)).take n := by
  rw [List.drop_eq_getElem_cons h, List.getD_eq_getElem?_getD, List.getElem?_eq_getElem h]; rfl

/-
  EncodeText, DecodeInt, DecodeText, Join, Ints, Texts of the document's answer for properties.
-/
/-- append of one cell onto a row of the call's own -/
theorem wpList_append_one {P : Program} {w : World} {ops : Array Oper} {rest : List Oper} {o : Oper} {a : Act} {Q : Exit → Act → World → Prop} (hgd : o.guard = none) (s x : Operand) (t : TypeId)
    (ho : o.op = .call { callee := .builtin .append, args := #[s, x], argTypes := #[t, t] })
    (base : Nat) (e : TypeId) (i : TypeInfo) (z : Value) (bytes : Nat) (ht : P.underlying t = some (.slice e)) (hi : P.info? e = some i) (hz : i.zero = some z) (hsize : i.size = 1) (hby : i.bytes = bytes) (hz1 : z.cells = #[z])
    (v : Value) (cs : List Value) (hs : a.eval s = v) (hown : w.ownsRow base e 1 v cs.length cs)
    (b : Nat) (c : Value) (hx : a.eval x = .slice (some ⟨b, 0, none⟩) 1 1) (hc : w.cell? ⟨b, 0, none⟩ = some c) (hc1 : c.oneCell' = true)
    (h63 : cs.length + 1 ≤ maxLen) (hbytes : (cs.length + 1) * bytes ≤ 140737488355328) (hbase : base ≤ w.heap.size)
    (h : ∀ v' w', w'.ownsRow base e 1 v' (cs ++ [c]).length (cs ++ [c]) → w.grownBy w' v.ownBlock → wpList P ops Q rest (a.put o.dst v') w') : wpList P ops Q (o :: rest) a w := by
  refine wpList_plain hgd fun _ hK => ?_
  refine wp_append_own w s x t ho base e i z 1 bytes ht hi hz hsize hby (by rw [hz1]; rfl) (by decide) v cs.length _ hs hown ⟨b, 0, none⟩ 1 1 [c] hx (by simp) ?_ ?_ (by simpa using h63) (by simpa using hbytes) hbase ?_
  · intro j u hj
    have : j = 0 := by
      rcases Nat.eq_zero_or_pos j with h | h
      · exact h
      · rw [List.getElem?_eq_none (by simp; omega)] at hj; cases hj
    subst this
    simp at hj
    subst hj
    simpa [Addr.add] using hc
  · intro u hu
    simp at hu
    subst hu
    exact hc1
  · intro v' w' h2 h3 _
    exact hK _ _ (h v' w' (by simpa using h2) h3)

theorem enT_zero (l : List Int) (k : Nat) (h : k < l.length) (hz : l[k] = 0) : enTF l = ([], 15) := by
  unfold enTF
  rw [if_pos]
  rw [Bool.eq_false_iff]
  intro hall
  rw [List.all_eq_true] at hall
  have := hall l[k] (List.getElem_mem h)
  simp [hz] at this
theorem enT_long (l : List Int) (h : l.all (fun c => decide (¬ c = 0)) = true) (hl : 256 ≤ l.length) : enTF l = ([], 3) := by
  unfold enTF
  rw [h, if_neg (by decide), if_pos hl]
theorem enT_ok (l : List Int) (h : l.all (fun c => decide (¬ c = 0)) = true) (hl : ¬ 256 ≤ l.length) : enTF l = (l ++ [0], 0) := by
  unfold enTF
  rw [h, if_neg (by decide), if_neg hl]

theorem deT_hit (l : List Int) (i : Nat) (h : i < l.length) (hz : l[i] = 0) (inv : spl 0 [] l = spl 0 (l.take i) (l.drop i)) : deTF l = (l.take i, l.drop (i + 1), 0) := by
  have hl := spl_len 0 (l.drop (i + 1)) []
  unfold deTF
  rw [inv, List.drop_eq_getElem_cons h, spl, if_pos hz]
  cases hq : spl 0 [] (l.drop (i + 1)) with
  | nil => rw [hq] at hl; simp at hl
  | cons q r =>
    simp
    omega
theorem deT_miss (l : List Int) (inv : spl 0 [] l = spl 0 l []) : deTF l = ([], [], 2) := by
  unfold deTF
  rw [inv]
  rfl
theorem spl_step (l : List Int) (i : Nat) (h : i < l.length) (hz : ¬ l[i] = 0) (inv : spl 0 [] l = spl 0 (l.take i) (l.drop i)) : spl 0 [] l = spl 0 (l.take (i + 1)) (l.drop (i + 1)) := by
  rw [inv, List.drop_eq_getElem_cons h, spl, if_neg hz, List.take_succ_eq_append_getElem h]

/-
  Lists of texts compared; Join, Ints, Texts of the document's answer for properties.
-/
theorem sameS_take (xs ys : List ByteArray) (k : Nat) (h1 : k < xs.length) (h2 : k < ys.length) (h : xs.take k = ys.take k) (e : xs[k] = ys[k]) : xs.take (k + 1) = ys.take (k + 1) := by
  rw [List.take_succ_eq_append_getElem h1, List.take_succ_eq_append_getElem h2, h, e]

theorem joi_step (ps : List (List Int)) (k : Nat) (h : k < ps.length) : (ps.take (k + 1)).flatten = (ps.take k).flatten ++ ps[k] := by
  rw [List.take_succ_eq_append_getElem h, List.flatten_append, List.flatten_cons, List.flatten_nil, List.append_nil]
theorem joi_over (ps : List (List Int)) (k : Nat) (h : k < ps.length) (hl : 256 < (ps.take k).flatten.length + ps[k].length) : joiF ps = ([], 3) := by
  unfold joiF
  rw [if_pos]
  have : ps.flatten = (ps.take (k + 1)).flatten ++ (ps.drop (k + 1)).flatten := by rw [← List.flatten_append, List.take_append_drop]
  rw [this, joi_step ps k h]
  simp only [List.length_append]
  omega
theorem joi_all (ps : List (List Int)) (hl : ps.flatten.length ≤ 256) : joiF ps = (ps.flatten, 0) := by
  unfold joiF
  rw [if_neg (by omega)]

/-
  Ints and Texts of the document's answer for properties.
-/
theorem int_step (l : List Int) (h : 4 ≤ l.length) : intL l = beV (l.take 4) :: intL (l.drop 4) := by
  match l, h with
  | a :: b :: c :: d :: r, _ => simp [intL]
theorem int_none (l : List Int) (h : l.length < 4) : intL l = [] := by
  match l, h with
  | [], _ => rfl
  | [_], _ => rfl
  | [_, _], _ => rfl
  | [_, _, _], _ => rfl
theorem beV_u32 (l : List Int) (h : l.length = 4) (hb : bytesL l) : 0 ≤ beV l ∧ beV l < 4294967296 := by
  match l, h with
  | [a, b, c, d], _ =>
    have h1 := hb a (by simp)
    have h2 := hb b (by simp)
    have h3 := hb c (by simp)
    have h4 := hb d (by simp)
    simp [beV]
    omega

theorem spl_tex : ∀ (l cur : List Int),
    (spl 0 cur l = [cur ++ l] ∧ texL cur l = if cur ++ l = [] then some [] else none) ∨
    ∃ a b q r, l = a ++ 0 :: b ∧ spl 0 cur l = (cur ++ a) :: q :: r ∧ texL cur l = (texL [] b).map ((cur ++ a) :: ·)
  | [], cur => Or.inl ⟨by simp [spl], by simp [texL]⟩
  | c :: l, cur => by
    by_cases hc : c = 0
    · subst hc
      have hl := spl_len 0 l []
      cases hq : spl 0 [] l with
      | nil => rw [hq] at hl; simp at hl
      | cons q r => exact Or.inr ⟨[], l, q, r, rfl, by rw [spl, if_pos rfl, hq, List.append_nil], by rw [texL, if_pos rfl, List.append_nil]⟩
    · rcases spl_tex l (cur ++ [c]) with ⟨h1, h2⟩ | ⟨a, b, q, r, h1, h2, h3⟩
      · refine Or.inl ⟨?_, ?_⟩
        · rw [spl, if_neg hc, h1]; simp
        · rw [texL, if_neg hc, h2]; simp
      · refine Or.inr ⟨c :: a, b, q, r, by rw [h1]; rfl, ?_, ?_⟩
        · rw [spl, if_neg hc, h2]; simp
        · rw [texL, if_neg hc, h3]; simp
/-- taking the first text off, and what is read of all -/
theorem deT_tex (l : List Int) (h : l ≠ []) : (deTF l = ([], [], 2) ∧ texL [] l = none) ∨ ∃ p D, deTF l = (p, D, 0) ∧ texL [] l = (texL [] D).map (p :: ·) ∧ l = p ++ 0 :: D := by
  rcases spl_tex l [] with ⟨h1, h2⟩ | ⟨a, b, q, r, h1, h2, h3⟩
  · refine Or.inl ⟨?_, ?_⟩
    · unfold deTF; rw [h1]
    · rw [h2, List.nil_append, if_neg h]
  · refine Or.inr ⟨a, b, ?_, by simpa using h3, h1⟩
    unfold deTF
    rw [h2, h1]
    simp
theorem bytes_of_app {a b : List Int} {c : Int} (h : bytesL (a ++ c :: b)) : bytesL a ∧ bytesL b :=
  ⟨fun x hx => h x (by simp [hx]), fun x hx => h x (by simp [hx])⟩

/-
  Small and Value of the document's answer return the plain functions, for all bytes and bases.
-/
/-- the constant text of all digits -/
def dgs : ByteArray := ⟨#[48, 49, 50, 51, 52, 53, 54, 55, 56, 57, 97, 98, 99, 100, 101, 102, 103, 104, 105, 106, 107, 108, 109, 110, 111, 112, 113, 114, 115, 116, 117, 118, 119, 120, 121, 122]⟩
theorem dgs_at : ∀ k : Fin 36, ((dgs.data[k.val]!).toNat : Int) = dg k.val := by decide
theorem dgs_size : dgs.size = 36 := by decide
theorem dgs_get (k : Nat) (h : k < dgs.size) : ((dgs[k]'h).toNat : Int) = dg k := by
  have e := dgs_at ⟨k, by rw [dgs_size] at h; exact h⟩
  have h2 : k < dgs.data.size := h
  simp only [getElem!_pos dgs.data k h2] at e
  exact e
theorem run_dgs0 (k : Nat) (hk : (k : Int) < 36) (w : World) : (Instr.index 9 (.string dgs) (.int .i64 k)).run Tryd.prog w = .ok (.int .u8 (dg k)) w := by
  have hs : k < dgs.size := by rw [dgs_size]; omega
  rw [run_index_string _ _ _ _ _ Tryd.underlying9, dif_pos ⟨by omega, by rw [dgs_size]; omega⟩]
  simp only [Int.toNat_natCast, dgs_get k hs]
theorem run_dgs (k : Nat) (hk : (k : Int) < 36) (w : World) : (Instr.index 9 (.string ⟨#[48, 49, 50, 51, 52, 53, 54, 55, 56, 57, 97, 98, 99, 100, 101, 102, 103, 104, 105, 106, 107, 108, 109, 110, 111, 112, 113, 114, 115, 116, 117, 118, 119, 120, 121, 122]⟩) (.int .i64 k)).run Tryd.prog w = .ok (.int .u8 (dg k)) w :=
  run_dgs0 k hk w

theorem w_rsmall (c : Int) (w : World) (h0 : 0 ≤ c) (h1 : c < 256) : Calls Tryd.prog 60 #[.int .u8 c] w fun e w' => e = .returned (.int .u8 (sm c)) ∧ w' = w := by
  go_enter Tryd.func60, Tryd.ntmps60
  go_wp2
  all_goals go_ret
  all_goals exact ⟨ret_i (by unfold sm; omega), rfl⟩

set_option maxHeartbeats 400000 in
theorem w_rvalue (c b : Int) (w : World) (h0 : 0 ≤ c) (h1 : c < 256) (g0 : 0 ≤ b) (g1 : b < 4294967296) :
    Calls Tryd.prog 56 #[.int .u8 c, .int .u32 b] w fun e w' => e = .returned (.tuple #[.int .u32 (vl c b), .bool (isD c b)]) ∧ Gr w w' := by
  by_cases hb : b < 2 ∨ 36 < b
  · obtain ⟨e1, e2⟩ := isD_unfit c b hb
    rw [e1, e2]
    rcases hb with hb | hb
    · go_enter Tryd.func56, Tryd.ntmps56
      go_wp2
      go_ret2
      exact ⟨rfl, Gr.refl _⟩
    · have : ¬ b < 2 := by omega
      go_enter Tryd.func56, Tryd.ntmps56
      go_wp2
      go_ret2
      exact ⟨rfl, Gr.refl _⟩
  · have b0 : 2 ≤ b := by omega
    have b1 : b ≤ 36 := by omega
    clear hb
    obtain ⟨s0, s1⟩ := sm_bd c h0 h1
    go_enter Tryd.func56, Tryd.ntmps56
    go_wp2
    go_loopw [6] (fun i wx => ∃ k : Nat, (k : Int) ≤ b ∧ i = .int .i64 k ∧ (∀ j : Nat, j < k → ¬ dg j = sm c) ∧ Gr w wx) (fun i _ => (b - intOf i).toNat)
    case atStart => exact ⟨0, by omega, rfl, fun j hj => absurd hj (by omega), Gr.refl _⟩
    case round =>
      obtain ⟨k, hk, rfl, hm, hgr⟩ := hrel
      have HM : Hid (∀ j : Nat, j < k → ¬ dg j = sm c) := hm
      clear hm
      by_cases hlt : (k : Int) < b
      · have hr := run_dgs k (by omega)
        by_cases he : dg k = sm c
        · obtain ⟨e1, e2⟩ := isD_hit c b k h0 h1 b0 b1 (by omega) hlt he
          have E1 : Hid (isD c b = true) := e1
          have E2 : Hid (vl c b = k) := e2
          clear e1 e2
          go_wp2
          go_quiet ((go_at_call 60; exact Calls.quiet_of_same (w_rsmall _ _ h0 h1)))
          go_wp2
          go_ret2
          exact ⟨ret_ib E2.out.symm E1.out.symm, grown_drewN hgr _⟩
        · go_wp2
          go_quiet ((go_at_call 60; exact Calls.quiet_of_same (w_rsmall _ _ h0 h1)))
          go_wp2
          go_roundw
          case rel =>
            refine ⟨k + 1, by omega, by go_num, fun j hj => ?_, grown_drewN hgr _⟩
            by_cases hjk : j = k
            · subst hjk; exact he
            · exact HM.out j (by omega)
          case measure => simp [intOf]; omega
      · obtain ⟨e1, e2⟩ := isD_miss c b h0 h1 (fun j hj => HM.out j (by omega))
        have E1 : Hid (isD c b = false) := e1
        have E2 : Hid (vl c b = 0) := e2
        clear e1 e2
        go_wp2
        go_ret2
        exact ⟨ret_ib E2.out.symm E1.out.symm, hgr⟩

/-
  Parse of the document's answer returns the plain reading of a text, for all texts and bases.
-/
set_option maxHeartbeats 2000000 in
theorem w_rparse_pos (s : ByteArray) (b : Int) (w : World) (hs : s.size ≤ maxLen) (b0 : 2 ≤ b) (b1 : b ≤ 36) (hz : 0 < s.size) (hc : ((s[0].toNat : Int) == 45) = false) :
    Calls Tryd.prog 51 #[.string s, .int .u32 b] w fun e w' => e = .returned (.tuple #[.int .u32 (prsT false (L s) b).1, .int .i64 (prsT false (L s) b).2]) ∧ Gr w w' := by
  unfold maxLen at hs
  have hz2 : ((s.size : Int) == 0) = false := beq_eq_false_iff_ne.2 (by omega)
  go_enter Tryd.func51, Tryd.ntmps51
  go_wp2_with fail
  go_loopw [7, 8, 9] (fun N B i wx => ∃ (k : Nat) (n : Int) (bg : Bool), (k : Int) ≤ s.size ∧ i = .int .i64 k ∧ N = .int .u64 n ∧ B = .bool bg ∧ Hid (allD b ((L s).take k) = true) ∧ 0 ≤ n ∧ n ≤ 154618822655 ∧ Hid (bg = true → 4294967296 ≤ num b ((L s).take k)) ∧ Hid (bg = false → n = num b ((L s).take k) ∧ n < 4294967296) ∧ Gr w wx) (fun _ _ i _ => (s.size - intOf i).toNat)
  case atStart => exact ⟨0, 0, false, by omega, rfl, rfl, rfl, by show _ = _; simp [allD], by omega, by omega, hid (fun h => by cases h), hid (fun _ => ⟨by simp [num], by omega⟩), Gr.refl _⟩
  case round =>
    obtain ⟨k, n, bg, hk, rfl, rfl, rfl, hA, n0, n1, hB1, hB2, hgr⟩ := hrel
    by_cases hlt : (k : Int) < s.size
    · have hks : k < s.size := by omega
      obtain ⟨c0, c1⟩ := L_bd s k hks
      have ht : Hid ((L s).take (k + 1) = (L s).take k ++ [(s[k].toNat : Int)]) := L_take s k hks
      obtain ⟨v0, v1⟩ := vl_bd (s[k].toNat : Int) b c0 c1
      cases hd : isD (s[k].toNat : Int) b
      · have hfin : Hid (prsT false (L s) b = (0, 15)) := by
          show _ = _
          have e : L s = (L s).take k ++ (s[k].toNat : Int) :: (L s).drop (k + 1) := by rw [← L_drop s k hks, List.take_append_drop]
          have : allD b (L s) = false := by rw [e]; exact allD_mid b _ _ _ hd
          unfold prsT; simp [this]
        go_wp2_with (go_at_call 56; refine (w_rvalue _ _ _ c0 c1 (by omega) (by omega)).mono ?_; rintro e w1 ⟨rfl, hg1⟩)
        go_ret2
        exact ⟨by rw [hfin.out]; rfl, grown_trans hgr hg1⟩
      · have hA2 : Hid (allD b ((L s).take (k + 1)) = true) := by show _ = _; rw [ht.out, allD_snoc, hA.out, hd]; rfl
        cases bg
        · obtain ⟨hn, n2⟩ := hB2.out rfl
          obtain ⟨m0, m1⟩ := mul_b n b n0 n2 b0 b1
          have hnum : Hid (num b ((L s).take (k + 1)) = n * b + vl (s[k].toNat : Int) b) := by show _ = _; rw [ht.out, num_snoc, ← hn]
          clear hn
          rcases (show 4294967296 ≤ n * b + vl (s[k].toNat : Int) b ∨ n * b + vl (s[k].toNat : Int) b < 4294967296 by omega) with hbig | hbig
          · have hbb : decide (4294967296 ≤ n * b + vl (s[k].toNat : Int) b) = true := by simp; omega
            go_wp2_with (go_at_call 56; refine (w_rvalue _ _ _ c0 c1 (by omega) (by omega)).mono ?_; rintro e w1 ⟨rfl, hg1⟩)
            go_roundw
            case rel => exact ⟨k + 1, n * b + vl (s[k].toNat : Int) b, true, by omega, by go_num, rfl, rfl, hA2, by omega, by omega, hid (fun _ => by rw [hnum.out]; omega), hid (fun h => by cases h), grown_trans hgr hg1⟩
            case measure => simp [intOf]; omega
          · have hbb : decide (4294967296 ≤ n * b + vl (s[k].toNat : Int) b) = false := by simp; omega
            go_wp2_with (go_at_call 56; refine (w_rvalue _ _ _ c0 c1 (by omega) (by omega)).mono ?_; rintro e w1 ⟨rfl, hg1⟩)
            go_roundw
            case rel => exact ⟨k + 1, n * b + vl (s[k].toNat : Int) b, false, by omega, by go_num, rfl, rfl, hA2, by omega, by omega, hid (fun h => by cases h), hid (fun _ => ⟨by rw [hnum.out], hbig⟩), grown_trans hgr hg1⟩
            case measure => simp [intOf]; omega
        · have hge : Hid (4294967296 ≤ num b ((L s).take (k + 1))) := by
            show _ ≤ _
            rw [ht.out, num_snoc]
            have := mul_ge _ b (hB1.out rfl) b0
            omega
          go_wp2_with (go_at_call 56; refine (w_rvalue _ _ _ c0 c1 (by omega) (by omega)).mono ?_; rintro e w1 ⟨rfl, hg1⟩)
          go_roundw
          case rel => exact ⟨k + 1, n, true, by omega, by go_num, rfl, rfl, hA2, by omega, by omega, hid (fun _ => hge.out), hid (fun h => by cases h), grown_trans hgr hg1⟩
          case measure => simp [intOf]; omega
    · obtain rfl : k = s.size := by omega
      have hne : ¬ L s = [] := by intro h; have := L_len s; rw [h] at this; simp at this; omega
      have htk : (L s).take s.size = L s := List.take_of_length_le (by rw [L_len]; exact Nat.le_refl _)
      rw [htk] at hA hB1 hB2
      cases bg
      · obtain ⟨hn, n2⟩ := hB2.out rfl
        have hfin : Hid (prsT false (L s) b = (n, 0)) := by
          show _ = _
          unfold prsT; rw [if_neg hne, if_neg (by rw [hA.out]; decide), if_neg (by omega)]; simp [← hn]
        clear hn htk
        go_wp2_with fail
        go_ret2
        exact ⟨by rw [hfin.out]; exact ret_ii (by simp; try omega) rfl, hgr⟩
      · have hfin : Hid (prsT false (L s) b = (0, 4)) := by
          show _ = _
          have := hB1.out rfl
          unfold prsT; rw [if_neg hne, if_neg (by rw [hA.out]; decide), if_pos this]
        clear htk
        go_wp2_with fail
        go_ret2
        exact ⟨by rw [hfin.out]; rfl, hgr⟩

set_option maxHeartbeats 2000000 in
theorem w_rparse_neg (s : ByteArray) (b : Int) (w : World) (hs : s.size ≤ maxLen) (b0 : 2 ≤ b) (b1 : b ≤ 36) (hz : 1 < s.size) (hc : ((s[0]'(by omega)).toNat : Int) = 45) :
    Calls Tryd.prog 51 #[.string s, .int .u32 b] w fun e w' => e = .returned (.tuple #[.int .u32 (prsT true (L s).tail b).1, .int .i64 (prsT true (L s).tail b).2]) ∧ Gr w w' := by
  unfold maxLen at hs
  have hz2 : (((s.size - 1 : Nat) : Int) == 0) = false := beq_eq_false_iff_ne.2 (by omega)
  have hz3 : 0 < s.size := by omega
  have hc2 : ((s[0].toNat : Int) == 45) = true := by simp [hc]
  obtain ⟨T, hT⟩ : ∃ T, s.extract 1 s.size = T := ⟨_, rfl⟩
  have hTz : T.size = s.size - 1 := by rw [← hT]; simp
  have hTL : Hid (L T = (L s).tail) := by show _ = _; rw [← hT]; exact L_tail s
  rw [← hTL.out]
  clear hc
  go_enter Tryd.func51, Tryd.ntmps51
  go_wp2_with fail
  have hTz2 : 0 < T.size := by omega
  have hTz3 : T.size ≤ 9223372036854775807 := by omega
  clear hT hTz
  go_loopw [7, 8, 9] (fun N B i wx => ∃ (k : Nat) (n : Int) (bg : Bool), (k : Int) ≤ T.size ∧ i = .int .i64 k ∧ N = .int .u64 n ∧ B = .bool bg ∧ Hid (allD b ((L T).take k) = true) ∧ 0 ≤ n ∧ n ≤ 154618822655 ∧ Hid (bg = true → 4294967296 ≤ num b ((L T).take k)) ∧ Hid (bg = false → n = num b ((L T).take k) ∧ n < 4294967296) ∧ Gr w wx) (fun _ _ i _ => (T.size - intOf i).toNat)
  case atStart => exact ⟨0, 0, false, by omega, rfl, rfl, rfl, by show _ = _; simp [allD], by omega, by omega, hid (fun h => by cases h), hid (fun _ => ⟨by simp [num], by omega⟩), Gr.refl _⟩
  case round =>
    obtain ⟨k, n, bg, hk, rfl, rfl, rfl, hA, n0, n1, hB1, hB2, hgr⟩ := hrel
    by_cases hlt : (k : Int) < T.size
    · have hks : k < T.size := by omega
      obtain ⟨c0, c1⟩ := L_bd T k hks
      have ht : Hid ((L T).take (k + 1) = (L T).take k ++ [(T[k].toNat : Int)]) := L_take T k hks
      obtain ⟨v0, v1⟩ := vl_bd (T[k].toNat : Int) b c0 c1
      cases hd : isD (T[k].toNat : Int) b
      · have hfin : Hid (prsT true (L T) b = (0, 15)) := by
          show _ = _
          have e : L T = (L T).take k ++ (T[k].toNat : Int) :: (L T).drop (k + 1) := by rw [← L_drop T k hks, List.take_append_drop]
          have : allD b (L T) = false := by rw [e]; exact allD_mid b _ _ _ hd
          unfold prsT; simp [this]
        go_wp2_with (go_at_call 56; refine (w_rvalue _ _ _ c0 c1 (by omega) (by omega)).mono ?_; rintro e w1 ⟨rfl, hg1⟩)
        go_ret2
        exact ⟨by rw [hfin.out]; rfl, grown_trans hgr hg1⟩
      · have hA2 : Hid (allD b ((L T).take (k + 1)) = true) := by show _ = _; rw [ht.out, allD_snoc, hA.out, hd]; rfl
        cases bg
        · obtain ⟨hn, n2⟩ := hB2.out rfl
          obtain ⟨m0, m1⟩ := mul_b n b n0 n2 b0 b1
          have hnum : Hid (num b ((L T).take (k + 1)) = n * b + vl (T[k].toNat : Int) b) := by show _ = _; rw [ht.out, num_snoc, ← hn]
          clear hn
          rcases (show 4294967296 ≤ n * b + vl (T[k].toNat : Int) b ∨ n * b + vl (T[k].toNat : Int) b < 4294967296 by omega) with hbig | hbig
          · have hbb : decide (4294967296 ≤ n * b + vl (T[k].toNat : Int) b) = true := by simp; omega
            go_wp2_with (go_at_call 56; refine (w_rvalue _ _ _ c0 c1 (by omega) (by omega)).mono ?_; rintro e w1 ⟨rfl, hg1⟩)
            go_roundw
            case rel => exact ⟨k + 1, n * b + vl (T[k].toNat : Int) b, true, by omega, by go_num, rfl, rfl, hA2, by omega, by omega, hid (fun _ => by rw [hnum.out]; omega), hid (fun h => by cases h), grown_trans hgr hg1⟩
            case measure => simp [intOf]; omega
          · have hbb : decide (4294967296 ≤ n * b + vl (T[k].toNat : Int) b) = false := by simp; omega
            go_wp2_with (go_at_call 56; refine (w_rvalue _ _ _ c0 c1 (by omega) (by omega)).mono ?_; rintro e w1 ⟨rfl, hg1⟩)
            go_roundw
            case rel => exact ⟨k + 1, n * b + vl (T[k].toNat : Int) b, false, by omega, by go_num, rfl, rfl, hA2, by omega, by omega, hid (fun h => by cases h), hid (fun _ => ⟨by rw [hnum.out], hbig⟩), grown_trans hgr hg1⟩
            case measure => simp [intOf]; omega
        · have hge : Hid (4294967296 ≤ num b ((L T).take (k + 1))) := by
            show _ ≤ _
            rw [ht.out, num_snoc]
            have := mul_ge _ b (hB1.out rfl) b0
            omega
          go_wp2_with (go_at_call 56; refine (w_rvalue _ _ _ c0 c1 (by omega) (by omega)).mono ?_; rintro e w1 ⟨rfl, hg1⟩)
          go_roundw
          case rel => exact ⟨k + 1, n, true, by omega, by go_num, rfl, rfl, hA2, by omega, by omega, hid (fun _ => hge.out), hid (fun h => by cases h), grown_trans hgr hg1⟩
          case measure => simp [intOf]; omega
    · obtain rfl : k = T.size := by omega
      have hne : ¬ L T = [] := by intro h; have := L_len T; rw [h] at this; simp at this; omega
      have htk : (L T).take T.size = L T := List.take_of_length_le (by rw [L_len]; exact Nat.le_refl _)
      rw [htk] at hA hB1 hB2
      cases bg
      · obtain ⟨hn, n2⟩ := hB2.out rfl
        have hfin : Hid (prsT true (L T) b = ((4294967296 - n) % 4294967296, 0)) := by
          show _ = _
          unfold prsT; rw [if_neg hne, if_neg (by rw [hA.out]; decide), if_neg (by omega)]; simp [← hn]
        clear hn htk
        go_wp2_with fail
        go_ret2
        exact ⟨by rw [hfin.out]; exact ret_ii (by simp; try omega) rfl, hgr⟩
      · have hfin : Hid (prsT true (L T) b = (0, 4)) := by
          show _ = _
          have := hB1.out rfl
          unfold prsT; rw [if_neg hne, if_neg (by rw [hA.out]; decide), if_pos this]
        clear htk
        go_wp2_with fail
        go_ret2
        exact ⟨by rw [hfin.out]; rfl, hgr⟩

set_option maxHeartbeats 1000000 in
theorem w_rparse (s : ByteArray) (b : Int) (w : World) (hs : s.size ≤ maxLen) (g0 : 0 ≤ b) (g1 : b < 4294967296) :
    Calls Tryd.prog 51 #[.string s, .int .u32 b] w fun e w' => e = .returned (.tuple #[.int .u32 (prs (L s) b).1, .int .i64 (prs (L s) b).2]) ∧ Gr w w' := by
  by_cases hb : b < 2 ∨ 36 < b
  · have e1 : prs (L s) b = (0, 1) := by unfold prs; rw [if_pos hb]
    rw [e1]
    rcases hb with hb | hb
    · go_enter Tryd.func51, Tryd.ntmps51
      go_wp2
      go_ret2
      exact ⟨rfl, Gr.refl _⟩
    · have : ¬ b < 2 := by omega
      go_enter Tryd.func51, Tryd.ntmps51
      go_wp2
      go_ret2
      exact ⟨rfl, Gr.refl _⟩
  · have b0 : 2 ≤ b := by omega
    have b1 : b ≤ 36 := by omega
    rcases (show s.size = 0 ∨ 0 < s.size by omega) with hz | hz
    · have e1 : prs (L s) b = (0, 15) := by
        have : L s = [] := List.eq_nil_of_length_eq_zero (by rw [L_len]; exact hz)
        unfold prs; rw [if_neg hb, this]; simp [prsT]
      rw [e1]
      clear hb
      go_enter Tryd.func51, Tryd.ntmps51
      go_wp2
      all_goals go_ret2
      all_goals exact ⟨rfl, Gr.refl _⟩
    · have hh : (L s).head? = some (s[0].toNat : Int) := by rw [List.head?_eq_getElem?, List.getElem?_eq_getElem (by rw [L_len]; exact hz), L_get s 0 hz]
      by_cases hc : (s[0].toNat : Int) = 45
      · have e1 : prs (L s) b = prsT true (L s).tail b := by unfold prs; rw [if_neg hb, if_pos (by rw [hh, hc])]
        rw [e1]
        rcases (show s.size = 1 ∨ 1 < s.size by omega) with h1 | h1
        · have e2 : prsT true (L s).tail b = (0, 15) := by
            have : (L s).tail = [] := List.eq_nil_of_length_eq_zero (by rw [List.length_tail, L_len, h1])
            rw [this]; simp [prsT]
          rw [e2]
          have hc2 : ((s[0].toNat : Int) == 45) = true := by simp [hc]
          clear hb e1 e2 hh hc
          unfold maxLen at hs
          go_enter Tryd.func51, Tryd.ntmps51
          go_wp2
          all_goals go_ret2
          all_goals exact ⟨rfl, Gr.refl _⟩
        · exact w_rparse_neg s b w hs b0 b1 h1 hc
      · have e1 : prs (L s) b = prsT false (L s) b := by unfold prs; rw [if_neg hb, if_neg (by rw [hh]; intro h; exact hc (by simpa using h))]
        rw [e1]
        exact w_rparse_pos s b w hs b0 b1 hz (beq_eq_false_iff_ne.2 hc)

/-
  Show and Signed of the document's answer return the plain texts, for all numbers and bases.
-/
/-- one digit cut out of the constant text -/
def one (r : Nat) : ByteArray := dgs.extract r (r + 1)
theorem one_L (r : Nat) (h : r < 36) : L (one r) = [dg r] := by
  unfold one
  rw [L_extract dgs r (r + 1) (by rw [dgs_size]; omega), L_drop dgs r (by rw [dgs_size]; omega), dgs_get r (by rw [dgs_size]; omega)]
  simp
theorem run_one0 (r : Nat) (h : (r : Int) < 36) (w : World) : (Instr.slice 9 (.string dgs) (some (.int .i64 r)) (some (.int .i64 ((r : Int) + 1))) none).run Tryd.prog w = .ok (.string (one r)) w := by
  rw [run_slice_string _ _ _ _ _ _ _ Tryd.underlying9 (by omega) (by omega) (by rw [dgs_size]; omega)]
  rfl
theorem run_one (r : Nat) (h : (r : Int) < 36) (w : World) : (Instr.slice 9 (.string ⟨#[48, 49, 50, 51, 52, 53, 54, 55, 56, 57, 97, 98, 99, 100, 101, 102, 103, 104, 105, 106, 107, 108, 109, 110, 111, 112, 113, 114, 115, 116, 117, 118, 119, 120, 121, 122]⟩) (some (.int .i64 r)) (some (.int .i64 ((r : Int) + 1))) none).run Tryd.prog w = .ok (.string (one r)) w :=
  run_one0 r h w
theorem pow_split (k : Nat) (h : k < 32) : (2 : Int) ^ (32 - k) = 2 ^ (32 - (k + 1)) * 2 := by
  rw [show 32 - k = (32 - (k + 1)) + 1 by omega, Int.pow_succ]

/-- what holds of the loop that shows a number: k digits are written, m is left -/
def ShInv (b n : Int) (k : Nat) (m : Int) (t : ByteArray) : Prop :=
  (0 < m ∨ k = 0 → sh b n = shF b (32 - k) m ++ L t) ∧ (m = 0 ∧ 0 < k → sh b n = L t) ∧ m < 2 ^ (32 - k) ∧ t.size = k
theorem ShInv_start (b n : Int) (h1 : n < 4294967296) : ShInv b n 0 n ⟨#[]⟩ :=
  ⟨fun _ => by simp [sh, L], fun h => by omega, by simpa using h1, rfl⟩
theorem ShInv_step (b n : Int) (k : Nat) (m : Int) (t : ByteArray) (r : Nat) (b0 : 2 ≤ b) (b1 : b ≤ 36) (hk : k < 32) (m0 : 0 ≤ m) (hm : 0 < m ∨ k = 0) (hr : m % b = r) (h : ShInv b n k m t) :
    ShInv b n (k + 1) (m / b) (one r ++ t) := by
  obtain ⟨i1, i2, i3, i4⟩ := h
  obtain ⟨q0, q1, r0, r1⟩ := div_half m b m0 b0
  have hs := i1 hm
  have hL : L (one r ++ t) = dg r :: L t := by rw [L_app, one_L r (by omega)]; rfl
  have hp := pow_split k hk
  have hz : (one r ++ t).size = k + 1 := by
    have e1 := L_len (one r ++ t)
    rw [hL, List.length_cons, L_len] at e1
    omega
  rw [show 32 - k = (32 - (k + 1)) + 1 by omega] at hs
  by_cases c : m < b
  · have e0 : m / b = 0 := Int.ediv_eq_zero_of_lt m0 c
    have e1 : m % b = m := Int.emod_eq_of_lt m0 c
    rw [shF_lo b m _ c] at hs
    unfold ShInv
    rw [hL, e0]
    refine ⟨fun h => by omega, fun _ => ?_, Int.pow_pos (by decide), hz⟩
    rw [hs, ← e1, hr]; rfl
  · have qp := div_pos m b b0 c
    rw [shF_hi b m _ c, hr] at hs
    unfold ShInv
    rw [hL]
    refine ⟨fun _ => ?_, fun h => by omega, by omega, hz⟩
    rw [hs]; simp
theorem ShInv_end (b n : Int) (k : Nat) (m : Int) (t : ByteArray) (hk : 0 < k) (hm : m ≤ 0) (m0 : 0 ≤ m) (h : ShInv b n k m t) : t = toB (sh b n) :=
  L_eq t _ (h.2.1 ⟨by omega, hk⟩).symm
theorem ShInv_last (b n m : Int) (t : ByteArray) (m0 : 0 ≤ m) (h : ShInv b n 32 m t) : m ≤ 0 := by
  have := h.2.2.1; simp at this; omega

/-- what Show answers -/
def shT (n b : Int) : ByteArray := if b < 2 ∨ 36 < b then ⟨#[]⟩ else toB (sh b n)
def shE (b : Int) : Int := if b < 2 ∨ 36 < b then 1 else 0

/-- what Signed answers -/
def sgT (n b : Int) : ByteArray := if b < 2 ∨ 36 < b then ⟨#[]⟩ else toB (sg b n)

theorem sh_size (n b : Int) : (shT n b).size ≤ 33 := by
  unfold shT
  split
  · decide
  · rw [toB_size]; have := shF_len b 32 n; unfold sh; omega
theorem sg_size (n b : Int) : (sgT n b).size ≤ 33 := by
  unfold sgT
  split
  · decide
  · rw [toB_size]; unfold sg
    split
    · have := shF_len b 32 n; unfold sh; omega
    · have := shF_len b 32 (4294967296 - n); unfold sh; simp; omega
theorem shT_back (n b : Int) (n0 : 0 ≤ n) (n1 : n < 4294967296) (b0 : 2 ≤ b) (b1 : b ≤ 36) : prs (L (shT n b)) b = (n, 0) := by
  unfold shT; rw [if_neg (by omega), sh_L b n b0 b1 n0 n1]; exact sh_back b n b0 b1 n0 n1
theorem sgT_back (n b : Int) (n0 : 0 ≤ n) (n1 : n < 4294967296) (b0 : 2 ≤ b) (b1 : b ≤ 36) : prs (L (sgT n b)) b = (n, 0) := by
  unfold sgT; rw [if_neg (by omega), sg_bytes b n b0 b1 n0 n1]; exact sg_back b n b0 b1 n0 n1
theorem shT_same (n m b : Int) (n0 : 0 ≤ n) (n1 : n < 4294967296) (m0 : 0 ≤ m) (m1 : m < 4294967296) (b0 : 2 ≤ b) (b1 : b ≤ 36) : ((shT n b).toList == (shT m b).toList) = (n == m) := by
  have h : (shT n b).toList = (shT m b).toList ↔ n = m := by
    constructor
    · intro h
      rw [ByteArray.toList_eq, ByteArray.toList_eq] at h
      have : L (shT n b) = L (shT m b) := by unfold L; rw [h]
      unfold shT at this
      rw [if_neg (by omega), if_neg (by omega), sh_L b n b0 b1 n0 n1, sh_L b m b0 b1 m0 m1] at this
      exact (sh_inj b n m b0 b1 n0 n1 m0 m1).1 this
    · intro h; rw [h]
  rw [Bool.eq_iff_iff]
  simp [h]

end Go.Proofs.YtkdaimagdmbnfabDoor
