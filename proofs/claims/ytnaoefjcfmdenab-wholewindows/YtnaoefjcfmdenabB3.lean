/-
  Texts of one proof, laid one behind the other: Gen Lr3 Lr4 Lr5 Lba Arr Arq Lbb R3s Rp3 Rp4.
-/
import Derived.Test.YtnaoefjcfmdenabB2
import Derived.Laws.ResultCell
import Derived.Deep.RegionHeld
import Derived.Laws.CopyOwn
import Derived.WalkKit
import Derived.ProofKit
import Derived.OpenShut
import Derived.Test.YtnaoefjcfmdenabProg
namespace Go.Proofs.Ytnaoefjcfmdenab
open Go.ChangeShapes Go.WideShapes Go.ChangeAt Go.RowKit
set_option linter.unusedVariables false
set_option linter.unusedSimpArgs false

/-
  Small things about rows and blocks that several layers lean on. No Go text in sight.
-/
theorem rd_slice {k : IntKind} {w : World} {v : Value} {xs : List Int} (h : Rd k w v xs) : ∃ ao cap, v = .slice ao xs.length cap := by
  obtain ⟨ao, cap, rfl, _⟩ := rd_form h
  exact ⟨ao, cap, rfl⟩
theorem slr_slice {α : Type} {R : World → List Value → α → Prop} {sz : Nat} {w : World} {v : Value} {xs : List α} (h : SlR sz R w v xs) : ∃ ao cap, v = .slice ao xs.length cap := by
  obtain ⟨rows, h1, h2, _⟩ := h
  obtain ⟨ao, cap, rfl, _⟩ := h1.form
  exact ⟨ao, cap, by rw [h2]⟩
theorem set_kept {w : World} {b : Nat} {cs : Array Value} {T : TypeId} (h : Stands w b cs T) (j : Nat) (u : Value) : Kept T w (w.setCell ⟨b, j, none⟩ u) := by
  refine Kept.stands h ⟨rfl, rfl, rfl, by simp, fun k hk hne => ?_⟩
  exact Below.heap_setCell _ _ _ k (fun e => hne (by rw [e]))
theorem set5 {w : World} {b : Nat} {z0 z1 z2 z3 z4 : Value} {T : TypeId} (h : Stands w b #[z0, z1, z2, z3, z4] T) (a0 a1 a2 a3 a4 : Value) :
    Stands (((((w.setCell ⟨b, 0, none⟩ a0).setCell ⟨b, 1, none⟩ a1).setCell ⟨b, 2, none⟩ a2).setCell ⟨b, 3, none⟩ a3).setCell ⟨b, 4, none⟩ a4) b #[a0, a1, a2, a3, a4] T ∧
    (∀ {base : Nat} {e : TypeId} {sz : Nat} {v : Value} {n : Nat} {xs : List Value}, ¬ e = T → w.ownsRow base e sz v n xs → (((((w.setCell ⟨b, 0, none⟩ a0).setCell ⟨b, 1, none⟩ a1).setCell ⟨b, 2, none⟩ a2).setCell ⟨b, 3, none⟩ a3).setCell ⟨b, 4, none⟩ a4).ownsRow base e sz v n xs) := by
  have h0 := h.set 0 a0
  have h1 := h0.set 1 a1
  have h2 := h1.set 2 a2
  have h3 := h2.set 3 a3
  have h4 := h3.set 4 a4
  exact ⟨h4, fun hne o => own_kept (set_kept h3 4 a4) hne (own_kept (set_kept h2 3 a3) hne (own_kept (set_kept h1 2 a2) hne (own_kept (set_kept h0 1 a1) hne (own_kept (set_kept h 0 a0) hne o))))⟩
theorem own_some {w : World} {base : Nat} {e : TypeId} {sz : Nat} {v : Value} {n : Nat} {cs : List Value} (o : w.ownsRow base e sz v n cs) (h : 0 < n) : ∃ g cap, v = .slice (some ⟨g, 0, none⟩) n cap := by
  rcases o.2 with ⟨_, h0⟩ | ⟨g, cap, cur, hv, _⟩
  · omega
  · exact ⟨g, cap, hv⟩
theorem own_cell {w : World} {base : Nat} {e : TypeId} {sz g n cap : Nat} {cs : List Value} (o : w.ownsRow base e sz (.slice (some ⟨g, 0, none⟩) n cap) n cs) (j : Nat) (u : Value) (h : cs[j]? = some u) : w.cell? ⟨g, j, none⟩ = some u := by
  have h1 := o.cells (g := g) rfl j u h
  have e1 : (⟨g, 0, none⟩ : Addr).add j = ⟨g, j, none⟩ := by
    unfold Addr.add
    split
    · rename_i hz; rw [hz]
    · simp
  rwa [e1] at h1
theorem two_boxes (w : World) (a b : Array Value) (T : TypeId) : Stands ((w.alloc (.cells a T)).alloc (.cells b T)) w.heap.size a T ∧ Stands ((w.alloc (.cells a T)).alloc (.cells b T)) (w.heap.size + 1) b T ∧ Below w.heap.size w ((w.alloc (.cells a T)).alloc (.cells b T)) := by
  refine ⟨(stands_new w a T).below (box_below _ _), ?_, below_trans (box_below w _) (box_below _ _)⟩
  have := stands_new (w.alloc (.cells a T)) b T
  rwa [size_al] at this
theorem grown_below {w w' : World} {r : Option Nat} (g : w.grownBy w' r) {e : TypeId} {sz base : Nat} {v : Value} {n : Nat} {cs : List Value} (o : w.ownsRow base e sz v n cs) (hne : ∀ k, v.ownBlock = some k → r ≠ some k) : w'.ownsRow base e sz v n cs := by
  obtain ⟨hl, o⟩ := o
  refine ⟨hl, ?_⟩
  rcases o with h | ⟨b, cap, cur, rfl, h1, h2, h3⟩
  · exact Or.inl h
  · refine Or.inr ⟨b, cap, cur, rfl, h1, ?_, h3⟩
    rw [g.block b (Array.getElem?_eq_some_iff.1 h2).1 (fun e => hne b rfl e.symm)]
    exact h2
theorem gb_refl (w : World) (r : Option Nat) : w.grownBy w r := ⟨rfl, rfl, rfl, Nat.le_refl _, fun _ _ _ => rfl⟩
theorem gb_below {a b c : World} {r : Option Nat} (h : a.grownBy b r) (g : Below b.heap.size b c) : a.grownBy c r :=
  ⟨g.os.trans h.os, g.tape.trans h.tape, g.output.trans h.output, Nat.le_trans h.size g.size, fun k hk hne => (g.block k (Nat.lt_of_lt_of_le hk h.size)).trans (h.block k hk hne)⟩
theorem gb_set {a b : World} {g : Nat} (h : a.grownBy b (some g)) (j : Nat) (u : Value) : a.grownBy (b.setCell ⟨g, j, none⟩ u) (some g) :=
  ⟨h.os, h.tape, h.output, by simpa [World.setCell] using h.size, fun k hk hne => (Below.heap_setCell _ _ _ k (fun e => hne (by rw [e]))).trans (h.block k hk hne)⟩
theorem gb_new {a b : World} {r : Option Nat} {g : Nat} (h : a.grownBy b r) (hg : a.heap.size ≤ g) (j : Nat) (u : Value) : a.grownBy (b.setCell ⟨g, j, none⟩ u) r :=
  ⟨h.os, h.tape, h.output, by simpa [World.setCell] using h.size, fun k hk hne => (Below.heap_setCell _ _ _ k (fun e => by have e2 : k = g := e; omega)).trans (h.block k hk hne)⟩
theorem slr_tail {α : Type} {P : Program} {R : World → List Value → α → Prop} {w : World} {v : Value} {xs : List α} {sz : Nat} (h : SlR sz R w v xs) {t : TypeId} (ht : P.underlying t = some (.slice (P.elem t))) (hs : ∀ w, (sizeOf (P.elem t)).run P w = .ok sz w) (n : Nat) (hn : n ≤ xs.length) :
    ∃ v', (∀ w', (Instr.slice t v (some (.int .i64 (n : Int))) none none).run P w' = .ok v' w') ∧ SlR sz R w v' (xs.drop n) := by
  obtain ⟨rows, h1, h2, h3⟩ := h
  obtain ⟨ao, cap, rfl, hc, hno, hx⟩ := h1.form
  refine ⟨sliced ao n rows.length cap sz, fun w' => ?_, rows.drop n, ?_, by simp [h2], fun i hi => ?_⟩
  · rw [run_slice_l w' t ao rows.length cap ht .i64 (n : Int) (by omega) (by omega), hs]
    simp [Result.andThen]
  · rcases Nat.eq_zero_or_pos (rows.length - n) with h0 | h0
    · refine Or.inl ⟨if cap = n then ao else ao.map (·.add (n * sz)), cap - n, by rw [sliced, h0], ?_, ?_⟩
      · intro he
        by_cases hcl : cap = n
        · omega
        · rw [if_neg hcl] at he
          cases ao with
          | none => have := hno rfl; omega
          | some a => cases he
      · apply List.eq_nil_of_length_eq_zero
        rw [List.length_drop]
        exact h0
    · obtain ⟨hm, b, off, rfl, hcell⟩ := hx (by omega)
      have hl : (rows.drop n).length = rows.length - n := by simp
      refine Or.inr ⟨b, off + n * sz, cap - n, ?_, by omega, by omega, by omega, fun i hi => ?_⟩
      · rw [sliced, hl, if_neg (by omega)]
        simp [Addr.add]
      · rw [hl] at hi
        have e : (rows.drop n).getD i [] = rows.getD (n + i) [] := by
          rw [List.getD_eq_getElem?_getD, List.getD_eq_getElem?_getD, List.getElem?_drop]
        rw [e]
        have := hcell (n + i) (by omega)
        rw [show off + n * sz + i * sz = off + (n + i) * sz by rw [Nat.add_mul]; omega]
        exact this
  · have hi2 : n + i < xs.length := by simp at hi; omega
    have e : (rows.drop n).getD i [] = rows.getD (n + i) [] := by
      rw [List.getD_eq_getElem?_getD, List.getD_eq_getElem?_getD, List.getElem?_drop]
    rw [e, List.getElem_drop]
    exact h3 (n + i) hi2
theorem own_belowN {w w' : World} {base : Nat} {e : TypeId} {sz : Nat} {v : Value} {n : Nat} {cs : List Value} (o : w.ownsRow base e sz v n cs) (g : Below w.heap.size w w') : w'.ownsRow base e sz v n cs := by
  obtain ⟨hl, h3⟩ := o
  refine ⟨hl, ?_⟩
  rcases h3 with h | ⟨b, cap, cur, rfl, hb, hg, hc⟩
  · exact Or.inl h
  · refine Or.inr ⟨b, cap, cur, rfl, hb, ?_, hc⟩
    rw [g.block b (Array.getElem?_eq_some_iff.1 hg).1]
    exact hg
theorem slr_first {α : Type} {P : Program} {R : World → List Value → α → Prop} {w : World} {v : Value} {xs : List α} {sz : Nat} (h : SlR sz R w v xs) {t : TypeId} (ht : P.underlying t = some (.slice (P.elem t))) (hs : ∀ w, (sizeOf (P.elem t)).run P w = .ok sz w) (n : Nat) (hn : n ≤ xs.length) :
    ∃ v', (∀ w', (Instr.slice t v none (some (.int .i64 (n : Int))) none).run P w' = .ok v' w') ∧ SlR sz R w v' (xs.take n) := by
  obtain ⟨rows, h1, h2, h3⟩ := h
  obtain ⟨ao, cap, rfl, hc, hno, hx⟩ := h1.form
  refine ⟨sliced ao 0 n cap sz, fun w' => ?_, rows.take n, ?_, by simp [h2], fun i hi => ?_⟩
  · rw [run_slice_h w' t ao rows.length cap ht .i64 (n : Int) (by omega) (by omega), hs]
    simp [Result.andThen]
  · rcases Nat.eq_zero_or_pos n with h0 | h0
    · subst h0
      refine Or.inl ⟨if cap = 0 then ao else ao.map (·.add (0 * sz)), cap, by simp [sliced], ?_, by simp⟩
      intro he
      by_cases hc0 : cap = 0
      · exact hc0
      · rw [if_neg hc0] at he
        cases ao with
        | none => exact hno rfl
        | some a => cases he
    · obtain ⟨hm, b, off, rfl, hcell⟩ := hx (by omega)
      have hl : (rows.take n).length = n := by simp; omega
      refine Or.inr ⟨b, off, cap, ?_, by omega, by omega, hm, fun i hi => ?_⟩
      · rw [sliced, hl, if_neg (by omega)]
        simp [Addr.add]
      · rw [hl] at hi
        have e : (rows.take n).getD i [] = rows.getD i [] := by
          rw [List.getD_eq_getElem?_getD, List.getD_eq_getElem?_getD, List.getElem?_take, if_pos hi]
        rw [e]
        exact hcell i (by omega)
  · have hi2 : i < n := by simp at hi; omega
    have e : (rows.take n).getD i [] = rows.getD i [] := by
      rw [List.getD_eq_getElem?_getD, List.getD_eq_getElem?_getD, List.getElem?_take, if_pos hi2]
    rw [e, List.getElem_take]
    exact h3 i (by simp at hi; omega)
theorem res_row2 {P : Program} {fn : Func} {p a : Tmp} {ty : TypeId} (h : fn.results = #[.cell p ty, .tmp a]) (tmps : Array Value) (w : World) (g : Nat) (t : TypeId) (cs : Array Value) (fr : Nat × Nat) (d : TypeDesc)
    (hp : tmps.getD p undef = .pointer (some ⟨g, 0, none⟩)) (hg : w.heap[g]? = some (.cells cs t fr))
    (hu : P.underlying ty = some d) (hd : (match d with | .struct _ | .array _ _ => true | _ => false) = true) (hi : (P.info? ty).map (·.size) = some cs.size) :
    (results fn tmps).run P w = .ok (.tuple #[.agg cs, tmps.getD a undef]) w := by
  have hp' : tmps[p]?.getD undef = .pointer (some ⟨g, 0, none⟩) := by simpa using hp
  simp [results, h, hp', asAddr, run_loadVar_row w g t ty cs fr d hg hu hd hi]
theorem res_row3 {P : Program} {fn : Func} {p a b : Tmp} {ty : TypeId} (h : fn.results = #[.cell p ty, .tmp a, .tmp b]) (tmps : Array Value) (w : World) (g : Nat) (t : TypeId) (cs : Array Value) (fr : Nat × Nat) (d : TypeDesc)
    (hp : tmps.getD p undef = .pointer (some ⟨g, 0, none⟩)) (hg : w.heap[g]? = some (.cells cs t fr))
    (hu : P.underlying ty = some d) (hd : (match d with | .struct _ | .array _ _ => true | _ => false) = true) (hi : (P.info? ty).map (·.size) = some cs.size) :
    (results fn tmps).run P w = .ok (.tuple #[.agg cs, tmps.getD a undef, tmps.getD b undef]) w := by
  have hp' : tmps[p]?.getD undef = .pointer (some ⟨g, 0, none⟩) := by simpa using hp
  simp [results, h, hp', asAddr, run_loadVar_row w g t ty cs fr d hg hu hd hi]
theorem set5q {w : World} {b : Nat} {z0 z1 z2 z3 z4 : Value} {T : TypeId} (h : Stands w b #[z0, z1, z2, z3, z4] T) (a0 a1 a2 a3 a4 : Value) :
    Stands (((((w.setCell ⟨b, 0, none⟩ a0).setCell ⟨b, 1, none⟩ a1).setCell ⟨b, 2, none⟩ a2).setCell ⟨b, 3, none⟩ a3).setCell ⟨b, 4, none⟩ a4) b #[a0, a1, a2, a3, a4] T ∧ ∀ Q : World → Prop, (∀ u u', Kept T u u' → Q u → Q u') → Q w → Q (((((w.setCell ⟨b, 0, none⟩ a0).setCell ⟨b, 1, none⟩ a1).setCell ⟨b, 2, none⟩ a2).setCell ⟨b, 3, none⟩ a3).setCell ⟨b, 4, none⟩ a4) := by
  have h0 := h.set 0 a0
  have h1 := h0.set 1 a1
  have h2 := h1.set 2 a2
  have h3 := h2.set 3 a3
  have h4 := h3.set 4 a4
  exact ⟨by simpa only [List.setIfInBounds_toArray, List.set_cons_zero, List.set_cons_succ] using h4, fun Q hQ q => hQ _ _ (set_kept h3 4 a4) (hQ _ _ (set_kept h2 3 a3) (hQ _ _ (set_kept h1 2 a2) (hQ _ _ (set_kept h0 1 a1) (hQ _ _ (set_kept h 0 a0) q))))⟩

/-
  Parse of the document's answer for layer 21.
-/
theorem un_snoc : ∀ (n : Nat) (b : List Int), unF b (n + 1) = unF b n ++ [beV ((b.drop (4 * n)).take 4)]
  | 0, b => by simp [unF]
  | n + 1, b => by
    show beV (b.take 4) :: unF (b.drop 4) (n + 1) = beV (b.take 4) :: unF (b.drop 4) n ++ _
    rw [un_snoc n, List.drop_drop, show 4 + 4 * n = 4 * (n + 1) by omega]
    rfl
theorem set_next (A : List Int) (n m : Nat) (x : Int) (h : A.length = n) : (A ++ List.replicate (m + 1) 0).set n x = (A ++ [x]) ++ List.replicate m 0 := by
  subst h
  rw [List.set_append_right _ _ (Nat.le_refl _), Nat.sub_self, List.replicate_succ, List.set_cons_zero, List.append_assoc, List.singleton_append]
theorem zeroL : (∀ w, (zeroValue 30).run Try.prog w = .ok (.agg (ArA .u32 (List.replicate 16 0))) w) ∧ (Try.prog.info? 30).map (·.size) = some 16 := zero_of_info (by kernel_rfl)

/-
  Window of the document's answer for layer 21.
-/


/-
  inside, Get and Put of the document's answer for layer 21.
-/
theorem rd_max {k : IntKind} {w : World} {v : Value} {xs : List Int} (h : Rd k w v xs) : xs.length ≤ maxLen := by
  rcases h with ⟨_, _, _, _, rfl⟩ | ⟨_, _, cap, _, _, h1, h2, _⟩
  · exact Nat.zero_le _
  · exact Nat.le_trans h1 h2
theorem ins_ok {d a : List Int} (hb : bytesL d) {at_ n : Int} (h : (insF d a at_ n).2 = 0) : (wnF d a).2.2 = 0 ∧ 0 ≤ at_ ∧ 0 ≤ n ∧ at_ + n ≤ (wnF d a).2.1 ∧ (insF d a at_ n).1 = (wnF d a).1 + at_ := by
  unfold insF at h ⊢
  by_cases h1 : (wnF d a).2.2 = 0
  · rw [if_pos h1] at h ⊢
    by_cases h2 : at_ < 0 ∨ n < 0 ∨ (wnF d a).2.1 < at_ ∨ (wnF d a).2.1 - at_ < n
    · rw [if_pos h2] at h
      simp at h
    · rw [if_neg h2]
      exact ⟨h1, by omega, by omega, by omega, rfl⟩
  · rw [if_neg h1] at h
    exact absurd h h1

/-
  The landed package label in plain words: bytes crossed to two by place, and when bytes are a label. No Go text in sight.
-/
/-- exclusive or of the bytes at even places, and at odd ones -/
def crF (l : List Int) : Nat → Int × Int
  | 0 => (0, 0)
  | n + 1 => if n % 2 = 0 then (xorI (crF l n).1 (l.getD n 0), (crF l n).2) else ((crF l n).1, xorI (crF l n).2 (l.getD n 0))
theorem cr_even (l : List Int) (n : Nat) (h : n % 2 = 0) : crF l (n + 1) = (xorI (crF l n).1 (l.getD n 0), (crF l n).2) := by rw [crF, if_pos h]
theorem cr_odd (l : List Int) (n : Nat) (h : ¬ n % 2 = 0) : crF l (n + 1) = ((crF l n).1, xorI (crF l n).2 (l.getD n 0)) := by rw [crF, if_neg h]
theorem cr_bd {l : List Int} (hb : bytesL l) : ∀ n, (0 ≤ (crF l n).1 ∧ (crF l n).1 < 256) ∧ (0 ≤ (crF l n).2 ∧ (crF l n).2 < 256)
  | 0 => by simp [crF]
  | n + 1 => by
    have ih := cr_bd hb n
    have hx := byt_get hb n
    by_cases h : n % 2 = 0
    · rw [cr_even l n h]
      exact ⟨xorI_byte ih.1.2 hx.2, ih.2⟩
    · rw [cr_odd l n h]
      exact ⟨ih.1, xorI_byte ih.2.2 hx.2⟩
theorem cr_xev (l : List Int) : ∀ n, 2 * n ≤ l.length → crF l (2 * n) = xevF (l.take (2 * n)) (0, 0)
  | 0, _ => rfl
  | n + 1, h => by
    have ih := cr_xev l n (by omega)
    rw [show 2 * (n + 1) = 2 * n + 1 + 1 by omega, cr_odd l _ (by omega), cr_even l _ (by omega), ih, List.take_succ_eq_append_getElem (by omega), List.take_succ_eq_append_getElem (by omega), List.append_assoc]
    show _ = xevF (l.take (2 * n) ++ [l[2 * n], l[2 * n + 1]]) (0, 0)
    rw [xev_app n _ _ _ _ (by rw [List.length_take]; omega)]
    rw [List.getD_eq_getElem?_getD, List.getD_eq_getElem?_getD, List.getElem?_eq_getElem (by omega), List.getElem?_eq_getElem (by omega)]
    rfl
/-- a label, as the landed code looks -/
def zroL (l : List Int) : Bool := l.all fun x => decide (x = 0)
def fmF (b : List Int) : Bool := decide (b.length = 512) && (decide (b.getD 508 0 = 218) && (decide (b.getD 509 0 = 190) && (zroL ((b.take 508).drop 64) && decide (crF b 512 = (0, 0)))))
theorem zero_rep {l : List Int} (h : zroL l = true) : l = List.replicate l.length 0 := by
  unfold zroL at h
  rw [List.all_eq_true] at h
  refine List.eq_replicate_iff.2 ⟨rfl, fun x hx => ?_⟩
  simpa using h x hx
theorem un_flat : ∀ (n : Nat) (b : List Int), bytesL b → 4 * n ≤ b.length → (unF b n).flatMap (beB 4) = b.take (4 * n)
  | 0, b, _, _ => by simp [unF]
  | n + 1, b, hb, hl => by
    show beB 4 (beV (b.take 4)) ++ (unF (b.drop 4) n).flatMap (beB 4) = _
    rw [un_flat n (b.drop 4) (bytes_drop hb _) (by rw [List.length_drop]; omega)]
    have e : beB 4 (beV (b.take 4)) = b.take 4 := by
      have h4 : (b.take 4).length = 4 := by rw [List.length_take]; omega
      have hb4 := bytes_take hb 4
      revert h4 hb4
      generalize b.take 4 = c
      intro h4 hb4
      match c, h4, hb4 with
      | [x0, x1, x2, x3], _, hb =>
        have y0 := hb x0 (by simp)
        have y1 := hb x1 (by simp)
        have y2 := hb x2 (by simp)
        have y3 := hb x3 (by simp)
        simp [beV, beB]
        omega
    rw [e, show 4 * (n + 1) = 4 + 4 * n by omega, List.take_add]
theorem fm_ps {b : List Int} (hb : bytesL b) : fmF b = true ↔ (b.length = 512 ∧ lbF (unF b 16) = b) := by
  constructor
  · intro h
    simp only [fmF, Bool.and_eq_true, decide_eq_true_eq] at h
    obtain ⟨hl, h8, h9, hz, hc⟩ := h
    refine ⟨hl, ?_⟩
    have hz2 := zero_rep hz
    have hzl : ((b.take 508).drop 64).length = 444 := by rw [List.length_drop, List.length_take]; omega
    rw [hzl] at hz2
    have e1 : lbH (unF b 16) = b.take 510 := by
      unfold lbH
      rw [un_flat 16 b hb (by omega), ← hz2]
      have e10 : b.take 510 = b.take 508 ++ [b[508]'(by omega)] ++ [b[508 + 1]'(by omega)] := by
        rw [← List.take_succ_eq_append_getElem (by omega), ← List.take_succ_eq_append_getElem (by omega)]
      have g8 : b[508] = 218 := by rw [← h8, List.getD_eq_getElem?_getD, List.getElem?_eq_getElem (by omega)]; rfl
      have g9 : b[508 + 1] = 190 := by rw [← h9, List.getD_eq_getElem?_getD, List.getElem?_eq_getElem (by omega)]; rfl
      rw [e10, g8, g9, List.append_assoc (b.take 508)]
      congr 1
      have := List.take_append_drop 64 (b.take 508)
      rw [List.take_take, show min 64 508 = 64 by rfl] at this
      exact this
    have hx := cr_xev b 256 (by omega)
    rw [hc] at hx
    have e2 : b.take (2 * 256) = b.take 510 ++ [b[510]'(by omega), b[511]'(by omega)] := by
      rw [show (2 * 256 : Nat) = 510 + 1 + 1 by rfl, List.take_succ_eq_append_getElem (by omega), List.take_succ_eq_append_getElem (by omega), List.append_assoc]
      rfl
    have hbt := xev_byte 255 (b.take 510) (0, 0) (by rw [List.length_take]; omega) (bytes_take hb _) ⟨by decide, by decide⟩ ⟨by decide, by decide⟩
    have hb10 := hb _ (List.getElem_mem (show 510 < b.length by omega))
    have hb11 := hb _ (List.getElem_mem (show 511 < b.length by omega))
    rw [e2, xev_app 255 _ _ _ _ (by rw [List.length_take]; omega)] at hx
    unfold lbF
    rw [e1]
    have k1 : (xevF (b.take 510) (0, 0)).1 = b[510]'(by omega) := by
      have := congrArg Prod.fst hx
      exact xorI_left hbt.1.1 hb10.1 (a := (xevF (b.take 510) (0, 0)).1) ((xorI_self _).trans this)
    have k2 : (xevF (b.take 510) (0, 0)).2 = b[511]'(by omega) := by
      have := congrArg Prod.snd hx
      exact xorI_left hbt.2.1 hb11.1 (a := (xevF (b.take 510) (0, 0)).2) ((xorI_self _).trans this)
    rw [k1, k2, ← e2, List.take_of_length_le (by omega)]
  · rintro ⟨hl, e⟩
    have hu := un_len 16 b
    have e3 : b = ((unF b 16).flatMap (beB 4) ++ List.replicate 444 0) ++ ([218, 190] ++ [(xevF (lbH (unF b 16)) (0, 0)).1, (xevF (lbH (unF b 16)) (0, 0)).2]) := by
      have := e.symm
      unfold lbF at this
      rw [show lbH (unF b 16) ++ [(xevF (lbH (unF b 16)) (0, 0)).1, (xevF (lbH (unF b 16)) (0, 0)).2] = ((unF b 16).flatMap (beB 4) ++ List.replicate 444 0) ++ ([218, 190] ++ [(xevF (lbH (unF b 16)) (0, 0)).1, (xevF (lbH (unF b 16)) (0, 0)).2]) by
        conv => lhs; arg 1; unfold lbH
        rw [List.append_assoc _ [218, 190]]] at this
      exact this
    have hx := cr_xev b 256 (by omega)
    have hx0 := lbF_xor (un_len 16 b)
    rw [e] at hx0
    rw [List.take_of_length_le (by omega), hx0] at hx
    have hf : ((unF b 16).flatMap (beB 4)).length = 64 := by rw [flat_be_len, hu]
    have hfl : ((unF b 16).flatMap (beB 4) ++ List.replicate 444 (0 : Int)).length = 508 := by rw [List.length_append, hf, List.length_replicate]
    obtain ⟨F, hF⟩ : ∃ F, (unF b 16).flatMap (beB 4) = F := ⟨_, rfl⟩
    obtain ⟨X, hX⟩ : ∃ X, xevF (lbH (unF b 16)) (0, 0) = X := ⟨_, rfl⟩
    rw [hF, hX] at e3
    rw [hF] at hf hfl
    have g8 : b.getD 508 0 = 218 := by rw [e3, List.getD_eq_getElem?_getD, List.getElem?_append_right (by omega), hfl]; rfl
    have g9 : b.getD 509 0 = 190 := by rw [e3, List.getD_eq_getElem?_getD, List.getElem?_append_right (by omega), hfl]; rfl
    have gz : zroL ((b.take 508).drop 64) = true := by
      have : b.take 508 = F ++ List.replicate 444 0 := by rw [e3, List.take_left' hfl]
      rw [this, List.drop_left' hf]
      unfold zroL
      rw [List.all_eq_true]
      intro x hx
      simp only [List.mem_replicate] at hx
      simp [hx.2]
    unfold fmF
    rw [decide_eq_true hl, decide_eq_true g8, decide_eq_true g9, gz, decide_eq_true hx]
    rfl
theorem ps_fm {b : List Int} (hb : bytesL b) : psF b = if fmF b = true then (unF b 16, 0) else (List.replicate 16 0, 24) := by
  unfold psF
  by_cases h : fmF b = true
  · rw [if_pos h, if_pos ((fm_ps hb).1 h)]
  · rw [if_neg h, if_neg (fun h2 => h ((fm_ps hb).2 h2))]
/-- the numbers of the first 64 bytes -/
theorem un_take : ∀ (n : Nat) (b : List Int), 4 * n ≤ b.length → intL (b.take (4 * n)) = unF b n
  | 0, b, _ => by simp [intL, unF]
  | n + 1, b, h => by
    match b, h with
    | x0 :: x1 :: x2 :: x3 :: r, h =>
      rw [show 4 * (n + 1) = 4 * n + 1 + 1 + 1 + 1 by omega]
      simp only [List.take_succ_cons]
      show beV [x0, x1, x2, x3] :: intL (r.take (4 * n)) = beV [x0, x1, x2, x3] :: unF r n
      rw [un_take n r (by simp only [List.length_cons] at h; omega)]
    | [], h => simp at h
    | [_], h => simp at h; omega
    | [_, _], h => simp at h; omega
    | [_, _, _], h => simp at h; omega
theorem int_take (b : List Int) (h : b.length = 512) : intF (b.take 64) = (unF b 16, 0) := by
  unfold intF
  rw [if_pos (by rw [List.length_take]; omega), show (64 : Nat) = 4 * 16 by rfl, un_take 16 b (by omega)]
/-- a disk that is none has no sector 0; its window -/
theorem wn_eq (d a : List Int) : wnF d a = if dkB d = true then
    if (slF a).2.2 = 0 then
      if (slF a).1 = -1 then (0, (d.length : Int), 0)
      else if (psF (d.take 512)).2 = 0 then
        if (psF (d.take 512)).1.getD (2 * (slF a).1 + 1).toNat 0 = 0 ∨ (d.length : Int) / 512 < (psF (d.take 512)).1.getD (2 * (slF a).1).toNat 0 + (psF (d.take 512)).1.getD (2 * (slF a).1 + 1).toNat 0 then (0, 0, 24)
        else ((psF (d.take 512)).1.getD (2 * (slF a).1).toNat 0 * 512, (psF (d.take 512)).1.getD (2 * (slF a).1 + 1).toNat 0 * 512, 0)
      else (0, 0, 24)
    else (0, 0, (slF a).2.2)
  else (0, 0, 1) := by
  unfold wnF
  have hr := sl_rg a
  by_cases h1 : dkB d = true
  · rw [if_pos h1, if_pos h1]
    by_cases h2 : (slF a).2.2 = 0
    · rw [if_pos h2, if_pos h2]
      by_cases h3 : (slF a).1 = -1
      · rw [if_pos h3, if_pos (by omega)]
      · rw [if_neg h3, if_neg (by omega)]
        by_cases h4 : d.length = 0
        · rw [if_pos h4]
          have : d = [] := List.eq_nil_of_length_eq_zero h4
          subst this
          rfl
        · rw [if_neg h4]
          by_cases h5 : (psF (d.take 512)).2 = 0
          · rw [if_pos h5, if_pos h5]
            simp only [Int.mul_comm 512]
          · rw [if_neg h5, if_neg h5]
            rcases (ps_rg (d.take 512)).1 with h | h
            · exact absurd h h5
            · rw [h]
    · rw [if_neg h2, if_neg h2]
  · rw [if_neg h1, if_neg h1]

/-
  Arrays of cells handed in by value, as the reader reads them: taken apart and put together again. No Go text in sight.
-/
section
variable {H : Type} {enc : TypeId × Value → H} {P : Program} {W : World} {base : Nat} {b2 : Nat} {spare : Nat → Bool} {held : Bool}
theorem open_arr {n : Nat} {t e : TypeId} {v : Value} {d : DataW H} {p : List MemPlace} {k : IntKind} (ht : P.underlying t = some (.array n e)) (he : P.underlying e = some (.int k)) (hce : P.cellsOf e = 1) (hct : P.cellsOf t = n)
    (hok : Value.okWide P W .any base t v) (h : DataW.Trod enc P W b2 spare held t v d p) :
    ∃ xs : List Int, xs.length = n ∧ v = .agg (xs.map (Value.int k)).toArray ∧ d = .agg (xs.map fun x => DataW.lit (.int k x)) ∧ p = [] ∧ ∀ x ∈ xs, (Lit.int k x).wf = true := by
  obtain ⟨cs, rfl, hsz, _⟩ : ∃ cs, v = .agg cs ∧ cs.size = P.cellsOf t ∧ Row.okWide P W .any base t cs := by
    simpa [Value.okWide, ht] using hok
  obtain ⟨fuel, hf⟩ := h
  have hf2 : DataW.trod enc P W b2 spare held fuel t cs.toList = some (d, p) := hf
  obtain ⟨ys, m, _, hx, hl, hlen, hel⟩ := DataW.trod_array ht hf2
  rw [hct] at hl
  rw [hce] at hel
  simp only [Nat.mul_one] at hel
  have key : ∀ i (hi : i < n), ∃ x : Int, cs.toList[i]? = some (Value.int k x) ∧ ys[i]? = some (.lit (.int k x), []) ∧ (Lit.int k x).wf = true := by
    intro i hi
    have h1 := hel i hi
    have hi2 : i < cs.toList.length := by omega
    have hi3 : i < ys.length := by omega
    rw [List.getElem?_eq_getElem hi3] at h1
    have e1 : (cs.toList.drop i).take 1 = [cs.toList[i]] := by
      rw [List.drop_eq_getElem_cons hi2]; simp
    rw [e1] at h1
    obtain ⟨x, ex, ey, wx⟩ := DataW.trod_int he h1
    simp at ex
    refine ⟨x, ?_, ?_, wx⟩
    · rw [List.getElem?_eq_getElem hi2]; simp [ex]
    · rw [List.getElem?_eq_getElem hi3, ey]
  let f : Nat → Int := fun i => match cs.toList[i]? with | some (Value.int _ x) => x | _ => 0
  have kf : ∀ i (hi : i < n), cs.toList[i]? = some (Value.int k (f i)) ∧ ys[i]? = some (.lit (.int k (f i)), []) ∧ (Lit.int k (f i)).wf = true := by
    intro i hi
    obtain ⟨x, h1, h2, h3⟩ := key i hi
    have : f i = x := by simp only [f, h1]
    rw [this]; exact ⟨h1, h2, h3⟩
  have ecs : cs.toList = ((List.range n).map f).map (Value.int k) := by
    apply List.ext_getElem?
    intro i
    by_cases hi : i < n
    · rw [(kf i hi).1]; simp [hi]
    · rw [List.getElem?_eq_none (by omega), List.getElem?_eq_none (by simp; omega)]
  have eys : ys = ((List.range n).map f).map fun x => (DataW.lit (.int k x), ([] : List MemPlace)) := by
    apply List.ext_getElem?
    intro i
    by_cases hi : i < n
    · rw [(kf i hi).2.1]; simp [hi]
    · rw [List.getElem?_eq_none (by omega), List.getElem?_eq_none (by simp; omega)]
  simp only [Prod.mk.injEq] at hx
  refine ⟨(List.range n).map f, by simp, ?_, ?_, ?_, ?_⟩
  · rw [← ecs]
  · rw [hx.1, eys]; simp
  · rw [hx.2, eys]; simp
  · intro x hx
    simp only [List.mem_map, List.mem_range] at hx
    obtain ⟨i, hi, rfl⟩ := hx
    exact (kf i hi).2.2

theorem shut_arr2 {t e : TypeId} {k : IntKind} {x0 x1 : Int} (ht : P.underlying t = some (.array 2 e)) (he : P.underlying e = some (.int k)) (hce : P.cellsOf e = 1) (hct : P.cellsOf t = 2)
    (w0 : (Lit.int k x0).wf = true) (w1 : (Lit.int k x1).wf = true) :
    DataW.Trod enc P W b2 spare held t (.agg #[.int k x0, .int k x1]) (.agg [.lit (.int k x0), .lit (.int k x1)]) [] :=
  ⟨2, by simp [DataW.trod, Value.cells, ht, he, hce, hct, w0, w1, show List.range 2 = [0, 1] from rfl]⟩
theorem shut_arr4 {t e : TypeId} {k : IntKind} {x0 x1 x2 x3 : Int} (ht : P.underlying t = some (.array 4 e)) (he : P.underlying e = some (.int k)) (hce : P.cellsOf e = 1) (hct : P.cellsOf t = 4)
    (w0 : (Lit.int k x0).wf = true) (w1 : (Lit.int k x1).wf = true) (w2 : (Lit.int k x2).wf = true) (w3 : (Lit.int k x3).wf = true) :
    DataW.Trod enc P W b2 spare held t (.agg #[.int k x0, .int k x1, .int k x2, .int k x3]) (.agg [.lit (.int k x0), .lit (.int k x1), .lit (.int k x2), .lit (.int k x3)]) [] :=
  ⟨2, by simp [DataW.trod, Value.cells, ht, he, hce, hct, w0, w1, w2, w3, show List.range 4 = [0, 1, 2, 3] from rfl]⟩
theorem open_arr2 {t e : TypeId} {v : Value} {d : DataW H} {p : List MemPlace} {k : IntKind} (ht : P.underlying t = some (.array 2 e)) (he : P.underlying e = some (.int k)) (hce : P.cellsOf e = 1) (hct : P.cellsOf t = 2)
    (hok : Value.okWide P W .any base t v) (h : DataW.Trod enc P W b2 spare held t v d p) :
    ∃ x0 x1 : Int, v = .agg #[.int k x0, .int k x1] ∧ d = .agg [.lit (.int k x0), .lit (.int k x1)] ∧ p = [] ∧ (Lit.int k x0).wf = true ∧ (Lit.int k x1).wf = true := by
  obtain ⟨xs, hl, hv, hd, hp, hw⟩ := open_arr ht he hce hct hok h
  match xs, hl with
  | [x0, x1], _ => exact ⟨x0, x1, by simpa using hv, by simpa using hd, hp, hw x0 (by simp), hw x1 (by simp)⟩
theorem shut_arr3 {t e : TypeId} {k : IntKind} {x0 x1 x2 : Int} (ht : P.underlying t = some (.array 3 e)) (he : P.underlying e = some (.int k)) (hce : P.cellsOf e = 1) (hct : P.cellsOf t = 3)
    (w0 : (Lit.int k x0).wf = true) (w1 : (Lit.int k x1).wf = true) (w2 : (Lit.int k x2).wf = true) :
    DataW.Trod enc P W b2 spare held t (.agg #[.int k x0, .int k x1, .int k x2]) (.agg [.lit (.int k x0), .lit (.int k x1), .lit (.int k x2)]) [] :=
  ⟨2, by simp [DataW.trod, Value.cells, ht, he, hce, hct, w0, w1, w2, show List.range 3 = [0, 1, 2] from rfl]⟩
theorem open_arr3 {t e : TypeId} {v : Value} {d : DataW H} {p : List MemPlace} {k : IntKind} (ht : P.underlying t = some (.array 3 e)) (he : P.underlying e = some (.int k)) (hce : P.cellsOf e = 1) (hct : P.cellsOf t = 3)
    (hok : Value.okWide P W .any base t v) (h : DataW.Trod enc P W b2 spare held t v d p) :
    ∃ x0 x1 x2 : Int, v = .agg #[.int k x0, .int k x1, .int k x2] ∧ d = .agg [.lit (.int k x0), .lit (.int k x1), .lit (.int k x2)] ∧ p = [] ∧ (Lit.int k x0).wf = true ∧ (Lit.int k x1).wf = true ∧ (Lit.int k x2).wf = true := by
  obtain ⟨xs, hl, hv, hd, hp, hw⟩ := open_arr ht he hce hct hok h
  match xs, hl with
  | [x0, x1, x2], _ => exact ⟨x0, x1, x2, by simpa using hv, by simpa using hd, hp, hw x0 (by simp), hw x1 (by simp), hw x2 (by simp)⟩
theorem open_arr4 {t e : TypeId} {v : Value} {d : DataW H} {p : List MemPlace} {k : IntKind} (ht : P.underlying t = some (.array 4 e)) (he : P.underlying e = some (.int k)) (hce : P.cellsOf e = 1) (hct : P.cellsOf t = 4)
    (hok : Value.okWide P W .any base t v) (h : DataW.Trod enc P W b2 spare held t v d p) :
    ∃ x0 x1 x2 x3 : Int, v = .agg #[.int k x0, .int k x1, .int k x2, .int k x3] ∧ d = .agg [.lit (.int k x0), .lit (.int k x1), .lit (.int k x2), .lit (.int k x3)] ∧ p = [] ∧ (Lit.int k x0).wf = true ∧ (Lit.int k x1).wf = true ∧ (Lit.int k x2).wf = true ∧ (Lit.int k x3).wf = true := by
  obtain ⟨xs, hl, hv, hd, hp, hw⟩ := open_arr ht he hce hct hok h
  match xs, hl with
  | [x0, x1, x2, x3], _ => exact ⟨x0, x1, x2, x3, by simpa using hv, by simpa using hd, hp, hw x0 (by simp), hw x1 (by simp), hw x2 (by simp), hw x3 (by simp)⟩
end

/-
  Equality of arrays of two and of four integers, as one step of the model runs it: element by element. No condition.
-/
section
variable {P : Program}
theorem run_equalIn_num (w : World) (d : Nat) {e : TypeId} {k : IntKind} (he : P.underlying e = some (.int k)) (a b : Int) :
    (Op.equalIn (d + 1) e (.int k a) (.int k b)).run P w = .ok (a == b) w := by
  simp [Op.equalIn, run_underlying he]
theorem run_equalIn_arr2 (w : World) (d : Nat) {t e : TypeId} {k : IntKind} (ht : P.underlying t = some (.array 2 e)) (he : P.underlying e = some (.int k)) (hs : ∀ w, (sizeOf e).run P w = .ok 1 w) (hp : ∀ w cs off v, cs[off]? = some v → (part e cs off).run P w = .ok v w) (x0 x1 y0 y1 : Int) :
    (Op.equalIn (d + 2) t (.agg #[.int k x0, .int k x1]) (.agg #[.int k y0, .int k y1])).run P w = .ok (x0 == y0 && x1 == y1) w := by
  have p0 := fun w => hp w #[.int k x0, .int k x1] 0 (.int k x0) rfl
  have q0 := fun w => hp w #[.int k y0, .int k y1] 0 (.int k y0) rfl
  have p1 := fun w => hp w #[.int k x0, .int k x1] 1 (.int k x1) rfl
  have q1 := fun w => hp w #[.int k y0, .int k y1] 1 (.int k y1) rfl
  rw [show d + 2 = (d + 1) + 1 from rfl]
  unfold Op.equalIn
  simp only [Sem.run_bind, run_underlying ht, Result.andThen_ok, hs]
  simp
  rw [show List.range' 0 2 = [0, 1] from rfl]
  cases b0 : (x0 == y0)
  · simp [List.forIn_cons, Sem.run_bind, p0, q0, run_equalIn_num _ d he, b0]
  cases b1 : (x1 == y1)
  · simp [List.forIn_cons, Sem.run_bind, p0, q0, p1, q1, run_equalIn_num _ d he, b0, b1]
  simp [List.forIn_cons, Sem.run_bind, p0, q0, p1, q1, run_equalIn_num _ d he, b0, b1]
theorem run_eql_arr2 (w : World) {t e : TypeId} {k : IntKind} (ht : P.underlying t = some (.array 2 e)) (he : P.underlying e = some (.int k)) (hs : ∀ w, (sizeOf e).run P w = .ok 1 w) (hp : ∀ w cs off v, cs[off]? = some v → (part e cs off).run P w = .ok v w) (x0 x1 y0 y1 : Int) :
    (binOp .eql t (.agg #[.int k x0, .int k x1]) (.agg #[.int k y0, .int k y1])).run P w = .ok (.bool (x0 == y0 && x1 == y1)) w := by
  simp only [binOp]
  simp [Op.equal, Op.maxDepth, run_equalIn_arr2 w 9998 ht he hs hp]
theorem run_neq_arr2 (w : World) {t e : TypeId} {k : IntKind} (ht : P.underlying t = some (.array 2 e)) (he : P.underlying e = some (.int k)) (hs : ∀ w, (sizeOf e).run P w = .ok 1 w) (hp : ∀ w cs off v, cs[off]? = some v → (part e cs off).run P w = .ok v w) (x0 x1 y0 y1 : Int) :
    (binOp .neq t (.agg #[.int k x0, .int k x1]) (.agg #[.int k y0, .int k y1])).run P w = .ok (.bool !(x0 == y0 && x1 == y1)) w := by
  simp only [binOp]
  simp [Op.equal, Op.maxDepth, run_equalIn_arr2 w 9998 ht he hs hp]
theorem run_equalIn_arr4 (w : World) (d : Nat) {t e : TypeId} {k : IntKind} (ht : P.underlying t = some (.array 4 e)) (he : P.underlying e = some (.int k)) (hs : ∀ w, (sizeOf e).run P w = .ok 1 w) (hp : ∀ w cs off v, cs[off]? = some v → (part e cs off).run P w = .ok v w) (x0 x1 x2 x3 y0 y1 y2 y3 : Int) :
    (Op.equalIn (d + 2) t (.agg #[.int k x0, .int k x1, .int k x2, .int k x3]) (.agg #[.int k y0, .int k y1, .int k y2, .int k y3])).run P w = .ok (x0 == y0 && x1 == y1 && x2 == y2 && x3 == y3) w := by
  have p0 := fun w => hp w #[.int k x0, .int k x1, .int k x2, .int k x3] 0 (.int k x0) rfl
  have q0 := fun w => hp w #[.int k y0, .int k y1, .int k y2, .int k y3] 0 (.int k y0) rfl
  have p1 := fun w => hp w #[.int k x0, .int k x1, .int k x2, .int k x3] 1 (.int k x1) rfl
  have q1 := fun w => hp w #[.int k y0, .int k y1, .int k y2, .int k y3] 1 (.int k y1) rfl
  have p2 := fun w => hp w #[.int k x0, .int k x1, .int k x2, .int k x3] 2 (.int k x2) rfl
  have q2 := fun w => hp w #[.int k y0, .int k y1, .int k y2, .int k y3] 2 (.int k y2) rfl
  have p3 := fun w => hp w #[.int k x0, .int k x1, .int k x2, .int k x3] 3 (.int k x3) rfl
  have q3 := fun w => hp w #[.int k y0, .int k y1, .int k y2, .int k y3] 3 (.int k y3) rfl
  rw [show d + 2 = (d + 1) + 1 from rfl]
  unfold Op.equalIn
  simp only [Sem.run_bind, run_underlying ht, Result.andThen_ok, hs]
  simp
  rw [show List.range' 0 4 = [0, 1, 2, 3] from rfl]
  cases b0 : (x0 == y0)
  · simp [List.forIn_cons, Sem.run_bind, p0, q0, run_equalIn_num _ d he, b0]
  cases b1 : (x1 == y1)
  · simp [List.forIn_cons, Sem.run_bind, p0, q0, p1, q1, run_equalIn_num _ d he, b0, b1]
  cases b2 : (x2 == y2)
  · simp [List.forIn_cons, Sem.run_bind, p0, q0, p1, q1, p2, q2, run_equalIn_num _ d he, b0, b1, b2]
  cases b3 : (x3 == y3)
  · simp [List.forIn_cons, Sem.run_bind, p0, q0, p1, q1, p2, q2, p3, q3, run_equalIn_num _ d he, b0, b1, b2, b3]
  simp [List.forIn_cons, Sem.run_bind, p0, q0, p1, q1, p2, q2, p3, q3, run_equalIn_num _ d he, b0, b1, b2, b3]
theorem run_eql_arr4 (w : World) {t e : TypeId} {k : IntKind} (ht : P.underlying t = some (.array 4 e)) (he : P.underlying e = some (.int k)) (hs : ∀ w, (sizeOf e).run P w = .ok 1 w) (hp : ∀ w cs off v, cs[off]? = some v → (part e cs off).run P w = .ok v w) (x0 x1 x2 x3 y0 y1 y2 y3 : Int) :
    (binOp .eql t (.agg #[.int k x0, .int k x1, .int k x2, .int k x3]) (.agg #[.int k y0, .int k y1, .int k y2, .int k y3])).run P w = .ok (.bool (x0 == y0 && x1 == y1 && x2 == y2 && x3 == y3)) w := by
  simp only [binOp]
  simp [Op.equal, Op.maxDepth, run_equalIn_arr4 w 9998 ht he hs hp]
theorem run_neq_arr4 (w : World) {t e : TypeId} {k : IntKind} (ht : P.underlying t = some (.array 4 e)) (he : P.underlying e = some (.int k)) (hs : ∀ w, (sizeOf e).run P w = .ok 1 w) (hp : ∀ w cs off v, cs[off]? = some v → (part e cs off).run P w = .ok v w) (x0 x1 x2 x3 y0 y1 y2 y3 : Int) :
    (binOp .neq t (.agg #[.int k x0, .int k x1, .int k x2, .int k x3]) (.agg #[.int k y0, .int k y1, .int k y2, .int k y3])).run P w = .ok (.bool !(x0 == y0 && x1 == y1 && x2 == y2 && x3 == y3)) w := by
  simp only [binOp]
  simp [Op.equal, Op.maxDepth, run_equalIn_arr4 w 9998 ht he hs hp]
end

theorem szU32 (w : World) : (sizeOf 27).run Try.prog w = .ok 1 w := by kernel_rfl
theorem ptU32 (w : World) (cs : Array Value) (off : Nat) (v : Value) (h : cs[off]? = some v) : (part 27 cs off).run Try.prog w = .ok v w := by
  have : (isAgg 27).run Try.prog w = .ok false w := by kernel_rfl
  simp [part, this, h]

/-
  The landed package label: crossed, blank, formed.
-/
theorem zeroC : (∀ w, (zeroValue 43).run Try.prog w = .ok (.agg (ArA .u8 [0, 0])) w) ∧ (Try.prog.info? 43).map (·.size) = some 2 := zero_of_info (by kernel_rfl)
theorem arrC : Try.prog.underlying 43 = some (.array 2 5) := by kernel_rfl
theorem arrC' : Try.prog.underlying 43 = some (.array (Try.prog.arrayLen 43) (Try.prog.elem 43)) := by kernel_rfl
theorem lenC : Try.prog.arrayLen 43 = 2 := by kernel_rfl
theorem elC : Try.prog.elem 43 = 5 := by kernel_rfl
theorem cx_ix (b i : Nat) (k : IntKind) (I : Int) (hi : I = (i : Int)) (h : i < 2) (w : World) : (Instr.indexAt 43 (.pointer (some ⟨b, 0, none⟩)) (.int k I)).run Try.prog w = .ok (.pointer (some ⟨b, i, none⟩)) w := by
  subst hi
  rw [run_indexAt_array (h := arrC'), lenC, if_pos (by omega), elC, Try.sizeOf5]
  simp only [Result.andThen, Int.toNat_natCast, Addr.add_lit, Nat.zero_add, Nat.mul_one]
theorem res_row1 {P : Program} {fn : Func} {p : Tmp} {ty : TypeId} (h : fn.results = #[.cell p ty]) (tmps : Array Value) (w : World) (g : Nat) (t : TypeId) (cs : Array Value) (fr : Nat × Nat) (d : TypeDesc)
    (hp : tmps.getD p undef = .pointer (some ⟨g, 0, none⟩)) (hg : w.heap[g]? = some (.cells cs t fr))
    (hu : P.underlying ty = some d) (hd : (match d with | .struct _ | .array _ _ => true | _ => false) = true) (hi : (P.info? ty).map (·.size) = some cs.size) :
    (results fn tmps).run P w = .ok (.agg cs) w := by
  have hp' : tmps[p]?.getD undef = .pointer (some ⟨g, 0, none⟩) := by simpa using hp
  simp [results, h, hp', asAddr, run_loadVar_row w g t ty cs fr d hg hu hd hi]
/-- two bytes in a box, exclusive ors -/
def crA (b : List Int) (n : Nat) : Array Value := ArA .u8 [(crF b n).1, (crF b n).2]
theorem cra_size (b : List Int) (n : Nat) : (crA b n).size = 2 := by rw [crA, ara_size]; rfl

set_option maxHeartbeats 4000000 in
set_option maxRecDepth 100000 in
theorem w_pcross21 (v : Value) (b : List Int) (w : World) (h : Rd .u8 w v b) (hb : bytesL b) (hz : b.length ≤ 140737488351232) :
    Calls Try.prog 11 #[v] w fun e w' => e = .returned (.agg (crA b b.length)) ∧ Below w.heap.size w w' := by
  have hlen := rd_len h uB (P := Try.prog)
  have z := zeroC.1
  obtain ⟨Z, hZ⟩ : ∃ Z, ArA .u8 [0, 0] = Z := ⟨_, rfl⟩
  rw [hZ] at z
  have zs : Z.size = 2 := by rw [← hZ, ara_size]; rfl
  have zo : Z.all (·.oneCell') = true := by rw [← hZ]; exact ara_one _ _
  have HZ := hid hZ
  have HS := hid (show (Try.prog.info? 43).map (·.size) = some 2 from zeroC.2)
  clear hZ
  go_enter Try.func11, Try.ntmps11
  go_upto_region 2 with fail
  have s0 := (stands_new w Z 43).below (box_below _ (.cells Z 43))
  have s1 := stands_new (w.alloc (.cells Z 43)) Z 43
  rw [size_al] at s1
  have b1 := below_trans (box_below w (.cells Z 43)) (box_below _ (.cells Z 43))
  generalize (w.alloc (.cells Z 43)).alloc (.cells Z 43) = W1 at s0 s1 b1 ⊢
  go_wp2_with fail
  go_loopw [8] (fun I wx => ∃ n : Nat, (n : Int) ≤ b.length ∧ I = .int .i64 n ∧ Stands wx w.heap.size Z 43 ∧ Stands wx (w.heap.size + 1) (crA b n) 43 ∧ Below w.heap.size w wx) (fun I _ => (b.length - intOf I).toNat)
  case atStart => exact ⟨0, by omega, rfl, s0, by rw [← HZ.out] at s1; exact s1, b1⟩
  case round =>
    obtain ⟨n, hn, rfl, hs0, hs1, hg⟩ := hrel
    clear s0 s1 b1
    by_cases hlt : (n : Int) < b.length
    · obtain ⟨ad, x, q1, q2, q3, q4, q5⟩ := mem_at (h.below hg) hb n (by omega) (by omega)
      rw [Int.toNat_natCast] at q5
      have hbd := cr_bd hb n
      by_cases hev : n % 2 = 0
      · have hnx := cr_even b n hev
        rw [q5] at hnx
        have tm : ((n : Int)).tmod 2 = 0 := by rw [Int.tmod_eq_emod_of_nonneg (by omega)]; omega
        have ix : ∀ w', (Instr.indexAt 43 (.pointer (some ⟨w.heap.size + 1, 0, none⟩)) (.int .i64 0)).run Try.prog w' = .ok (.pointer (some ⟨w.heap.size + 1, 0, none⟩)) w' := fun w' => cx_ix (w.heap.size + 1) 0 .i64 0 rfl (by omega) w'
        have hu : crA b (n + 1) = (crA b n).setIfInBounds 0 (.int .u8 (xorI (crF b n).1 x)) := by
          unfold crA
          rw [hnx, ara_set]
          rfl
        have HU := hid hu
        have f0 := hs1.cell 0 (.int .u8 (crF b n).1) rfl
        have z0 := hs1.free 0
        obtain ⟨X, hX⟩ : ∃ X, (crF b n).1 = X := ⟨_, rfl⟩
        rw [hX] at f0 HU hbd
        have e1 : bits .xor .u8 X x = xorI X x := u8_xor X x hbd.1.1 hbd.1.2 q3 q4
        clear hnx hev hu hX hbd q5
        go_wp2_with fail
        have q0 := hs0.other (b' := w.heap.size + 1) 0 (.int .u8 (xorI X x)) (by omega)
        have q1 := hs1.set 0 (.int .u8 (xorI X x))
        rw [← HU.out] at q1
        have qb := below_set hg (w.heap.size + 1) 0 (.int .u8 (xorI X x)) (by omega)
        go_roundw
        case rel => exact ⟨n + 1, by omega, by go_num, q0, q1, qb⟩
        case measure => simp [intOf]; omega
      · have hnx := cr_odd b n hev
        rw [q5] at hnx
        have tm : ((n : Int)).tmod 2 = 1 := by rw [Int.tmod_eq_emod_of_nonneg (by omega)]; omega
        have ix : ∀ w', (Instr.indexAt 43 (.pointer (some ⟨w.heap.size + 1, 0, none⟩)) (.int .i64 1)).run Try.prog w' = .ok (.pointer (some ⟨w.heap.size + 1, 1, none⟩)) w' := fun w' => cx_ix (w.heap.size + 1) 1 .i64 1 rfl (by omega) w'
        have hu : crA b (n + 1) = (crA b n).setIfInBounds 1 (.int .u8 (xorI (crF b n).2 x)) := by
          unfold crA
          rw [hnx, ara_set]
          rfl
        have HU := hid hu
        have f0 := hs1.cell 1 (.int .u8 (crF b n).2) rfl
        have z0 := hs1.free 1
        obtain ⟨X, hX⟩ : ∃ X, (crF b n).2 = X := ⟨_, rfl⟩
        rw [hX] at f0 HU hbd
        have e1 : bits .xor .u8 X x = xorI X x := u8_xor X x hbd.2.1 hbd.2.2 q3 q4
        clear hnx hev hu hX hbd q5
        go_wp2_with fail
        have q0 := hs0.other (b' := w.heap.size + 1) 1 (.int .u8 (xorI X x)) (by omega)
        have q1 := hs1.set 1 (.int .u8 (xorI X x))
        rw [← HU.out] at q1
        have qb := below_set hg (w.heap.size + 1) 1 (.int .u8 (xorI X x)) (by omega)
        go_roundw
        case rel => exact ⟨n + 1, by omega, by go_num, q0, q1, qb⟩
        case measure => simp [intOf]; omega
    · have hn2 : n = b.length := by omega
      subst hn2
      have hcs := cra_size b b.length
      go_upto_region 7 with fail
      refine wp_region_lit ?_
      refine wpList_load_row rfl 43 (.tmp 3) rfl (w.heap.size + 1) rfl 43 _ (0, 0) _ hs1 arrC rfl (by rw [hcs]; exact HS.out) ?_
      refine wpList_store_row rfl 43 (.tmp 2) (.tmp 21) rfl w.heap.size (crA b b.length) rfl rfl 43 _ hs0 (by rw [hcs]; exact HS.out) (by rw [hcs, zs]) (ara_one _ _) ?_
      have u0 := setRow_heap wr w.heap.size _ (crA b b.length) 43 (0, 0) hs0
      have bb := below_setRow hg (Nat.le_refl _) (crA b b.length)
      generalize wr.setRow w.heap.size (crA b b.length) = W9 at u0 bb ⊢
      iterate 4 go_step
      (try simp only [Exit.inBlock, Exit.then])
      refine bodyPost_ret (v := .agg (crA b b.length)) ?_ rfl ⟨rfl, bb⟩
      exact (res_row1 (fn := Try.f11) (p := 2) (ty := 43) rfl _ W9 w.heap.size 43 (crA b b.length) (0, 0) _ rfl u0 arrC rfl (by rw [hcs]; exact HS.out)).trans rfl

theorem zero_take (l : List Int) (n : Nat) (h : n < l.length) : zroL (l.take (n + 1)) = (zroL (l.take n) && decide (l.getD n 0 = 0)) := by
  rw [List.take_succ_eq_append_getElem h]
  unfold zroL
  rw [List.all_append, List.getD_eq_getElem?_getD, List.getElem?_eq_getElem h]
  simp
theorem zero_false (l : List Int) (n : Nat) (h : zroL (l.take n) = false) : zroL l = false := by
  cases hq : zroL l with
  | false => rfl
  | true =>
    unfold zroL at h hq
    rw [List.all_eq_true] at hq
    rw [List.all_eq_true.2 fun x hx => hq x (List.mem_of_mem_take hx)] at h
    cases h

set_option maxHeartbeats 1000000 in
theorem w_pblank21 (v : Value) (b : List Int) (w : World) (h : Rd .u8 w v b) (hb : bytesL b) (hz : b.length ≤ 140737488351232) :
    Calls Try.prog 28 #[v] w fun e w' => e = .returned (.bool (zroL b)) ∧ w' = w := by
  have hlen := rd_len h uB (P := Try.prog)
  go_enter Try.func28, Try.ntmps28
  go_wp2_with fail
  go_loopw [7] (fun I wx => ∃ n : Nat, (n : Int) ≤ b.length ∧ I = .int .i64 n ∧ Hid (zroL (b.take n) = true) ∧ wx = w) (fun I _ => (b.length - intOf I).toNat)
  case atStart => exact ⟨0, by omega, rfl, rfl, rfl⟩
  case round =>
    obtain ⟨n, hn, rfl, hp, rfl⟩ := hrel
    by_cases hlt : (n : Int) < b.length
    · obtain ⟨ad, x, q1, q2, q3, q4, q5⟩ := mem_at h hb n (by omega) (by omega)
      rw [Int.toNat_natCast] at q5
      have hnx := zero_take b n (by omega)
      rw [hp.out, Bool.true_and, q5] at hnx
      clear q5
      by_cases h0 : x = 0
      · rw [decide_eq_true h0] at hnx
        have HN := hid hnx
        subst h0
        clear hnx
        go_wp2_with fail
        go_roundw
        case rel => exact ⟨n + 1, by omega, by go_num, HN.out, trivial⟩
        case measure => simp [intOf]; omega
      · rw [decide_eq_false h0] at hnx
        have HN := hid (zero_false b _ hnx)
        have hq : (x != 0) = true := by simpa using h0
        clear hnx h0
        go_wp2_with fail
        go_ret
        rw [HN.out]
        exact ⟨rfl, rfl⟩
    · have hn2 : n = b.length := by omega
      subst hn2
      rw [List.take_length] at hp
      go_wp2_with fail
      go_ret
      rw [hp.out]
      exact ⟨rfl, rfl⟩

/-- two arrays of two bytes by '==' -/
theorem cross_items (x0 x1 y0 y1 : Int) (w : World) : (Op.equalIn 10000 43 (.agg (ArA .u8 [x0, x1])) (.agg #[.int .u8 y0, .int .u8 y1])).run Try.prog w = .ok (x0 == y0 && x1 == y1) w :=
  run_equalIn_arr2 w 9998 arrC Try.underlying5 (fun w => by kernel_rfl) (fun w cs off v h => by
    have : (isAgg 5).run Try.prog w = .ok false w := by kernel_rfl
    simp [part, this, h]) x0 x1 y0 y1

set_option maxHeartbeats 4000000 in
set_option maxRecDepth 100000 in
theorem w_pformed21 (v : Value) (b : List Int) (w : World) (h : Rd .u8 w v b) (hb : bytesL b) (hz : b.length ≤ 140737488351232) :
    Calls Try.prog 19 #[v] w fun e w' => e = .returned (.bool (fmF b)) ∧ Below w.heap.size w w' := by
  have hlen := rd_len h uB (P := Try.prog)
  by_cases hl : b.length = 512
  · obtain ⟨ad8, x8, q1, q2, q3, q4, q5⟩ := mem_at h hb 508 (by omega) (by omega)
    obtain ⟨ad9, x9, p1, p2, p3, p4, p5⟩ := mem_at h hb 509 (by omega) (by omega)
    have hli : (b.length : Int) = 512 := by omega
    rw [show (508 : Int).toNat = 508 from rfl] at q5
    rw [show (509 : Int).toNat = 509 from rfl] at p5
    have e : fmF b = (decide (x8 = 218) && (decide (x9 = 190) && (zroL ((b.take 508).drop 64) && decide (crF b 512 = (0, 0))))) := by
      unfold fmF
      rw [decide_eq_true hl, Bool.true_and, q5, p5]
    rw [hli] at hlen
    by_cases h8 : x8 = 218
    · by_cases h9 : x9 = 190
      · rw [decide_eq_true h8, decide_eq_true h9, Bool.true_and, Bool.true_and] at e
        subst h8 h9
        obtain ⟨vc, rc, sc, -, -⟩ := rd_cutI h uB zB 64 508 (by omega) (by omega) (by omega)
        rw [show ((508 : Int) - 64).toNat = 444 from rfl, show (64 : Int).toNat = 64 from rfl, show (b.drop 64).take 444 = (b.take 508).drop 64 by rw [List.drop_take]] at rc
        have cz := w_pblank21 vc _ w rc (bytes_drop (bytes_take hb _) _) (by rw [List.length_drop, List.length_take]; omega)
        have cc := w_pcross21 v b w h hb hz
        rw [hl] at cc
        obtain ⟨X, Y, hX⟩ : ∃ X Y, crF b 512 = (X, Y) := ⟨_, _, rfl⟩
        have hA : crA b 512 = ArA .u8 [X, Y] := by unfold crA; rw [hX]
        rw [hA] at cc
        rw [hX] at e
        have ceq := fun W => cross_items X Y 0 0 W
        have hd : decide ((X, Y) = ((0 : Int), (0 : Int))) = (X == 0 && Y == 0) := by
          rw [Bool.eq_iff_iff]
          simp
        rw [hd] at e
        obtain ⟨A, hA2⟩ : ∃ A, ArA .u8 [X, Y] = A := ⟨_, rfl⟩
        rw [hA2] at cc
        simp only [hA2] at ceq
        clear hX hA hA2 hd q5 p5
        cases hzz : zroL ((b.take 508).drop 64)
        · rw [hzz] at cz
          rw [hzz, Bool.false_and] at e
          rw [e]
          clear e hzz
          go_enter Try.func19, Try.ntmps19
          go_wp2_with (go_at_call 28; refine cz.mono ?_; rintro e q ⟨rfl, hw⟩; obtain rfl := hw.symm)
          go_ret
          exact ⟨rfl, Below.refl _ _⟩
        · rw [hzz] at cz
          rw [hzz, Bool.true_and] at e
          rw [e]
          clear e hzz
          go_enter Try.func19, Try.ntmps19
          go_wp2_with (first
            | (go_at_call 28; refine cz.mono ?_; rintro e q ⟨rfl, hw⟩; obtain rfl := hw.symm)
            | (go_at_call 11; refine cc.mono ?_; rintro e w1 ⟨rfl, b1⟩))
          go_ret
          exact ⟨rfl, b1⟩
      · rw [decide_eq_false h9, Bool.false_and, Bool.and_false] at e
        rw [e]
        subst h8
        have hq : (x9 != 190) = true := by simpa using h9
        clear e q5 p5 h9
        go_enter Try.func19, Try.ntmps19
        go_wp2_with fail
        go_ret
        exact ⟨rfl, Below.refl _ _⟩
    · rw [decide_eq_false h8, Bool.false_and] at e
      rw [e]
      have hq : (x8 != 218) = true := by simpa using h8
      clear e q5 p5 h8
      go_enter Try.func19, Try.ntmps19
      go_wp2_with fail
      go_ret
      exact ⟨rfl, Below.refl _ _⟩
  · have e : fmF b = false := by unfold fmF; rw [decide_eq_false hl, Bool.false_and]
    rw [e]
    have hq : ((b.length : Int) != 512) = true := by simp; omega
    clear e hl
    go_enter Try.func19, Try.ntmps19
    go_wp2_with fail
    go_ret
    exact ⟨rfl, Below.refl _ _⟩

/-
  Same and Copy of the document's answer: the one tells whether two lists are one, the other returns the list in new memory, for all lists.
-/
theorem same_take (xs ys : List Int) (k : Nat) (h1 : k < xs.length) (h2 : k < ys.length) (h : xs.take k = ys.take k) (e : xs.getD k 0 = ys.getD k 0) : xs.take (k + 1) = ys.take (k + 1) := by
  rw [List.take_succ_eq_append_getElem h1, List.take_succ_eq_append_getElem h2, h]
  simp [List.getD_eq_getElem?_getD, List.getElem?_eq_getElem h1, List.getElem?_eq_getElem h2] at e
  rw [e]
theorem ne_at (xs ys : List Int) (k : Nat) (e : ¬ xs.getD k 0 = ys.getD k 0) : ¬ xs = ys := fun h => e (by rw [h])

theorem infoU32 : (Try.prog.info? 27).map (fun i => (i.zero, i.size, i.bytes)) = some (some (.int .u32 0), 1, 4) := by kernel_rfl

/-
  Lists of texts compared; Join, Ints, Texts of the document's answer for properties.
-/
theorem sameS_take (xs ys : List ByteArray) (k : Nat) (h1 : k < xs.length) (h2 : k < ys.length) (h : xs.take k = ys.take k) (e : xs[k] = ys[k]) : xs.take (k + 1) = ys.take (k + 1) := by
  rw [List.take_succ_eq_append_getElem h1, List.take_succ_eq_append_getElem h2, h, e]

theorem joi_step (ps : List (List Int)) (k : Nat) (h : k < ps.length) : (ps.take (k + 1)).flatten = (ps.take k).flatten ++ ps[k] := by
  rw [List.take_succ_eq_append_getElem h, List.flatten_append, List.flatten_cons, List.flatten_nil, List.append_nil]
theorem joi_over (ps : List (List Int)) (k : Nat) (h : k < ps.length) (hl : 256 < (ps.take k).flatten.length + ps[k].length) : joiF ps = ([], 3) := by
  unfold joiF
  rw [if_pos]
  have : ps.flatten = (ps.take (k + 1)).flatten ++ (ps.drop (k + 1)).flatten := by rw [← List.flatten_append, List.take_append_drop]
  rw [this, joi_step ps k h]
  simp only [List.length_append]
  omega
theorem joi_all (ps : List (List Int)) (hl : ps.flatten.length ≤ 256) : joiF ps = (ps.flatten, 0) := by
  unfold joiF
  rw [if_neg (by omega)]

/-
  Ints and Texts of the document's answer for properties.
-/
theorem int_step (l : List Int) (h : 4 ≤ l.length) : intL l = beV (l.take 4) :: intL (l.drop 4) := by
  match l, h with
  | a :: b :: c :: d :: r, _ => simp [intL]
theorem int_none (l : List Int) (h : l.length < 4) : intL l = [] := by
  match l, h with
  | [], _ => rfl
  | [_], _ => rfl
  | [_, _], _ => rfl
  | [_, _, _], _ => rfl
theorem beV_u32 (l : List Int) (h : l.length = 4) (hb : bytesL l) : 0 ≤ beV l ∧ beV l < 4294967296 := by
  match l, h with
  | [a, b, c, d], _ =>
    have h1 := hb a (by simp)
    have h2 := hb b (by simp)
    have h3 := hb c (by simp)
    have h4 := hb d (by simp)
    simp [beV]
    omega

theorem spl_tex : ∀ (l cur : List Int),
    (spl 0 cur l = [cur ++ l] ∧ texL cur l = if cur ++ l = [] then some [] else none) ∨
    ∃ a b q r, l = a ++ 0 :: b ∧ spl 0 cur l = (cur ++ a) :: q :: r ∧ texL cur l = (texL [] b).map ((cur ++ a) :: ·)
  | [], cur => Or.inl ⟨by simp [spl], by simp [texL]⟩
  | c :: l, cur => by
    by_cases hc : c = 0
    · subst hc
      have hl := spl_len 0 l []
      cases hq : spl 0 [] l with
      | nil => rw [hq] at hl; simp at hl
      | cons q r => exact Or.inr ⟨[], l, q, r, rfl, by rw [spl, if_pos rfl, hq, List.append_nil], by rw [texL, if_pos rfl, List.append_nil]⟩
    · rcases spl_tex l (cur ++ [c]) with ⟨h1, h2⟩ | ⟨a, b, q, r, h1, h2, h3⟩
      · refine Or.inl ⟨?_, ?_⟩
        · rw [spl, if_neg hc, h1]; simp
        · rw [texL, if_neg hc, h2]; simp
      · refine Or.inr ⟨c :: a, b, q, r, by rw [h1]; rfl, ?_, ?_⟩
        · rw [spl, if_neg hc, h2]; simp
        · rw [texL, if_neg hc, h3]; simp
/-- taking the first text off, and what is read of all -/
theorem deT_tex (l : List Int) (h : l ≠ []) : (deTF l = ([], [], 2) ∧ texL [] l = none) ∨ ∃ p D, deTF l = (p, D, 0) ∧ texL [] l = (texL [] D).map (p :: ·) ∧ l = p ++ 0 :: D := by
  rcases spl_tex l [] with ⟨h1, h2⟩ | ⟨a, b, q, r, h1, h2, h3⟩
  · refine Or.inl ⟨?_, ?_⟩
    · unfold deTF; rw [h1]
    · rw [h2, List.nil_append, if_neg h]
  · refine Or.inr ⟨a, b, ?_, by simpa using h3, h1⟩
    unfold deTF
    rw [h2, h1]
    simp
theorem bytes_of_app {a b : List Int} {c : Int} (h : bytesL (a ++ c :: b)) : bytesL a ∧ bytesL b :=
  ⟨fun x hx => h x (by simp [hx]), fun x hx => h x (by simp [hx])⟩

end Go.Proofs.Ytnaoefjcfmdenab
