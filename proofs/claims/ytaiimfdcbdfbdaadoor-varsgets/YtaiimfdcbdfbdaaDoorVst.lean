/-
  Rows of settings (api.Setting: two texts each) and rows of texts in memory: read, compared, written out.
-/
import Derived.Test.YtaiimfdcbdfbdaaDoorPv1
import Derived.Test.YtaiimfdcbdfbdaaDoorRmf
import Derived.Test.YtaiimfdcbdfbdaaDoorSd
import Derived.Test.YtaiimfdcbdfbdaaDoorSg
import Derived.Laws.StructEq
namespace Go.Proofs.YtaiimfdcbdfbdaaDoor
open Go.ChangeShapes Go.WideShapes Go.ChangeAt Go.RowKit
set_option linter.unusedVariables false
set_option linter.unusedSimpArgs false

/-- an element of two cells: its address' rule, its cells, what it reads as -/
theorem slr_two {α : Type} {P : Program} {R : World → List Value → α → Prop} {w : World} {v : Value} {xs : List α} (h : SlR 2 R w v xs) {t : TypeId} (ht : P.underlying t = some (.slice (P.elem t))) (hs : ∀ w, (sizeOf (P.elem t)).run P w = .ok 2 w) (i : Nat) (h1 : i < xs.length) :
    ∃ (b o : Nat) (c0 c1 : Value), (∀ w', (Instr.indexAt t v (.int .i64 (i : Int))).run P w' = .ok (.pointer (some ⟨b, o, none⟩)) w') ∧ w.cell? ⟨b, o, none⟩ = some c0 ∧ w.cell? ⟨b, o + 1, none⟩ = some c1 ∧ R w [c0, c1] xs[i] := by
  obtain ⟨rows, g1, g2, g3⟩ := h
  obtain ⟨ao, cap, rfl, hc, hn, hx⟩ := g1.form
  obtain ⟨hm, b, off, rfl, hcell⟩ := hx (by omega)
  obtain ⟨l1, l2⟩ := hcell i (by omega)
  have e0 := l2 0 (by omega)
  have e1 := l2 1 (by omega)
  have hr := g3 i h1
  match hrow : rows.getD i [], l1 with
  | [c0, c1], _ =>
    rw [hrow] at e0 e1 hr
    refine ⟨b, off + i * 2, c0, c1, fun w' => ?_, by simpa using e0, by simpa using e1, hr⟩
    rw [run_indexAt_slice (h := ht), if_pos ⟨by omega, by omega⟩, hs]
    simp only [Result.andThen, Int.toNat_natCast]
    congr 3
    unfold Addr.add
    split
    · rename_i hz; rw [hz]; rfl
    · rfl
theorem uSs : Tryd.prog.underlying 27 = some (.slice (Tryd.prog.elem 27)) := by kernel_rfl
theorem eSs : Tryd.prog.elem 27 = 9 := by kernel_rfl
theorem zSs (w : World) : (sizeOf (Tryd.prog.elem 27)).run Tryd.prog w = .ok 1 w := by rw [eSs]; exact Tryd.sizeOf9 w
theorem infoSs : (Tryd.prog.info? 9).map (fun i => (i.zero, i.size, i.bytes)) = some (some (.string ⟨#[]⟩), 1, 16) := by kernel_rfl
theorem info_ss : ∃ i, Tryd.prog.info? 9 = some i ∧ i.zero = some (.string ⟨#[]⟩) ∧ i.size = 1 ∧ i.bytes = 16 := by
  obtain ⟨i, h1, h2⟩ := Option.map_eq_some_iff.1 infoSs
  injection h2 with h2 h3
  injection h3 with h3 h4
  exact ⟨i, h1, h2, h3, h4⟩
def ssC (s : ByteArray) : List Value := [.string s]
theorem ss_one (s : ByteArray) : ∀ u ∈ ssC s, u.oneCell' = true := by
  intro u hu
  simp [ssC] at hu
  subst hu
  rfl
def OwS (base : Nat) (w : World) (v : Value) (out : List ByteArray) : Prop := w.ownsRow base 9 1 v out.length (out.flatMap ssC)
theorem OwS.read {base : Nat} {w : World} {v : Value} {out : List ByteArray} (h : OwS base w v out) (hs : ∀ s ∈ out, s.size ≤ maxLen) : SlR 1 strR w v out :=
  slr_rows ssC (fun _ _ => rfl) (by decide) h (fun s hm => ⟨rfl, hs s hm⟩)
theorem own_belowS {w w' : World} {base : Nat} {v : Value} {out : List ByteArray} (h : OwS base w v out) (g : Below w.heap.size w w') : OwS base w' v out := by
  obtain ⟨hl, h⟩ := h
  refine ⟨hl, ?_⟩
  rcases h with h | ⟨b, cap, cur, rfl, hb, hg, hc, hm, hs, ht⟩
  · exact Or.inl h
  · refine Or.inr ⟨b, cap, cur, rfl, hb, ?_, hc, hm, hs, ht⟩
    rw [g.block b (Array.getElem?_eq_some_iff.1 hg).1]
    exact hg
theorem ows_nil (base : Nat) (w : World) : OwS base w (.slice none 0 0) [] := World.ownsRow_nil _ _ _ _

def stC (p : Stt) : List Value := [.string p.1, .string p.2]
def gS (p : Stt) : Prop := p.1.size ≤ maxLen ∧ p.2.size ≤ maxLen
def stR (_ : World) (cs : List Value) (p : Stt) : Prop := cs = stC p ∧ gS p
theorem stR_below {w w' : World} (cs : List Value) (x : Stt) (h : stR w cs x) : stR w' cs x := h
theorem uSt : Tryd.prog.underlying 30 = some (.slice (Tryd.prog.elem 30)) := by kernel_rfl
theorem eSt : Tryd.prog.elem 30 = 46 := by kernel_rfl
theorem zSt (w : World) : (sizeOf (Tryd.prog.elem 30)).run Tryd.prog w = .ok 2 w := by rw [eSt]; exact Tryd.sizeOf46 w
theorem infoSt : (Tryd.prog.info? 46).map (fun i => (i.zero, i.size, i.bytes)) = some (some (.agg #[.string ⟨#[]⟩, .string ⟨#[]⟩]), 2, 32) := by kernel_rfl
theorem info_st : ∃ i, Tryd.prog.info? 46 = some i ∧ i.zero = some (.agg #[.string ⟨#[]⟩, .string ⟨#[]⟩]) ∧ i.size = 2 ∧ i.bytes = 32 := by
  obtain ⟨i, h1, h2⟩ := Option.map_eq_some_iff.1 infoSt
  injection h2 with h2 h3
  injection h3 with h3 h4
  exact ⟨i, h1, h2, h3, h4⟩
theorem st_at {w : World} {v : Value} {xs : List Stt} (h : SlR 2 stR w v xs) (i : Nat) (h1 : i < xs.length) :
    ∃ (b o : Nat) (A V : ByteArray), (∀ w', (Instr.indexAt 30 v (.int .i64 (i : Int))).run Tryd.prog w' = .ok (.pointer (some ⟨b, o, none⟩)) w') ∧ w.cell? ⟨b, o, none⟩ = some (.string A) ∧ w.cell? ⟨b, o + 1, none⟩ = some (.string V) ∧ xs[i] = (A, V) ∧ A.size ≤ maxLen ∧ V.size ≤ maxLen := by
  obtain ⟨b, o, c0, c1, r, e0, e1, hR, hG⟩ := slr_two h uSt zSt i h1
  simp only [stC, List.cons.injEq] at hR
  obtain ⟨rfl, rfl, _⟩ := hR
  exact ⟨b, o, _, _, r, e0, e1, rfl, hG.1, hG.2⟩
theorem st_str : Tryd.prog.underlying 46 = some (.struct (Tryd.prog.fieldsOf 46)) := by kernel_rfl
theorem st_held : Tryd.prog.stoodInHeld 46 = false := by kernel_rfl
theorem st_guard : Tryd.prog.eqGuardType Tryd.prog.depth 46 = false := by kernel_rfl
theorem st_neq (w : World) (a1 v1 a2 v2 : ByteArray) : (binOp .neq 46 (.agg #[.string a1, .string v1]) (.agg #[.string a2, .string v2])).run Tryd.prog w = .ok (.bool (!(decide (a1 = a2) && decide (v1 = v2)))) w := by
  rw [run_neq_struct, run_equalIn_agg w _ _ _ _ st_str st_held]
  have e1 := str_beq a1 a2
  have e2 := str_beq v1 v2
  cases h1 : decide (a1 = a2) <;> cases h2 : decide (v1 = v2)
  all_goals rw [h1] at e1
  all_goals rw [h2] at e2
  all_goals simp [go_sem, e1, e2]
def OwT (base : Nat) (w : World) (v : Value) (out : List Stt) : Prop := w.ownsRow base 46 2 v out.length (out.flatMap stC)
theorem OwT.read {base : Nat} {w : World} {v : Value} {out : List Stt} (h : OwT base w v out) (hs : ∀ p ∈ out, gS p) : SlR 2 stR w v out :=
  slr_rows stC (fun _ _ => rfl) (by decide) h (fun p hm => ⟨rfl, hs p hm⟩)
theorem own_belowT {w w' : World} {base : Nat} {v : Value} {out : List Stt} (h : OwT base w v out) (g : Below w.heap.size w w') : OwT base w' v out := by
  obtain ⟨hl, h⟩ := h
  refine ⟨hl, ?_⟩
  rcases h with h | ⟨b, cap, cur, rfl, hb, hg, hc, hm, hs, ht⟩
  · exact Or.inl h
  · refine Or.inr ⟨b, cap, cur, rfl, hb, ?_, hc, hm, hs, ht⟩
    rw [g.block b (Array.getElem?_eq_some_iff.1 hg).1]
    exact hg
theorem owt_nil (base : Nat) (w : World) : OwT base w (.slice none 0 0) [] := World.ownsRow_nil _ _ _ _
theorem st_one (p : Stt) : ∀ u ∈ stC p, u.oneCell' = true := by
  intro u hu
  simp [stC] at hu
  rcases hu with rfl | rfl <;> rfl
end Go.Proofs.YtaiimfdcbdfbdaaDoor
