/-
  Texts of one proof, laid one behind the other: Vst Rv1 Rv2 Va0 Stc Va1.
-/
import Derived.Test.YtaiimfdcbdfbdabDoorB3
import Derived.Laws.StructEq
import Derived.Lib.Bytealg
import Derived.Lib.BytesEntry
import Derived.Lib.ConvBytes
import Derived.Lib.AtoiErrMem
import Derived.Laws.Externs
import Derived.Lib.Strings
import Derived.Lib.Walk
import Derived.Lib.BufferWrite
import Derived.Lib.UnsafeStr
import Derived.Lib.Hide
import Derived.Lib.IfaceEq
import Derived.Laws.MakeOwn
import Derived.Laws.Strings3
import Derived.Laws.Closers25
import Derived.Laws.Closers25b
import Derived.BigCall
import Derived.BigGuard
import Derived.Deep.RegionLaw
import Derived.Shelf.Abstract
import Derived.Deep.MidRow
namespace Go.Proofs.YtaiimfdcbdfbdabDoor
open Go.ChangeShapes Go.WideShapes Go.ChangeAt Go.RowKit
set_option linter.unusedVariables false
set_option linter.unusedSimpArgs false

/-
  Rows of settings (api.Setting: two texts each) and rows of texts in memory: read, compared, written out.
-/
/-- an element of two cells: its address' rule, its cells, what it reads as -/
theorem slr_two {α : Type} {P : Program} {R : World → List Value → α → Prop} {w : World} {v : Value} {xs : List α} (h : SlR 2 R w v xs) {t : TypeId} (ht : P.underlying t = some (.slice (P.elem t))) (hs : ∀ w, (sizeOf (P.elem t)).run P w = .ok 2 w) (i : Nat) (h1 : i < xs.length) :
    ∃ (b o : Nat) (c0 c1 : Value), (∀ w', (Instr.indexAt t v (.int .i64 (i : Int))).run P w' = .ok (.pointer (some ⟨b, o, none⟩)) w') ∧ w.cell? ⟨b, o, none⟩ = some c0 ∧ w.cell? ⟨b, o + 1, none⟩ = some c1 ∧ R w [c0, c1] xs[i] := by
  obtain ⟨rows, g1, g2, g3⟩ := h
  obtain ⟨ao, cap, rfl, hc, hn, hx⟩ := g1.form
  obtain ⟨hm, b, off, rfl, hcell⟩ := hx (by omega)
  obtain ⟨l1, l2⟩ := hcell i (by omega)
  have e0 := l2 0 (by omega)
  have e1 := l2 1 (by omega)
  have hr := g3 i h1
  match hrow : rows.getD i [], l1 with
  | [c0, c1], _ =>
    rw [hrow] at e0 e1 hr
    refine ⟨b, off + i * 2, c0, c1, fun w' => ?_, by simpa using e0, by simpa using e1, hr⟩
    rw [run_indexAt_slice (h := ht), if_pos ⟨by omega, by omega⟩, hs]
    simp only [Result.andThen, Int.toNat_natCast]
    congr 3
    unfold Addr.add
    split
    · rename_i hz; rw [hz]; rfl
    · rfl
theorem uSs : Tryd.prog.underlying 41 = some (.slice (Tryd.prog.elem 41)) := by kernel_rfl
theorem eSs : Tryd.prog.elem 41 = 9 := by kernel_rfl
theorem zSs (w : World) : (sizeOf (Tryd.prog.elem 41)).run Tryd.prog w = .ok 1 w := by rw [eSs]; exact Tryd.sizeOf9 w
theorem infoSs : (Tryd.prog.info? 9).map (fun i => (i.zero, i.size, i.bytes)) = some (some (.string ⟨#[]⟩), 1, 16) := by kernel_rfl
theorem info_ss : ∃ i, Tryd.prog.info? 9 = some i ∧ i.zero = some (.string ⟨#[]⟩) ∧ i.size = 1 ∧ i.bytes = 16 := by
  obtain ⟨i, h1, h2⟩ := Option.map_eq_some_iff.1 infoSs
  injection h2 with h2 h3
  injection h3 with h3 h4
  exact ⟨i, h1, h2, h3, h4⟩
def ssC (s : ByteArray) : List Value := [.string s]
theorem ss_one (s : ByteArray) : ∀ u ∈ ssC s, u.oneCell' = true := by
  intro u hu
  simp [ssC] at hu
  subst hu
  rfl
def OwS (base : Nat) (w : World) (v : Value) (out : List ByteArray) : Prop := w.ownsRow base 9 1 v out.length (out.flatMap ssC)
theorem OwS.read {base : Nat} {w : World} {v : Value} {out : List ByteArray} (h : OwS base w v out) (hs : ∀ s ∈ out, s.size ≤ maxLen) : SlR 1 strR w v out :=
  slr_rows ssC (fun _ _ => rfl) (by decide) h (fun s hm => ⟨rfl, hs s hm⟩)
theorem own_belowS {w w' : World} {base : Nat} {v : Value} {out : List ByteArray} (h : OwS base w v out) (g : Below w.heap.size w w') : OwS base w' v out := by
  obtain ⟨hl, h⟩ := h
  refine ⟨hl, ?_⟩
  rcases h with h | ⟨b, cap, cur, rfl, hb, hg, hc, hm, hs, ht⟩
  · exact Or.inl h
  · refine Or.inr ⟨b, cap, cur, rfl, hb, ?_, hc, hm, hs, ht⟩
    rw [g.block b (Array.getElem?_eq_some_iff.1 hg).1]
    exact hg
theorem ows_nil (base : Nat) (w : World) : OwS base w (.slice none 0 0) [] := World.ownsRow_nil _ _ _ _

def stC (p : Stt) : List Value := [.string p.1, .string p.2]
def gS (p : Stt) : Prop := p.1.size ≤ maxLen ∧ p.2.size ≤ maxLen
def stR (_ : World) (cs : List Value) (p : Stt) : Prop := cs = stC p ∧ gS p
theorem stR_below {w w' : World} (cs : List Value) (x : Stt) (h : stR w cs x) : stR w' cs x := h
theorem uSt : Tryd.prog.underlying 23 = some (.slice (Tryd.prog.elem 23)) := by kernel_rfl
theorem eSt : Tryd.prog.elem 23 = 39 := by kernel_rfl
theorem zSt (w : World) : (sizeOf (Tryd.prog.elem 23)).run Tryd.prog w = .ok 2 w := by rw [eSt]; exact Tryd.sizeOf39 w
theorem infoSt : (Tryd.prog.info? 39).map (fun i => (i.zero, i.size, i.bytes)) = some (some (.agg #[.string ⟨#[]⟩, .string ⟨#[]⟩]), 2, 32) := by kernel_rfl
theorem info_st : ∃ i, Tryd.prog.info? 39 = some i ∧ i.zero = some (.agg #[.string ⟨#[]⟩, .string ⟨#[]⟩]) ∧ i.size = 2 ∧ i.bytes = 32 := by
  obtain ⟨i, h1, h2⟩ := Option.map_eq_some_iff.1 infoSt
  injection h2 with h2 h3
  injection h3 with h3 h4
  exact ⟨i, h1, h2, h3, h4⟩
theorem st_at {w : World} {v : Value} {xs : List Stt} (h : SlR 2 stR w v xs) (i : Nat) (h1 : i < xs.length) :
    ∃ (b o : Nat) (A V : ByteArray), (∀ w', (Instr.indexAt 23 v (.int .i64 (i : Int))).run Tryd.prog w' = .ok (.pointer (some ⟨b, o, none⟩)) w') ∧ w.cell? ⟨b, o, none⟩ = some (.string A) ∧ w.cell? ⟨b, o + 1, none⟩ = some (.string V) ∧ xs[i] = (A, V) ∧ A.size ≤ maxLen ∧ V.size ≤ maxLen := by
  obtain ⟨b, o, c0, c1, r, e0, e1, hR, hG⟩ := slr_two h uSt zSt i h1
  simp only [stC, List.cons.injEq] at hR
  obtain ⟨rfl, rfl, _⟩ := hR
  exact ⟨b, o, _, _, r, e0, e1, rfl, hG.1, hG.2⟩
theorem st_str : Tryd.prog.underlying 39 = some (.struct (Tryd.prog.fieldsOf 39)) := by kernel_rfl
theorem st_held : Tryd.prog.stoodInHeld 39 = false := by kernel_rfl
theorem st_guard : Tryd.prog.eqGuardType Tryd.prog.depth 39 = false := by kernel_rfl
theorem st_neq (w : World) (a1 v1 a2 v2 : ByteArray) : (binOp .neq 39 (.agg #[.string a1, .string v1]) (.agg #[.string a2, .string v2])).run Tryd.prog w = .ok (.bool (!(decide (a1 = a2) && decide (v1 = v2)))) w := by
  rw [run_neq_struct, run_equalIn_agg w _ _ _ _ st_str st_held]
  have e1 := str_beq a1 a2
  have e2 := str_beq v1 v2
  cases h1 : decide (a1 = a2) <;> cases h2 : decide (v1 = v2)
  all_goals rw [h1] at e1
  all_goals rw [h2] at e2
  all_goals simp [go_sem, e1, e2]
def OwT (base : Nat) (w : World) (v : Value) (out : List Stt) : Prop := w.ownsRow base 39 2 v out.length (out.flatMap stC)
theorem OwT.read {base : Nat} {w : World} {v : Value} {out : List Stt} (h : OwT base w v out) (hs : ∀ p ∈ out, gS p) : SlR 2 stR w v out :=
  slr_rows stC (fun _ _ => rfl) (by decide) h (fun p hm => ⟨rfl, hs p hm⟩)
theorem own_belowT {w w' : World} {base : Nat} {v : Value} {out : List Stt} (h : OwT base w v out) (g : Below w.heap.size w w') : OwT base w' v out := by
  obtain ⟨hl, h⟩ := h
  refine ⟨hl, ?_⟩
  rcases h with h | ⟨b, cap, cur, rfl, hb, hg, hc, hm, hs, ht⟩
  · exact Or.inl h
  · refine Or.inr ⟨b, cap, cur, rfl, hb, ?_, hc, hm, hs, ht⟩
    rw [g.block b (Array.getElem?_eq_some_iff.1 hg).1]
    exact hg
theorem owt_nil (base : Nat) (w : World) : OwT base w (.slice none 0 0) [] := World.ownsRow_nil _ _ _ _
theorem st_one (p : Stt) : ∀ u ∈ stC p, u.oneCell' = true := by
  intro u hu
  simp [stC] at hu
  rcases hu with rfl | rfl <;> rfl

/-
  Variable, find, Default of the document's answer for layer 19.
-/
set_option maxHeartbeats 1000000 in
theorem w_rvariable (k : Nat) (hk : k < 9) (w : World) :
    Calls Tryd.prog 69 #[.int .i64 (k : Int)] w fun e w' => e = .returned (.tuple #[.string (vaT k).1, .int .u8 (vaT k).2.1, .string (vaT k).2.2]) ∧ w' = w := by
  match k, hk with
  | 0, _ | 1, _ | 2, _ | 3, _ | 4, _ | 5, _ | 6, _ | 7, _ | 8, _ =>
    go_enter Tryd.func69, Tryd.ntmps69
    go_wp2_with fail
    go_ret3
    exact ⟨rfl, rfl⟩

set_option maxHeartbeats 1000000 in
theorem w_rfind (nm : ByteArray) (w : World) :
    Calls Tryd.prog 58 #[.string nm] w fun e w' => e = .returned (.int .i64 (vaF nm)) ∧ w' = w := by
  go_enter Tryd.func58, Tryd.ntmps58
  go_wp2_with fail
  go_loopw [3] (fun I wx => ∃ k : Nat, k ≤ 9 ∧ I = .int .i64 k ∧ Hid (∀ j, j < k → ¬ (vaT j).1 = nm) ∧ wx = w) (fun I _ => (9 - intOf I).toNat)
  case atStart => exact ⟨0, by omega, rfl, hid (fun j hj => by omega), rfl⟩
  case round =>
    obtain ⟨k, hk, rfl, hm, hw0⟩ := hrel
    obtain rfl := hw0.symm
    by_cases hlt : (k : Int) < 9
    · have cV := w_rvariable k (by omega)
      have hq := str_beq (vaT k).1 nm
      by_cases he : (vaT k).1 = nm
      · have hf := hid (va_hit (show k < 9 by omega) he)
        rw [decide_eq_true he] at hq
        obtain ⟨⟨T1, T2, T3⟩, hT⟩ : ∃ t, vaT k = t := ⟨_, rfl⟩
        rw [hT] at hq cV
        clear he hT
        go_wp2_with (go_at_call 69; refine (cV _).mono ?_; rintro e w1 ⟨rfl, hw⟩; obtain rfl := hw.symm)
        go_ret
        exact ⟨ret_i hf.out.symm, rfl⟩
      · have hm2 : Hid (∀ j, j < k + 1 → ¬ (vaT j).1 = nm) := by
          intro j hj
          by_cases e : j = k
          · rw [e]; exact he
          · exact hm.out j (by omega)
        rw [decide_eq_false he] at hq
        obtain ⟨⟨T1, T2, T3⟩, hT⟩ : ∃ t, vaT k = t := ⟨_, rfl⟩
        rw [hT] at hq cV
        clear he hT hm
        go_wp2_with (go_at_call 69; refine (cV _).mono ?_; rintro e w1 ⟨rfl, hw⟩; obtain rfl := hw.symm)
        go_roundw
        case rel => exact ⟨k + 1, by omega, by go_num, hm2, trivial⟩
        case measure => simp [intOf]; omega
    · have hf := hid (va_miss (fun j hj => hm.out j (by omega)))
      go_wp2_with fail
      go_ret
      exact ⟨ret_i hf.out.symm, rfl⟩

set_option maxHeartbeats 1000000 in
theorem w_rdefault (nm : ByteArray) (w : World) :
    Calls Tryd.prog 60 #[.string nm] w fun e w' => e = .returned (.tuple #[.string (vaD nm).1, .int .i64 (vaD nm).2]) ∧ w' = w := by
  have cF := w_rfind nm
  unfold vaD
  by_cases h : vaF nm < 0
  · rw [if_pos h]
    generalize vaF nm = k at cF h
    go_enter Tryd.func60, Tryd.ntmps60
    go_wp2_with (go_at_call 58; refine (cF _).mono ?_; rintro e w1 ⟨rfl, hw⟩; obtain rfl := hw.symm)
    go_ret2
    exact ⟨rfl, rfl⟩
  · rw [if_neg h]
    obtain ⟨h1, h2⟩ := va_found (show 0 ≤ vaF nm by omega)
    obtain ⟨k, hk⟩ : ∃ k : Nat, vaF nm = k := ⟨(vaF nm).toNat, by omega⟩
    rw [hk] at h cF h1 ⊢
    simp only [Int.toNat_natCast] at h1 ⊢
    have cV := w_rvariable k h1
    obtain ⟨⟨T1, T2, T3⟩, hT⟩ : ∃ t, vaT k = t := ⟨_, rfl⟩
    rw [hT] at cV ⊢
    clear hT hk h2
    go_enter Tryd.func60, Tryd.ntmps60
    go_wp2_with (first
      | (go_at_call 58; refine (cF _).mono ?_; rintro e w1 ⟨rfl, hw⟩; obtain rfl := hw.symm)
      | (go_at_call 69; refine (cV _).mono ?_; rintro e w1 ⟨rfl, hw⟩; obtain rfl := hw.symm))
    go_ret2
    exact ⟨rfl, rfl⟩

/-
  Names, Form, value of the document's answer for layer 19.
-/
def vaNs (k : Nat) : List ByteArray := (List.range k).map fun i => (vaT i).1
theorem vaNs_succ (k : Nat) : vaNs (k + 1) = vaNs k ++ [(vaT k).1] := by unfold vaNs; rw [List.range_succ, List.map_append]; rfl
theorem vaNs_len (k : Nat) : (vaNs k).length = k := by simp [vaNs]
theorem vaNs_size : ∀ s ∈ vaNs 9, s.size ≤ maxLen := by
  intro s hs
  unfold vaNs at hs
  simp only [List.mem_map, List.mem_range] at hs
  obtain ⟨i, hi, rfl⟩ := hs
  have := (va_size i hi).1
  unfold maxLen
  omega
theorem va_kind : ∀ k, k < 9 → (vaT k).2.1 = 98 ∨ (vaT k).2.1 = 110 ∨ (vaT k).2.1 = 116 := by decide +kernel

theorem vaV_cons (p : Stt) (l : List Stt) (nm : ByteArray) : vaV (p :: l) nm = if p.1 = nm then p.2 else vaV l nm := by
  unfold vaV
  rw [List.find?_cons]
  by_cases h : p.1 = nm
  · rw [decide_eq_true h, if_pos h]
  · rw [decide_eq_false h, if_neg h]

/-
  The library's functions that the landed package vars leans on: Clone of a text, IndexByte, Index and Cut of bytes at one byte.
-/
set_option maxHeartbeats 4000000 in
set_option maxRecDepth 100000 in
theorem w_slcl (s : ByteArray) (w : World) (hlim : s.size ≤ 281474976710656) :
    Calls Tryd.prog 67 #[.string s] w fun e w' => e = .returned (.string s) ∧ Below w.heap.size w w' := by
  by_cases h0 : s.size = 0
  · have hs : s = ⟨#[]⟩ := by
      apply ByteArray.ext
      exact Array.eq_empty_of_size_eq_zero h0
    subst hs
    go_enter Tryd.func67, Tryd.ntmps67
    go_wp2
    go_ret
    exact ⟨rfl, Below.refl _ _⟩
  · obtain ⟨i0, hi, hz0, hz1, hz2⟩ := info_parts infoU8
    have hinfo : (Tryd.prog.info? 5).map (·.size) = some 1 := by rw [hi]; simp [hz1]
    have hco : Tryd.prog.cellsOf 5 = 1 := by simp [Program.cellsOf, hi, hz1]
    obtain ⟨M, hM⟩ : ∃ M, M = madeCells (Value.int .u8 0).cells (((s.size : Nat) : Int).toNat * i0.size) := ⟨_, rfl⟩
    have hMs : M.size = s.size := by rw [hM, size_madeCells, hz1]; simp
    have hmk : ∀ W : World, (Instr.makeSlice 22 (.int .i64 (s.size : Int)) (.int .i64 (s.size : Int))).run Tryd.prog W = .ok (.slice (some ⟨W.heap.size, 0, none⟩) s.size s.size) (W.alloc (.cells M 5)) := fun W => by
      have h := run_make (P := Tryd.prog) W 22 5 i0 (.int .u8 0) Tryd.underlying22 hi hz0 .i64 .i64 (s.size : Int) (s.size : Int) (by omega) (by omega) (by rw [hz2]; omega) (by omega)
      rw [← hM] at h
      simpa using h
    clear hM
    have hcp := Lib.run_copy_row_string (P := Tryd.prog) (w.alloc (.cells M 5)) 22 9 3 5 w.heap.size 0 s.size s.size s M 5 Tryd.underlying22 hinfo (heap_alloc_new w _) (Nat.le_refl _) (by omega)
    obtain ⟨Y, hY⟩ : ∃ Y, Y = (M.toList.take 0 ++ Lib.byteCells s.data.toList ++ M.toList.drop (0 + s.size)).toArray := ⟨_, rfl⟩
    rw [← hY] at hcp
    have hYl : Y.toList = Lib.byteCells s.data.toList := by
      rw [hY, List.toList_toArray, List.take_zero, List.nil_append, List.drop_of_length_le (by rw [Array.length_toList]; omega), List.append_nil]
    have hYs : Y.size = s.size := by rw [← Array.length_toList, hYl, Lib.byteCells_length, ← Lib.size_eq]
    have hgY : ((w.alloc (.cells M 5)).setRow w.heap.size Y).heap[w.heap.size]? = some (.cells Y 5 (0, 0)) := setRow_heap _ _ M _ 5 (0, 0) (heap_alloc_new w _)
    have hne : s.data.toList ≠ [] := fun e => h0 (by rw [Lib.size_eq, e]; rfl)
    have hUS := Lib.run_unsafeString_row (P := Tryd.prog) ((w.alloc (.cells M 5)).setRow w.heap.size Y) 106 3 9 5 Tryd.underlying106 hco w.heap.size Y.size (by unfold World.shape?; rw [hgY]) s.data.toList hne (by rw [← Lib.size_eq]; omega) (by rw [← Lib.size_eq]; omega)
      (fun j x hx => Lib.cells_of_row hgY Y.size j _ (by rw [List.take_of_length_le (by rw [Array.length_toList]; exact Nat.le_refl _), hYl]; simp [Lib.byteCells, hx]))
    rw [← Lib.size_eq] at hUS
    clear hY
    go_enter Tryd.func67, Tryd.ntmps67
    go_wp2
    go_ret
    have hb1 : Below w.heap.size w (w.alloc (.cells M 5)) := (Below.refl _ w).alloc (Nat.le_refl _) _
    have hb2 : Below w.heap.size (w.alloc (.cells M 5)) ((w.alloc (.cells M 5)).setRow w.heap.size Y) := ⟨rfl, rfl, rfl, by simp, fun k hk => setRow_other _ _ _ _ (by omega)⟩
    exact ⟨rfl, Lib.below_freeze (hb1.trans hb2) (p := ⟨w.heap.size, 0, none⟩) (Nat.le_refl _) _⟩

set_option maxHeartbeats 1000000 in
theorem w_clone (s : ByteArray) (w : World) (hlim : s.size ≤ 281474976710656) :
    Calls Tryd.prog 51 #[.string s] w fun e w' => e = .returned (.string s) ∧ Below w.heap.size w w' := by
  go_enter Tryd.func51, Tryd.ntmps51
  go_wp2_with (go_at_call 67; refine (w_slcl s _ hlim).mono ?_; rintro e w1 ⟨rfl, hb⟩)
  go_ret
  exact ⟨rfl, hb⟩

/-- where c stands first: -1, or the place -/
def AtB (l : List Int) (c i : Int) : Prop := (i = -1 ∧ ∀ x ∈ l, ¬ x = c) ∨ ∃ k : Nat, i = k ∧ k < l.length ∧ l = l.take k ++ c :: l.drop (k + 1) ∧ ∀ x ∈ l.take k, ¬ x = c
theorem atB_index (u : UInt8) : ∀ l : List UInt8, AtB (l.map fun c => (c.toNat : Int)) u.toNat (Lib.indexByte l u)
  | [] => Or.inl ⟨rfl, fun x hx => by simp at hx⟩
  | b :: l => by
    unfold Lib.indexByte
    by_cases hb : b = u
    · subst hb
      simp only [beq_self_eq_true, if_true]
      exact Or.inr ⟨0, rfl, by simp, by simp, fun x hx => by simp at hx⟩
    · have hne : (b == u) = false := by simpa using hb
      have hni : ¬ (b.toNat : Int) = u.toNat := by
        intro h
        exact hb (UInt8.toNat_inj.1 (by omega))
      rw [hne]
      simp only [Bool.false_eq_true, if_false]
      rcases atB_index u l with ⟨h1, h2⟩ | ⟨k, h1, h2, h3, h4⟩
      · rw [h1]
        refine Or.inl ⟨rfl, fun x hx => ?_⟩
        simp only [List.map_cons, List.mem_cons] at hx
        rcases hx with rfl | hx
        · exact hni
        · exact h2 x hx
      · rw [h1]
        have : ((k : Int) == -1) = false := by rw [beq_eq_false_iff_ne]; omega
        rw [this]
        simp only [Bool.false_eq_true, if_false]
        refine Or.inr ⟨k + 1, by simp, by simp only [List.map_cons, List.length_cons]; omega, ?_, fun x hx => ?_⟩
        · simp only [List.map_cons, List.take_succ_cons, List.drop_succ_cons, List.cons_append]
          rw [← h3]
        · simp only [List.map_cons, List.take_succ_cons, List.mem_cons] at hx
          rcases hx with rfl | hx
          · exact hni
          · exact h4 x hx
theorem byte_of {c : Int} (h0 : 0 ≤ c) (h1 : c < 256) : ((c.toNat.toUInt8).toNat : Int) = c := by
  rw [UInt8.toNat_ofNat']
  omega
theorem bytes_map {xs : List Int} (hB : bytesL xs) : (Lib.bytesOf xs).map (fun c => (c.toNat : Int)) = xs := by
  unfold Lib.bytesOf
  rw [List.map_map]
  conv => rhs; rw [← List.map_id xs]
  apply List.map_congr_left
  intro x hx
  have := hB x hx
  simp only [Function.comp, id]
  exact byte_of this.1 this.2

theorem bib_run (v : Value) (xs : List Int) (c : Int) (w : World) (h : Rd .u8 w v xs) (hB : bytesL xs) (h0 : 0 ≤ c) (h1 : c < 256) : ∃ i, AtB xs c i ∧ (Extern.BytealgIndexByte.indexByte #[v, .int .u8 c]).run Tryd.prog w = .ok (.int .i64 i) w := by
  rcases h with ⟨ao, cap, rfl, hn, rfl⟩ | ⟨b, off, cap, rfl, hp, hc1, hc2, hc⟩
  · refine ⟨-1, Or.inl ⟨rfl, fun x hx => by simp at hx⟩, ?_⟩
    cases ao with
    | none => exact Lib.run_indexByteNil (P := Tryd.prog) (w := w) 0 cap c
    | some a => exact Lib.run_indexByteString (P := Tryd.prog) .empty c w
  · refine ⟨Lib.indexByte (Lib.bytesOf xs) c.toNat.toUInt8, ?_, Lib.run_indexByteSlice w b off xs.length cap xs rfl hc c⟩
    have := atB_index c.toNat.toUInt8 (Lib.bytesOf xs)
    rw [byte_of h0 h1, bytes_map hB] at this
    exact this

set_option maxHeartbeats 1000000 in
set_option maxRecDepth 100000 in
theorem w_bib (v : Value) (xs : List Int) (c : Int) (w : World) (h : Rd .u8 w v xs) (hB : bytesL xs) (h0 : 0 ≤ c) (h1 : c < 256) :
    Calls Tryd.prog 79 #[v, .int .u8 c] w fun e w' => ∃ i, e = .returned (.int .i64 i) ∧ AtB xs c i ∧ w' = w := by
  obtain ⟨i, hi, hrun⟩ := bib_run v xs c w h hB h0 h1
  go_enter Tryd.func79, Tryd.ntmps79
  go_wp2
  rw [run_callFunc_extern Tryd.func90 (by kernel_rfl) (by kernel_rfl) (by kernel_rfl) (e := Extern.BytealgIndexByte.indexByte) (by kernel_rfl), hrun]
  simp only [Result.andThen]
  rw [Oper.upon_value]
  go_wp2
  go_ret
  exact ⟨i, rfl, hi, rfl⟩

/-
  A call of a Go function as one step of a region that draws its order.
-/
theorem step_call {P : Program} {ops : Array Oper} {w : World} {o : Oper} {a : Act} {K : Act → World → Prop} {Q : Exit → Act → World → Prop} {E : Prop} (hgd : o.guard = none) (f : Nat) (x : Operand) (t : TypeId)
    (hop : o.op = .call { callee := .value (.func f), args := #[x], argTypes := #[t] }) (hent : ∀ args w, (callFunc f args).run P w = .ok (.enter f args) w) (vx : Value) (hx : a.eval x = vx)
    (hc : Calls P f #[vx] w fun e w' => ∃ v, e = .returned v ∧ K (a.put o.dst v) w') :
    if Region.wanted o (yielded ops a.tmps) = true then Oper.wp P o a w K Q else E := by
  rw [if_pos (by simp [Region.wanted, hgd])]
  unfold Oper.wp
  have he : a.eval (.func f) = .func (.func f) #[] #[] := rfl
  simp [execOp, hop, resolve, invoke, hx, he, hent, Deferred.ofValue]
  rw [Oper.upon_enter]
  refine hc.mono ?_
  rintro e w' ⟨v, rfl, h⟩
  exact h

/-
  The table of package vars, and the place of a name in it.
-/
/-- a variable's kind as the program numbers it -/
def kdF (k : Nat) : Int := if (vaT k).2.1 = 98 then 0 else if (vaT k).2.1 = 110 then 1 else 2
def rowV (k : Nat) : List Value := [.string (vaT k).1, .int .i64 (kdF k), .string (vaT k).2.2]
def tabV : List Value := (List.range 9).flatMap rowV
/-- the listed variable lies in the world as its text lays it -/
def Tab (w : World) : Prop := ∀ (j : Nat) (v : Value), tabV[j]? = some v → w.cell? ⟨0, j, none⟩ = some v
theorem Tab.below {w w' : World} (h : Tab w) (g : Below w.heap.size w w') : Tab w' := fun j v hv => below_cell g (h j v hv)
theorem tab_size : (Tryd.prog.info? 61).map (·.size) = some tabV.length := by kernel_rfl
theorem tab_ext : ∀ k, k < 9 → tabV.toArray.extract (k * 3) (k * 3 + 3) = (rowV k).toArray := by
  intro k hk
  rcases k with _ | _ | _ | _ | _ | _ | _ | _ | _ | k
  case succ.succ.succ.succ.succ.succ.succ.succ.succ => omega
  all_goals rfl
theorem tab_cells : ∀ k, k < 9 → tabV[k * 3]? = some (.string (vaT k).1) ∧ tabV[k * 3 + 1]? = some (.int .i64 (kdF k)) ∧ tabV[k * 3 + 2]? = some (.string (vaT k).2.2) := by
  intro k hk
  rcases k with _ | _ | _ | _ | _ | _ | _ | _ | _ | k
  case succ.succ.succ.succ.succ.succ.succ.succ.succ => omega
  all_goals exact ⟨rfl, rfl, rfl⟩
theorem tab_idx (k : Nat) (hk : k < 9) (w : World) : (Instr.index 61 (.agg tabV.toArray) (.int .i64 k)).run Tryd.prog w = .ok (.agg #[.string (vaT k).1, .int .i64 (kdF k), .string (vaT k).2.2]) w := by
  have e := tab_ext k hk
  have hagg : (isAgg 60).run Tryd.prog w = .ok true w := by
    unfold isAgg
    rw [Sem.run_bind, run_underlying Tryd.underlying60 w]
    rfl
  have hs := Tryd.sizeOf60 w
  have hk2 : (0 : Int) ≤ k ∧ (k : Int) < ((9 : Nat) : Int) := by omega
  simp only [Instr.index, asIntOf, Sem.run_bind, run_underlying Tryd.underlying61, Sem.run_pure, Result.andThen_ok, if_pos hk2, Int.toNat_natCast, part, hagg, hs, if_true, e, rowV]
theorem kd_bd (k : Nat) : kdF k = 0 ∨ kdF k = 1 ∨ kdF k = 2 := by unfold kdF; split <;> (try split) <;> simp
/-- the three cells of a row of the table -/
theorem tab_at {w : World} (h : Tab w) (k : Nat) (hk : k < 9) : w.cell? ⟨0, k * 3, none⟩ = some (.string (vaT k).1) ∧ w.cell? ⟨0, k * 3 + 1, none⟩ = some (.int .i64 (kdF k)) ∧ w.cell? ⟨0, k * 3 + 2, none⟩ = some (.string (vaT k).2.2) := by
  obtain ⟨h1, h2, h3⟩ := tab_cells k hk
  exact ⟨h _ _ h1, h _ _ h2, h _ _ h3⟩

set_option maxHeartbeats 1000000 in
set_option maxRecDepth 100000 in
theorem w_pasked19 (nm X Y : ByteArray) (K : Int) (B : Nat) (W : World) (hs : W.cell? ⟨B, 0, none⟩ = some (.string nm)) :
    Calls Tryd.prog 53 #[.agg #[.string X, .int .i64 K, .string Y], .pointer (some ⟨B, 0, none⟩)] W fun e w' => e = .returned (.bool (decide (X = nm))) ∧ Below W.heap.size W w' := by
  have hq := str_beq X nm
  have bx := box_below W (.cells #[.string X, .int .i64 K, .string Y] 60)
  have hs2 := below_cell bx hs
  have z0 := (stands_new W #[.string X, .int .i64 K, .string Y] 60).cell 0 _ rfl
  go_enter Tryd.func53, Tryd.ntmps53
  go_wp2_with fail
  go_ret
  exact ⟨rfl, bx⟩

set_option maxHeartbeats 2000000 in
set_option maxRecDepth 100000 in
theorem w_pplace19 (nm : ByteArray) (B : Nat) (w : World) (hT : Tab w) (hs : w.cell? ⟨B, 0, none⟩ = some (.string nm)) :
    Calls Tryd.prog 52 #[.func (.func 53) #[] #[.pointer (some ⟨B, 0, none⟩)]] w fun e w' => e = .returned (.int .i64 (vaF nm)) ∧ Below w.heap.size w w' := by
  have eg : ∀ args w, (callFunc 53 args).run Tryd.prog w = .ok (.enter 53 args) w := enters_of Tryd.func53 (by kernel_rfl) rfl
  have hrng : Hid (w.rangeAt 0 0 tabV) := fun j v hv => by rw [Nat.zero_add]; exact hT j v hv
  have hidx := hid tab_idx
  have hsz := hid tab_size
  obtain ⟨A, hA⟩ : ∃ A, tabV = A := ⟨_, rfl⟩
  rw [hA] at hrng hidx hsz
  clear hT hA
  go_enter Tryd.func52, Tryd.ntmps52
  go_upto_region 1 with (fail)
  go_wp2_with (refine wpList_load_mid rfl 61 (.global 0) rfl 0 0 rfl A _ hrng.out Tryd.underlying61 rfl hsz.out ?_)
  go_loopw [6] (fun I wx => ∃ k : Nat, (k : Int) ≤ 9 ∧ I = .int .i64 k ∧ Hid (∀ j, j < k → ¬ (vaT j).1 = nm) ∧ Below w.heap.size w wx) (fun I _ => (9 - intOf I).toNat)
  case atStart => exact ⟨0, by omega, rfl, hid (fun j hj => by omega), Below.refl _ _⟩
  case round =>
    obtain ⟨k, hk, rfl, hno, hb⟩ := hrel
    by_cases hlt : (k : Int) < 9
    · have hidxk := hidx.out k (by omega)
      have hb2 := hb.alloc hb.size (.cells #[.string (vaT k).1, .int .i64 (kdF k), .string (vaT k).2.2] 60)
      have cA := w_pasked19 nm (vaT k).1 (vaT k).2.2 (kdF k) B _ (below_cell hb2 hs)
      by_cases he : (vaT k).1 = nm
      · have hf := hid (va_hit (show k < 9 by omega) he)
        rw [decide_eq_true he] at cA
        generalize (vaT k).1 = X at *
        generalize (vaT k).2.2 = Y at *
        generalize kdF k = K at *
        clear he
        go_wp2_with (go_at_fn 53; refine cA.mono ?_; rintro e w1 ⟨rfl, b1⟩)
        go_ret
        exact ⟨ret_i hf.out.symm, below_trans hb2 b1⟩
      · have hno2 : Hid (∀ j, j < k + 1 → ¬ (vaT j).1 = nm) := by
          intro j hj
          by_cases e : j = k
          · rw [e]; exact he
          · exact hno.out j (by omega)
        rw [decide_eq_false he] at cA
        clear hno
        generalize hX : (vaT k).1 = X at hidxk hb2 cA he
        generalize hY : (vaT k).2.2 = Y at hidxk hb2 cA
        generalize hK : kdF k = K at hidxk hb2 cA
        clear he hX hY hK
        go_wp2_with (go_at_fn 53; refine cA.mono ?_; rintro e w1 ⟨rfl, b1⟩)
        go_roundw
        case rel => exact ⟨k + 1, by omega, by go_num, hno2, below_trans hb2 b1⟩
        case measure => simp [intOf]; omega
    · have hf := hid (va_miss (fun j hj => hno.out j (by omega)))
      go_wp2_with fail
      go_ret
      exact ⟨ret_i hf.out.symm, hb⟩

set_option maxHeartbeats 1000000 in
set_option maxRecDepth 100000 in
theorem w_pplaceOf19 (nm : ByteArray) (w : World) (hT : Tab w) :
    Calls Tryd.prog 32 #[.string nm] w fun e w' => e = .returned (.int .i64 (vaF nm)) ∧ Below w.heap.size w w' := by
  have bx := box_below w (.cells #[.string nm] 9)
  have hT2 := hT.below bx
  have z0 := box_cell w #[.string nm] 9 0 _ rfl
  have c1 := w_pplace19 nm _ _ hT2 z0
  go_enter Tryd.func32, Tryd.ntmps32
  go_wp2_with (go_at_call 52; refine c1.mono ?_; rintro e w1 ⟨rfl, b1⟩)
  go_ret
  exact ⟨rfl, below_trans bx b1⟩

end Go.Proofs.YtaiimfdcbdfbdabDoor
