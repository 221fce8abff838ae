/-
  Texts of one proof, laid one behind the other: Tin Flat Ttb.
-/
import Derived.Test.YtkdaimagdmbnfaaDoorB6
import Derived.Lib.LaidTab
import Derived.Test.YtkdaimagdmbnfaaDoorRows
import Derived.Stop.LaidErr
namespace Go.Proofs.YtkdaimagdmbnfaaDoor
open Go.ChangeShapes Go.WideShapes Go.ChangeAt Go.RowKit
set_option linter.unusedVariables false
set_option linter.unusedSimpArgs false

/-
  Lists of integers held against one another: what layer 8's statements ask.
-/
set_option maxHeartbeats 1000000 in
theorem w_ints8 (va vb : Value) (xs ys : List Int) (w : World) (ha : Rd .i64 w va xs) (hb : Rd .i64 w vb ys) :
    Calls Tryd.prog 28 #[va, vb] w fun e w' => e = .returned (.bool (decide (xs = ys))) ∧ Dr w w' := by
  rcases ha with ⟨ao, ca, rfl, hao, rfl⟩ | ⟨b, off, ca, rfl, a0, a1, a2, hca⟩
  · rcases hb with ⟨bo, cb, rfl, hbo, rfl⟩ | ⟨b', off', cb, rfl, b0, b1, b2, hcb⟩
    · go_enter Tryd.func28, Tryd.ntmps28
      go_wp2
      go_rounds 1
      go_ret
      exact ⟨ret_b (by simp), dr_refl _⟩
    · have hf : Hid (decide (([] : List Int) = ys) = false) := by show _ = _; simp; intro h; subst h; simp at b0
      have hn : ((0 : Int) != (ys.length : Int)) = true := by simp; omega
      go_enter Tryd.func28, Tryd.ntmps28
      go_wp2
      all_goals go_ret
      all_goals exact ⟨ret_b hf.out.symm, dr_refl _⟩
  · rcases hb with ⟨bo, cb, rfl, hbo, rfl⟩ | ⟨b', off', cb, rfl, b0, b1, b2, hcb⟩
    · have hf : Hid (decide (xs = ([] : List Int)) = false) := by show _ = _; simp; intro h; subst h; simp at a0
      have hn : ((xs.length : Int) != (0 : Int)) = true := by simp; intro h; subst h; simp at a0
      go_enter Tryd.func28, Tryd.ntmps28
      go_wp2
      all_goals go_ret
      all_goals exact ⟨ret_b hf.out.symm, dr_refl _⟩
    · unfold maxLen at a2 b2
      by_cases hl : xs.length = ys.length
      · have hn : ((xs.length : Int) != (ys.length : Int)) = false := by simp [hl]
        have Hl := hid hl
        have HA := hid hca
        have HB := hid hcb
        clear hl hca hcb
        go_enter Tryd.func28, Tryd.ntmps28
        go_wp2
        go_loopw [5] (fun i wx => ∃ k : Nat, (k : Int) ≤ xs.length ∧ i = .int .i64 k ∧ Hid (xs.take k = ys.take k) ∧ Dr w wx) (fun i _ => (xs.length - intOf i).toNat)
        case atStart => exact ⟨0, by omega, rfl, hid (by simp), dr_refl _⟩
        case round =>
          obtain ⟨k, hk, rfl, ht, hg⟩ := hrel
          by_cases hlt : (k : Int) < xs.length
          · have c1 := below_cell (dr_below hg) (HA.out k (by omega))
            have c2 := below_cell (dr_below hg) (HB.out k (by have := Hl.out; omega))
            have hlt2 : (k : Int) < (ys.length : Int) := by have := Hl.out; omega
            obtain ⟨x, hx⟩ : ∃ x, xs.getD k 0 = x := ⟨_, rfl⟩
            obtain ⟨y, hy⟩ : ∃ y, ys.getD k 0 = y := ⟨_, rfl⟩
            rw [hx] at c1
            rw [hy] at c2
            by_cases hxy : x = y
            · have ht2 : Hid (xs.take (k + 1) = ys.take (k + 1)) := same_take xs ys k (by omega) (by omega) ht.out (by rw [hx, hy, hxy])
              have hb : (x != y) = false := by simp [hxy]
              clear hx hy hxy
              go_wp2
              go_quiet (fail)
              go_wp2
              go_roundw
              case rel => exact ⟨k + 1, by omega, by go_num, ht2, dr_more hg _⟩
              case measure => simp [intOf]; omega
            · have hf : Hid (decide (xs = ys) = false) := by show _ = _; simp; exact ne_at xs ys k (by rw [hx, hy]; exact hxy)
              have hb : (x != y) = true := by simp [hxy]
              clear hx hy hxy
              go_wp2
              go_quiet (fail)
              go_wp2
              go_ret
              exact ⟨ret_b hf.out.symm, dr_more hg _⟩
          · have hf : Hid (decide (xs = ys) = true) := by
              show _ = _
              have h1 : xs.take k = xs := List.take_of_length_le (by omega)
              have h2 : ys.take k = ys := List.take_of_length_le (by have := Hl.out; omega)
              have := ht.out
              rw [h1, h2] at this
              simp [this]
            go_wp2
            go_ret
            exact ⟨ret_b hf.out.symm, hg⟩
      · have hf : Hid (decide (xs = ys) = false) := by show _ = _; simp; intro h; exact hl (by rw [h])
        have hn : ((xs.length : Int) != (ys.length : Int)) = true := by simp; omega
        clear hl
        go_enter Tryd.func28, Tryd.ntmps28
        go_wp2
        go_ret
        exact ⟨ret_b hf.out.symm, dr_refl _⟩

/-
  Plain data (numbers, bools, texts; rows and structs of such) tells the cells that hold it. No Go text in sight.
-/
open Go

/-- the cells of plain data, one behind the other -/
def flatCells : DataW Unit → List Value
  | .lit (.int k n) => [.int k n]
  | .lit (.bool b) => [.bool b]
  | .lit (.string l) => [.string ⟨l.toArray⟩]
  | .agg ds => ds.attach.flatMap fun ⟨d, _⟩ => flatCells d
  | _ => []
theorem flat_agg (ds : List (DataW Unit)) : flatCells (.agg ds) = ds.flatMap flatCells := by
  rw [flatCells]
  conv => rhs; rw [← List.attach_map_subtype_val ds]
  rw [List.flatMap_map]

/-- fields that lie one behind the other, from cell o to cell e -/
def contB (P : Program) : List Field → Nat → Nat → Bool
  | [], o, e => o == e
  | f :: fs, o, e => f.offset == o && contB P fs (o + P.cellsOf f.type) e
theorem contB_le (P : Program) : ∀ (fs : List Field) (o e : Nat), contB P fs o e = true → o ≤ e
  | [], o, e, h => by simp [contB] at h; omega
  | f :: fs, o, e, h => by
    simp [contB] at h
    have := contB_le P fs _ e h.2
    omega
/-- a type whose values are plain data -/
def flatB (P : Program) : Nat → TypeId → Bool
  | 0, _ => false
  | m + 1, t => match P.underlying t with
    | some .bool => true
    | some (.int _) => true
    | some .string => true
    | some (.struct fs) => contB P fs.toList 0 (P.cellsOf t) && fs.toList.all fun f => flatB P m f.type
    | some (.array n e) => P.cellsOf t == n * P.cellsOf e && flatB P m e
    | _ => false

theorem flat_fields {P : Program} (cs : List Value) (g : TypeId → List Value → Option (DataW Unit × List MemPlace)) :
    ∀ (fs : List Field) (o e : Nat) (xs : List (DataW Unit × List MemPlace)), contB P fs o e = true → e ≤ cs.length →
      (∀ f ∈ fs, ∀ l d p, g f.type l = some (d, p) → l = flatCells d) →
      fs.mapM (fun f => g f.type ((cs.drop f.offset).take (P.cellsOf f.type))) = some xs → (cs.drop o).take (e - o) = (xs.map (·.1)).flatMap flatCells
  | [], o, e, xs, hc, he, hf, hm => by
    simp [contB] at hc
    subst hc
    simp at hm
    subst hm
    simp
  | f :: fs, o, e, xs, hc, he, hf, hm => by
    simp only [List.mapM_cons, Option.bind_eq_bind, Option.bind_eq_some_iff, Option.pure_def, Option.some.injEq] at hm
    obtain ⟨⟨d, p⟩, hd, r, hr, rfl⟩ := hm
    simp [contB] at hc
    obtain ⟨ho, hc⟩ := hc
    have hle := contB_le P fs _ e hc
    have ih := flat_fields cs g fs _ e r hc he (fun f' h' => hf f' (List.mem_cons_of_mem _ h')) hr
    have h1 := hf f (List.mem_cons_self ..) _ _ _ hd
    rw [ho] at h1
    simp only [List.map_cons, List.flatMap_cons]
    rw [← h1, ← ih, show e - o = P.cellsOf f.type + (e - (o + P.cellsOf f.type)) by omega, List.take_add, List.drop_drop]
theorem flat_rows {P : Program} (cs : List Value) (c : Nat) (g : List Value → Option (DataW Unit × List MemPlace)) (hg : ∀ l d p, g l = some (d, p) → l = flatCells d) :
    ∀ (m s : Nat) (xs : List (DataW Unit × List MemPlace)), (List.range' s m).mapM (fun i => g ((cs.drop (i * c)).take c)) = some xs → (cs.drop (s * c)).take (m * c) = (xs.map (·.1)).flatMap flatCells
  | 0, s, xs, hm => by
    simp at hm
    subst hm
    simp
  | m + 1, s, xs, hm => by
    rw [List.range'_succ] at hm
    simp only [List.mapM_cons, Option.bind_eq_bind, Option.bind_eq_some_iff, Option.pure_def, Option.some.injEq] at hm
    obtain ⟨⟨d, p⟩, hd, r, hr, rfl⟩ := hm
    have ih := flat_rows (P := P) cs c g hg m (s + 1) r hr
    have h1 := hg _ _ _ hd
    simp only [List.map_cons, List.flatMap_cons]
    rw [← h1, ← ih, Nat.succ_mul, Nat.add_comm (m * c) c, List.take_add, List.drop_drop, Nat.succ_mul]
/-- what reads as plain data holds just its cells -/
theorem flat_of_trod {enc : TypeId × Value → Unit} {P : Program} {w : World} {base : Nat} {sp : Nat → Bool} {held : Bool} : ∀ (m fuel : Nat) (t : TypeId) (cs : List Value) (d : DataW Unit) (p : List MemPlace), flatB P m t = true →
    DataW.trod enc P w base sp held fuel t cs = some (d, p) → cs = flatCells d
  | 0, _, _, _, _, _, hf, _ => by simp [flatB] at hf
  | m + 1, 0, _, _, _, _, _, h => by simp [DataW.trod] at h
  | m + 1, fuel + 1, t, cs, d, p, hf, h => by
    unfold flatB at hf
    cases hu : P.underlying t with
    | none => rw [hu] at hf; simp at hf
    | some u =>
      rw [hu] at hf
      cases u <;> simp only [] at hf
      case bool =>
        obtain ⟨z, hc, hx⟩ := DataW.trod_bool hu h
        obtain ⟨rfl, _⟩ := Prod.mk.inj hx
        simp [hc, flatCells]
      case int k =>
        obtain ⟨z, hc, hx, _⟩ := DataW.trod_int hu h
        obtain ⟨rfl, _⟩ := Prod.mk.inj hx
        simp [hc, flatCells]
      case string =>
        obtain ⟨z, hc, hx, _⟩ := DataW.trod_string hu h
        obtain ⟨rfl, _⟩ := Prod.mk.inj hx
        simp [hc, flatCells]
      case struct fs =>
        simp only [DataW.trod, hu] at h
        split at h
        · rename_i hl
          obtain ⟨xs, hm, hx⟩ := Option.map_eq_some_iff.1 h
          rw [Bool.and_eq_true] at hf
          obtain ⟨rfl, _⟩ : .agg (xs.map (·.1)) = d ∧ _ := by simpa using hx
          rw [flat_agg]
          have := flat_fields (P := P) cs (fun t l => DataW.trod enc P w base sp held fuel t l) fs.toList 0 (P.cellsOf t) xs hf.1 (by omega) (fun f hf' l d p hd => flat_of_trod m fuel f.type l d p (List.all_eq_true.1 hf.2 f hf') hd) hm
          rw [← this, List.drop_zero, Nat.sub_zero, List.take_of_length_le (by omega)]
        · cases h
      case array n e =>
        simp only [DataW.trod, hu] at h
        split at h
        · rename_i hl
          obtain ⟨xs, hm, hx⟩ := Option.map_eq_some_iff.1 h
          rw [Bool.and_eq_true, beq_iff_eq] at hf
          obtain ⟨rfl, _⟩ : .agg (xs.map (·.1)) = d ∧ _ := by simpa using hx
          rw [flat_agg]
          rw [List.range_eq_range'] at hm
          have := flat_rows (P := P) cs (P.cellsOf e) (fun l => DataW.trod enc P w base sp held fuel e l) (fun l d p hd => flat_of_trod m fuel e l d p hf.2 hd) n 0 xs hm
          rw [← this, Nat.zero_mul, List.drop_zero, List.take_of_length_le (by omega)]
        · cases h
      all_goals exact absurd hf (by decide)
/-- a listed variable of plain data, the first on its list, holds its cells -/
theorem flat_laid {P : Program} {W : World} {name : String} {d : DataW Unit} {rest : List (String × DataW Unit)} {g : Nat} {t : TypeId} (m : Nat) (hg : P.globalNamed name = some g) (hty : (P.globals[g]?).map (·.type) = some t) (hf : flatB P m t = true)
    (h : laidMet P ((name, d) :: rest) W) : ∀ j v, (flatCells d)[j]? = some v → W.cell? ⟨g, j, none⟩ = some v := by
  obtain ⟨ps, ⟨g', t', cs, fuel, p, q, hg', ht', hvar, hd, _, _⟩, _⟩ := h
  obtain rfl := Option.some.inj (hg.symm.trans hg')
  obtain rfl := Option.some.inj (hty.symm.trans ht')
  have e := flat_of_trod m fuel t cs.toList d p hf hd
  intro j v hv
  rw [World.var?_cell hg hvar j, ← Array.getElem?_toList, e, hv]

/-
  The variables that the rows list: that they are listed says what the walks lean on; and a world that holds them, for the witness.
-/
open Go

theorem g64 : Tryd.prog.globalNamed "math/bits.deBruijn64tab" = some 3 := by kernel_rfl
theorem g64T : (Tryd.prog.globals[3]?).map (·.type) = some 127 := by kernel_rfl
theorem g64F : flatB Tryd.prog 4 127 = true := by kernel_rfl
theorem tab_of_laid {W : World} (h : laidMetH Tryd.prog [("math/bits.deBruijn32tab", Rows.laid_math_bits_deBruijn32tab), ("math/bits.deBruijn64tab", Rows.laid_math_bits_deBruijn64tab), ("internal/strconv.uint64pow10", Rows.laid_internal_strconv_uint64pow10)] W) : Tab W := by
  have h : laidMet Tryd.prog [("math/bits.deBruijn32tab", Rows.laid_math_bits_deBruijn32tab), ("math/bits.deBruijn64tab", Rows.laid_math_bits_deBruijn64tab), ("internal/strconv.uint64pow10", Rows.laid_internal_strconv_uint64pow10)] W := h
  have h1 := flat_laid 4 g64 g64T g64F h.tail 15 (.int .u8 4) (by simp [Rows.laid_math_bits_deBruijn64tab, flat_agg, flatCells])
  exact ⟨trivial, h1⟩

/-- the listed blocks, for a witness -/
noncomputable def laidBlocks : List (Nat × Array Value) :=
  [(2, (([0, 1, 28, 2, 29, 14, 24, 3, 30, 22, 20, 15, 25, 17, 4, 8, 31, 27, 13, 23, 21, 19, 16, 7, 26, 12, 18, 6, 11, 5, 10, 9] : List Int).map (Value.int .u8)).toArray), (3, (([0, 1, 56, 2, 57, 49, 28, 3, 61, 58, 42, 50, 38, 29, 17, 4, 62, 47, 59, 36, 45, 43, 51, 22, 53, 39, 33, 30, 24, 18, 12, 5, 63, 55, 48, 27, 60, 41, 37, 16, 46, 35, 44, 21, 52, 32, 23, 11, 54, 26, 40, 15, 34, 20, 31, 10, 25, 14, 19, 9, 13, 8, 7, 6] : List Int).map (Value.int .u8)).toArray), (1, (([1, 10, 100, 1000, 10000, 100000, 1000000, 10000000, 100000000, 1000000000, 10000000000, 100000000000, 1000000000000, 10000000000000, 100000000000000, 1000000000000000, 10000000000000000, 100000000000000000, 1000000000000000000, 10000000000000000000] : List Int).map (Value.int .u64)).toArray)]

end Go.Proofs.YtkdaimagdmbnfaaDoor
