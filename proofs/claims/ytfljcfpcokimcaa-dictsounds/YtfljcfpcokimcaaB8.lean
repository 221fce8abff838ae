/-
  Texts of one proof, laid one behind the other: Plb Plp Rt1 Ow2 Big Rd6 Prw.
-/
import Derived.Test.YtfljcfpcokimcaaB7
import Derived.Lib.Bytealg
import Derived.Lib.BytesEntry
import Derived.Lib.ConvBytes
import Derived.Lib.AtoiErrMem
import Derived.Lib.Slices
import Derived.Laws.Externs
import Derived.Lib.Strings
import Derived.Lib.Walk
import Derived.Lib.BufferWrite
import Derived.Lib.UnsafeStr
import Derived.Lib.IfaceEq
import Derived.Lib.Hide
import Derived.Laws.MakeOwn
import Derived.Laws.Strings3
import Derived.Laws.Closers25
import Derived.Laws.Closers25b
import Derived.BigCall
import Derived.BigGuard
import Derived.Deep.RegionLaw
import Derived.Test.YtfljcfpcokimcaaProg
import Derived.WalkKit
namespace Go.Proofs.Ytfljcfpcokimcaa
open Go.ChangeShapes Go.WideShapes Go.ChangeAt Go.RowKit
set_option linter.unusedVariables false
set_option linter.unusedSimpArgs false

/-
  The library's functions that package prop leans on, as plain functions of lists of numbers: IndexByte, Clone, Cut at a comma.
-/
/-- where c stands first: -1, or the place -/
def AtB (l : List Int) (c i : Int) : Prop := (i = -1 ∧ ∀ x ∈ l, ¬ x = c) ∨ ∃ k : Nat, i = k ∧ k < l.length ∧ l = l.take k ++ c :: l.drop (k + 1) ∧ ∀ x ∈ l.take k, ¬ x = c
theorem atB_index (u : UInt8) : ∀ l : List UInt8, AtB (l.map fun c => (c.toNat : Int)) u.toNat (Lib.indexByte l u)
  | [] => Or.inl ⟨rfl, fun x hx => by simp at hx⟩
  | b :: l => by
    unfold Lib.indexByte
    by_cases hb : b = u
    · subst hb
      simp only [beq_self_eq_true, if_true]
      exact Or.inr ⟨0, rfl, by simp, by simp, fun x hx => by simp at hx⟩
    · have hne : (b == u) = false := by simpa using hb
      have hni : ¬ (b.toNat : Int) = u.toNat := by
        intro h
        exact hb (UInt8.toNat_inj.1 (by omega))
      rw [hne]
      simp only [Bool.false_eq_true, if_false]
      rcases atB_index u l with ⟨h1, h2⟩ | ⟨k, h1, h2, h3, h4⟩
      · rw [h1]
        refine Or.inl ⟨rfl, fun x hx => ?_⟩
        simp only [List.map_cons, List.mem_cons] at hx
        rcases hx with rfl | hx
        · exact hni
        · exact h2 x hx
      · rw [h1]
        have : ((k : Int) == -1) = false := by rw [beq_eq_false_iff_ne]; omega
        rw [this]
        simp only [Bool.false_eq_true, if_false]
        refine Or.inr ⟨k + 1, by simp, by simp only [List.map_cons, List.length_cons]; omega, ?_, fun x hx => ?_⟩
        · simp only [List.map_cons, List.take_succ_cons, List.drop_succ_cons, List.cons_append]
          rw [← h3]
        · simp only [List.map_cons, List.take_succ_cons, List.mem_cons] at hx
          rcases hx with rfl | hx
          · exact hni
          · exact h4 x hx
theorem byte_of {c : Int} (h0 : 0 ≤ c) (h1 : c < 256) : ((c.toNat.toUInt8).toNat : Int) = c := by
  rw [UInt8.toNat_ofNat']
  omega
theorem bytes_map {xs : List Int} (hB : bytesL xs) : (Lib.bytesOf xs).map (fun c => (c.toNat : Int)) = xs := by
  unfold Lib.bytesOf
  rw [List.map_map]
  conv => rhs; rw [← List.map_id xs]
  apply List.map_congr_left
  intro x hx
  have := hB x hx
  simp only [Function.comp, id]
  exact byte_of this.1 this.2

set_option maxHeartbeats 1000000 in
set_option maxRecDepth 100000 in
theorem w_slib (s : ByteArray) (c : Int) (w : World) (h0 : 0 ≤ c) (h1 : c < 256) :
    Calls Try.prog 103 #[.string s, .int .u8 c] w fun e w' => ∃ i, e = .returned (.int .i64 i) ∧ AtB (L s) c i ∧ w' = w := by
  go_enter Try.func103, Try.ntmps103
  go_wp2
  rw [run_callFunc_extern Try.func107 (by kernel_rfl) (by kernel_rfl) (by kernel_rfl) (e := Extern.BytealgIndexByte.indexByte) (by kernel_rfl), Lib.run_indexByteString]
  simp only [Result.andThen]
  rw [Oper.upon_value]
  go_wp2
  go_ret
  refine ⟨_, rfl, ?_, rfl⟩
  have := atB_index c.toNat.toUInt8 s.data.toList
  rw [byte_of h0 h1] at this
  exact this

set_option maxHeartbeats 1000000 in
set_option maxRecDepth 100000 in
theorem w_sib (s : ByteArray) (c : Int) (w : World) (h0 : 0 ≤ c) (h1 : c < 256) :
    Calls Try.prog 101 #[.string s, .int .u8 c] w fun e w' => ∃ i, e = .returned (.int .i64 i) ∧ AtB (L s) c i ∧ w' = w := by
  go_enter Try.func101, Try.ntmps101
  go_wp2_with (go_at_call 103; refine (w_slib s c _ h0 h1).mono ?_; rintro e w1 ⟨i, rfl, hi, rfl⟩)
  go_ret
  exact ⟨i, rfl, hi, rfl⟩

theorem bib_run (v : Value) (xs : List Int) (c : Int) (w : World) (h : Rd .u8 w v xs) (hB : bytesL xs) (h0 : 0 ≤ c) (h1 : c < 256) : ∃ i, AtB xs c i ∧ (Extern.BytealgIndexByte.indexByte #[v, .int .u8 c]).run Try.prog w = .ok (.int .i64 i) w := by
  rcases h with ⟨ao, cap, rfl, hn, rfl⟩ | ⟨b, off, cap, rfl, hp, hc1, hc2, hc⟩
  · refine ⟨-1, Or.inl ⟨rfl, fun x hx => by simp at hx⟩, ?_⟩
    cases ao with
    | none => exact Lib.run_indexByteNil (P := Try.prog) (w := w) 0 cap c
    | some a => exact Lib.run_indexByteString (P := Try.prog) .empty c w
  · refine ⟨Lib.indexByte (Lib.bytesOf xs) c.toNat.toUInt8, ?_, Lib.run_indexByteSlice w b off xs.length cap xs rfl hc c⟩
    have := atB_index c.toNat.toUInt8 (Lib.bytesOf xs)
    rw [byte_of h0 h1, bytes_map hB] at this
    exact this

set_option maxHeartbeats 1000000 in
set_option maxRecDepth 100000 in
theorem w_bcl (v : Value) (xs : List Int) (w : World) (h : Rd .u8 w v xs) (hz : xs.length ≤ 140737488355328) :
    Calls Try.prog 52 #[v] w fun e w' => ∃ v', e = .returned v' ∧ Rd .u8 w' v' xs ∧ Below w.heap.size w w' := by
  obtain ⟨i0, hi, hz0, hz1, hz2⟩ := info_parts infoU8
  obtain ⟨ao, cap, rfl, hc, hn, hx⟩ := rd_form h
  cases ao with
  | none =>
    have hc0 := hn rfl
    have hl : xs = [] := List.eq_nil_of_length_eq_zero (by omega)
    subst hl
    subst hc0
    show Calls _ _ #[.slice none 0 0] _ _
    have q := Lib.run_eql_slice_nil (P := Try.prog) w 25 5 none 0 0 0 0 Try.underlying25
    go_enter Try.func52, Try.ntmps52
    go_wp2_with fail
    go_ret
    exact ⟨_, rfl, Rd_nil, Below.refl _ _⟩
  | some a =>
    have q := Lib.run_eql_slice_nil (P := Try.prog) w 25 5 (some a) xs.length cap 0 0 Try.underlying25
    have ha := h.below (box_below w (.cells #[] 5))
    go_enter Try.func52, Try.ntmps52
    go_wp2_with (at_builtin; refine wpList_append_rd (k := .u8) rfl _ _ 25 rfl w.heap.size 5 i0 1 Try.underlying25 hi hz0 hz1 hz2 _ [] rfl (World.ownsRow_made w #[] 0 (Nat.le_refl _) (Nat.zero_le _) rfl) _ xs rfl ha (by unfold maxLen; simp; omega) (by simp; omega) (by simp) ?_; intro v5 w5 ho5 hg5)
    go_ret
    refine ⟨v5, rfl, (Rd_own (by simpa using ho5)).1, below_grown (box_below w _) hg5 (fun k hk => by simp [Value.ownBlock, Act.eval] at hk; omega)⟩

set_option maxHeartbeats 1000000 in
set_option maxRecDepth 100000 in
theorem w_slix (s : ByteArray) (w : World) :
    Calls Try.prog 102 #[.string s, .string ⟨#[44]⟩] w fun e w' => ∃ i, e = .returned (.int .i64 i) ∧ AtB (L s) 44 i ∧ w' = w := by
  go_enter Try.func102, Try.ntmps102
  go_wp2_with (go_at_call 103; refine (w_slib s 44 _ (by decide) (by decide)).mono ?_; rintro e w1 ⟨i, rfl, hi, rfl⟩)
  · have h : ([44] == s.toList) = true := by assumption
    go_ret
    have e : s.data.toList = [44] := by rw [← ByteArray.toList_eq]; exact (beq_iff_eq.1 h).symm
    refine ⟨_, rfl, Or.inr ⟨0, rfl, ?_, ?_, fun x hx => by simp at hx⟩, rfl⟩
    · simp [L, e]
    · simp [L, e]
  · go_ret
    exact ⟨i, rfl, hi, rfl⟩

/-- what Cut at a comma answers -/
def CutC (l : List Int) (A B : ByteArray) (f : Bool) : Prop := (f = false ∧ L A = l ∧ ∀ x ∈ l, ¬ x = 44) ∨ (f = true ∧ l = L A ++ 44 :: L B ∧ ∀ x ∈ L A, ¬ x = 44)

/-
  No variable is listed for these statements: what the tables hold is not asked.
-/
def Tab (w : World) : Prop := True
theorem Tab.below {w w' : World} (h : Tab w) (g : Below w.heap.size w w') : Tab w' := trivial
theorem L_getD (s : ByteArray) (k : Nat) (h : k < s.size) : ((s.data.toList.getD k 0).toNat : Int) = (s[k].toNat : Int) := by
  rw [List.getD_eq_getElem?_getD, List.getElem?_eq_getElem (by simpa using h)]
  rfl

/-
  SameNode and Same of the document's answer for trees.
-/
/-- two devices, two trees are one -/
def decN (x y : Nd) : Decidable (x = y) := @instDecidableEqProd _ _ _ (@instDecidableEqProd _ _ _ inferInstance) x y
def eqN (x y : Nd) : Bool := @decide (x = y) (decN x y)
theorem eqN_of {x y : Nd} (h : x = y) : eqN x y = true := @decide_eq_true _ (decN x y) h
theorem eqN_not {x y : Nd} (h : ¬ x = y) : eqN x y = false := @decide_eq_false _ (decN x y) h
def decT (a b : List Nd) : Decidable (a = b) := letI := decN; inferInstance
def eqT (a b : List Nd) : Bool := @decide (a = b) (decT a b)
theorem eqT_of {a b : List Nd} (h : a = b) : eqT a b = true := @decide_eq_true _ (decT a b) h
theorem eqT_not {a b : List Nd} (h : ¬ a = b) : eqT a b = false := @decide_eq_false _ (decT a b) h
theorem two_boxes (w : World) (a b : Array Value) (T : TypeId) : Stands ((w.alloc (.cells a T)).alloc (.cells b T)) w.heap.size a T ∧ Stands ((w.alloc (.cells a T)).alloc (.cells b T)) (w.heap.size + 1) b T ∧ Below w.heap.size w ((w.alloc (.cells a T)).alloc (.cells b T)) := by
  refine ⟨(stands_new w a T).below (box_below _ _), ?_, below_trans (box_below w _) (box_below _ _)⟩
  have := stands_new (w.alloc (.cells a T)) b T
  rwa [size_al] at this
theorem str_eq8 (A B : ByteArray) (a b : List Int) (ha : bytesL a) (hb : bytesL b) (h1 : strOfNums a = A) (h2 : strOfNums b = B) : (A.toList == B.toList) = decide (a = b) := by
  rw [str_beq, ← h1, ← h2]
  simp only [nums_eq a b ha hb]
theorem nd_ext (x y : Nd) (h1 : x.1 = y.1) (h2 : x.2.1 = y.2.1) (h3 : x.2.2.1 = y.2.2.1) (h4 : x.2.2.2.1 = y.2.2.2.1) (h5 : x.2.2.2.2 = y.2.2.2.2) : x = y := Prod.ext h1 (Prod.ext h2 (Prod.ext h3 (Prod.ext h4 h5)))

set_option maxHeartbeats 4000000 in
set_option maxRecDepth 100000 in
theorem w_r8node (x y : Nd) (n1 n2 : ByteArray) (u1 p1 c1 u2 p2 c2 : Value) (w : World) (e1 : strOfNums x.1 = n1) (e2 : strOfNums y.1 = n2) (hu1 : Rd .u32 w u1 x.2.1) (hu2 : Rd .u32 w u2 y.2.1) (hp1 : SlR 2 propR w p1 x.2.2.2.1) (hp2 : SlR 2 propR w p2 y.2.2.2.1) (hc1 : Rd .u32 w c1 x.2.2.2.2) (hc2 : Rd .u32 w c2 y.2.2.2.2) (bx : bytN x) (by' : bytN y) :
    Calls Try.prog 85 #[.agg #[.string n1, u1, .int .i64 x.2.2.1, p1, c1], .agg #[.string n2, u2, .int .i64 y.2.2.1, p2, c2]] w fun e w' => e = .returned (.bool (eqN x y)) ∧ Below w.heap.size w w' := by
  obtain ⟨a1, q1, rfl⟩ := rd_slice hu1
  obtain ⟨a2, q2, rfl⟩ := rd_slice hu2
  obtain ⟨a3, q3, rfl⟩ := rd_slice hc1
  obtain ⟨a4, q4, rfl⟩ := rd_slice hc2
  obtain ⟨a5, q5, rfl⟩ := slr_slice hp1
  obtain ⟨a6, q6, rfl⟩ := slr_slice hp2
  obtain ⟨X, hX⟩ : ∃ X, x.2.2.1 = X := ⟨_, rfl⟩
  obtain ⟨Y, hY⟩ : ∃ Y, y.2.2.1 = Y := ⟨_, rfl⟩
  rw [hX, hY]
  obtain ⟨s1, s2, bw⟩ := two_boxes w #[.string n1, .slice a1 x.2.1.length q1, .int .i64 X, .slice a5 x.2.2.2.1.length q5, .slice a3 x.2.2.2.2.length q3] #[.string n2, .slice a2 y.2.1.length q2, .int .i64 Y, .slice a6 y.2.2.2.1.length q6, .slice a4 y.2.2.2.2.length q4] 91
  have x0 := s1.cell 0 _ rfl
  have x1 := s1.cell 1 _ rfl
  have x2 := s1.cell 2 _ rfl
  have x3 := s1.cell 3 _ rfl
  have x4 := s1.cell 4 _ rfl
  have y0 := s2.cell 0 _ rfl
  have y1 := s2.cell 1 _ rfl
  have y2 := s2.cell 2 _ rfl
  have y3 := s2.cell 3 _ rfl
  have y4 := s2.cell 4 _ rfl
  have hN := str_eq8 n1 n2 _ _ bx.1 by'.1 e1 e2
  have hf : ¬ x = y → Hid (eqN x y = false) := fun h => eqN_not h
  have cu := w_r3sameQ _ _ _ _ _ (hu1.below bw) (hu2.below bw)
  by_cases h1 : x.1 = y.1
  · rw [decide_eq_true h1] at hN
    have hN2 : (n1.toList != n2.toList) = false := by simp [bne, hN]
    by_cases h2 : x.2.2.1 = y.2.2.1
    · have hP : (X != Y) = false := by rw [← hX, ← hY, h2]; simp
      by_cases h3 : x.2.1 = y.2.1
      · rw [decide_eq_true h3] at cu
        have cc := fun W (g : Below w.heap.size w W) => w_r3sameQ _ _ _ _ W (hc1.below g) (hc2.below g)
        by_cases h4 : x.2.2.2.2 = y.2.2.2.2
        · simp only [decide_eq_true h4] at cc
          by_cases h5 : x.2.2.2.1.length = y.2.2.2.1.length
          · have hl : ((x.2.2.2.1.length : Int) != (y.2.2.2.1.length : Int)) = false := by simp [h5]
            have hf3 : ¬ x.2.2.2.1 = y.2.2.2.1 → Hid (eqN x y = false) := fun h => eqN_not (fun g => h (by rw [g]))
            have ht3 : x.2.2.2.1 = y.2.2.2.1 → Hid (eqN x y = true) := fun h => eqN_of (nd_ext x y h1 h3 h2 h h4)
            have HL := hid h5
            have hm1 := slr_max hp1
            unfold maxLen at hm1
            have Hf3 := hid hf3
            have Ht3 := hid ht3
            clear hf h1 h2 h3 h4 h5 e1 e2 hX hY hf3 ht3
            go_enter Try.func85, Try.ntmps85
            go_wp2_with (first | (go_at_call_of 65 (Value.slice a1 x.2.1.length q1); refine cu.mono ?_; rintro e r1 ⟨rfl, d1⟩; have bw1 := below_trans bw (dr_below d1); have s1' := s1.below (dr_below d1); have s2' := s2.below (dr_below d1); have x3' := s1'.cell 3 _ rfl; have x4' := s1'.cell 4 _ rfl; have y3' := s2'.cell 3 _ rfl; have y4' := s2'.cell 4 _ rfl) | (go_at_call_of 65 (Value.slice a3 x.2.2.2.2.length q3); refine (cc _ bw1).mono ?_; rintro e r2 ⟨rfl, d2⟩; have bw2 := below_trans bw1 (dr_below d2); have s1'' := s1'.below (dr_below d2); have s2'' := s2'.below (dr_below d2); have z3 := s1''.cell 3 _ rfl; have w3 := s2''.cell 3 _ rfl))
            go_loopw [5] (fun I wx => ∃ k : Nat, (k : Int) ≤ x.2.2.2.1.length ∧ I = .int .i64 k ∧ Hid (x.2.2.2.1.take k = y.2.2.2.1.take k) ∧ Below r2.heap.size r2 wx) (fun I _ => (x.2.2.2.1.length - intOf I).toNat)
            case atStart => exact ⟨0, by omega, rfl, hid (by simp), Below.refl _ _⟩
            case round =>
              obtain ⟨k, hk, rfl, ht, hg⟩ := hrel
              have bwk := below_trans bw2 hg
              have t1 := s1''.below hg
              have t2 := s2''.below hg
              have m3 := t1.cell 3 _ rfl
              have m3' := t2.cell 3 _ rfl
              by_cases hlt : (k : Int) < x.2.2.2.1.length
              · have hka : k < x.2.2.2.1.length := by omega
                have hkb : k < y.2.2.2.1.length := by have := HL.out; omega
                obtain ⟨b1, o1, N1, D1, i1, f0, f1, g0, g1⟩ := prp_at8 (hp1.below bwk (propR_below bwk)) k hka
                obtain ⟨b2, o2, N2, D2, i2, j0, j1, l0, l1⟩ := prp_at8 (hp2.below bwk (propR_below bwk)) k hkb
                obtain ⟨d1', dq1, rfl⟩ := rd_slice g1
                obtain ⟨d2', dq2, rfl⟩ := rd_slice l1
                have hN9 := str_eq8 N1 N2 _ _ (bx.2 _ (List.getElem_mem hka)).1 (by'.2 _ (List.getElem_mem hkb)).1 g0 l0
                have cd := fun W (g : Below wr.heap.size wr W) => w_rsame _ _ _ _ W (g1.below g) (l1.below g) (bx.2 _ (List.getElem_mem hka)).2 (by'.2 _ (List.getElem_mem hkb)).2
                by_cases e1 : x.2.2.2.1[k].1 = y.2.2.2.1[k].1
                · rw [decide_eq_true e1] at hN9
                  have hN8 : (N1.toList != N2.toList) = false := by simp [bne, hN9]
                  by_cases e2 : x.2.2.2.1[k].2 = y.2.2.2.1[k].2
                  · have ht2 : Hid (x.2.2.2.1.take (k + 1) = y.2.2.2.1.take (k + 1)) := by
                      show _ = _
                      rw [List.take_succ_eq_append_getElem hka, List.take_succ_eq_append_getElem hkb, ht.out]
                      congr 2
                      exact Prod.ext e1 e2
                    simp only [decide_eq_true e2] at cd
                    clear e1 e2 g0 l0
                    go_wp2_with fail
                    go_quiet (first | (go_at_call 66; exact Calls.quiet_of_same (cd _ (below_drewN (Below.refl _ _) _))))
                    go_wp2_with fail
                    go_roundw
                    case rel => exact ⟨k + 1, by omega, by go_num, ht2, below_drewN hg _⟩
                    case measure => simp [intOf]; omega
                  · have hf4 := Hf3.out (fun h => e2 (by simp only [h]))
                    simp only [decide_eq_false e2] at cd
                    clear e1 e2 g0 l0
                    go_wp2_with fail
                    go_quiet (first | (go_at_call 66; exact Calls.quiet_of_same (cd _ (below_drewN (Below.refl _ _) _))))
                    go_wp2_with fail
                    go_ret
                    exact ⟨ret_b hf4.out.symm, below_drewN bwk _⟩
                · rw [decide_eq_false e1] at hN9
                  have hN8 : (N1.toList != N2.toList) = true := by simp [bne, hN9]
                  have hf4 := Hf3.out (fun h => e1 (by simp only [h]))
                  clear e1 g0 l0 cd
                  go_wp2_with fail
                  go_quiet (fail)
                  go_wp2_with fail
                  go_ret
                  exact ⟨ret_b hf4.out.symm, below_drewN bwk _⟩
              · have hf4 := Ht3.out (by
                  have := ht.out
                  rwa [List.take_of_length_le (by omega), List.take_of_length_le (by have := HL.out; omega)] at this)
                go_wp2_with fail
                go_ret
                exact ⟨ret_b hf4.out.symm, bwk⟩
          · have hl : ((x.2.2.2.1.length : Int) != (y.2.2.2.1.length : Int)) = true := by simp; omega
            have hf2 := hf (fun h => h5 (by rw [h]))
            clear hf h1 h2 h3 h4 h5 e1 e2 hX hY
            go_enter Try.func85, Try.ntmps85
            go_wp2_with (first | (go_at_call_of 65 (Value.slice a1 x.2.1.length q1); refine cu.mono ?_; rintro e r1 ⟨rfl, d1⟩; have bw1 := below_trans bw (dr_below d1); have s1' := s1.below (dr_below d1); have s2' := s2.below (dr_below d1); have x3' := s1'.cell 3 _ rfl; have x4' := s1'.cell 4 _ rfl; have y3' := s2'.cell 3 _ rfl; have y4' := s2'.cell 4 _ rfl) | (go_at_call_of 65 (Value.slice a3 x.2.2.2.2.length q3); refine (cc _ bw1).mono ?_; rintro e r2 ⟨rfl, d2⟩; have bw2 := below_trans bw1 (dr_below d2); have s1'' := s1'.below (dr_below d2); have s2'' := s2'.below (dr_below d2); have z3 := s1''.cell 3 _ rfl; have w3 := s2''.cell 3 _ rfl))
            go_ret
            exact ⟨ret_b hf2.out.symm, bw2⟩
        · have hf2 := hf (fun h => h4 (by rw [h]))
          simp only [decide_eq_false h4] at cc
          clear hf h1 h2 h3 h4 e1 e2 hX hY
          go_enter Try.func85, Try.ntmps85
          go_wp2_with (first | (go_at_call_of 65 (Value.slice a1 x.2.1.length q1); refine cu.mono ?_; rintro e r1 ⟨rfl, d1⟩; have bw1 := below_trans bw (dr_below d1); have s1' := s1.below (dr_below d1); have s2' := s2.below (dr_below d1); have x3' := s1'.cell 3 _ rfl; have x4' := s1'.cell 4 _ rfl; have y3' := s2'.cell 3 _ rfl; have y4' := s2'.cell 4 _ rfl) | (go_at_call_of 65 (Value.slice a3 x.2.2.2.2.length q3); refine (cc _ bw1).mono ?_; rintro e r2 ⟨rfl, d2⟩; have bw2 := below_trans bw1 (dr_below d2); have s1'' := s1'.below (dr_below d2); have s2'' := s2'.below (dr_below d2); have z3 := s1''.cell 3 _ rfl; have w3 := s2''.cell 3 _ rfl))
          go_ret
          exact ⟨ret_b hf2.out.symm, bw2⟩
      · have hf2 := hf (fun h => h3 (by rw [h]))
        rw [decide_eq_false h3] at cu
        clear hf h1 h2 h3 e1 e2 hX hY
        go_enter Try.func85, Try.ntmps85
        go_wp2_with (go_at_call 65; refine cu.mono ?_; rintro e r1 ⟨rfl, d1⟩)
        go_ret
        exact ⟨ret_b hf2.out.symm, below_trans bw (dr_below d1)⟩
    · have hP : (X != Y) = true := by rw [← hX, ← hY]; simpa using h2
      have hf2 := hf (fun h => h2 (by rw [h]))
      clear hf h1 h2 e1 e2 cu hX hY
      go_enter Try.func85, Try.ntmps85
      go_wp2_with fail
      go_ret
      exact ⟨ret_b hf2.out.symm, bw⟩
  · rw [decide_eq_false h1] at hN
    have hN2 : (n1.toList != n2.toList) = true := by simp [bne, hN]
    have hf2 := hf (fun h => h1 (by rw [h]))
    clear hf h1 e1 e2 cu hX hY
    go_enter Try.func85, Try.ntmps85
    go_wp2_with fail
    go_ret
    exact ⟨ret_b hf2.out.symm, bw⟩

/-
  Slices of rows appended to rows of the call's own. No Go text in sight.
-/
theorem flat_get {α : Type} : ∀ (rows : List (List α)) (sz i j : Nat), (∀ r ∈ rows, r.length = sz) → i < rows.length → j < sz → rows.flatten[i * sz + j]? = (rows.getD i [])[j]?
  | [], sz, i, j, _, hi, _ => by simp at hi
  | r :: rows, sz, 0, j, h, hi, hj => by
    have hr := h r (by simp)
    simp only [List.flatten_cons, Nat.zero_mul, Nat.zero_add, List.getD_cons_zero]
    rw [List.getElem?_append_left (by omega)]
  | r :: rows, sz, i + 1, j, h, hi, hj => by
    have hr := h r (by simp)
    have ih := flat_get rows sz i j (fun x hx => h x (by simp [hx])) (by simpa using hi) hj
    simp only [List.flatten_cons, List.getD_cons_succ]
    rw [List.getElem?_append_right (by rw [hr, Nat.add_mul]; omega), hr, show (i + 1) * sz + j - sz = i * sz + j by rw [Nat.add_mul]; omega, ih]
theorem flat_len {α : Type} (rows : List (List α)) (sz : Nat) (h : ∀ r ∈ rows, r.length = sz) : rows.flatten.length = rows.length * sz := by
  induction rows with
  | nil => simp
  | cons r rows ih =>
    rw [List.flatten_cons, List.length_append, ih (fun x hx => h x (by simp [hx])), h r (by simp), List.length_cons, Nat.add_mul]
    omega
/-- append of a slice of rows onto a row of the call's own -/
theorem wp_append_rows {P : Program} {w : World} {o : Oper} {a : Act} {K : Act → World → Prop} {Q : Exit → Act → World → Prop} (s x : Operand) (t : TypeId)
    (ho : o.op = .call { callee := .builtin .append, args := #[s, x], argTypes := #[t, t] })
    (base : Nat) (e : TypeId) (i : TypeInfo) (z : Value) (sz bytes : Nat) (ht : P.underlying t = some (.slice e)) (hi : P.info? e = some i) (hz : i.zero = some z) (hsize : i.size = sz) (hby : i.bytes = bytes) (hzs : z.cells.size = sz) (hsz : 0 < sz)
    (v : Value) (n : Nat) (cs : List Value) (hs : a.eval s = v) (hown : w.ownsRow base e sz v n cs)
    (vx : Value) (rows : List (List Value)) (hx : a.eval x = vx) (hr : SlC sz w vx rows) (h1 : ∀ r ∈ rows, ∀ u ∈ r, u.oneCell' = true)
    (h63 : n + rows.length ≤ maxLen) (hbytes : (n + rows.length) * bytes ≤ 140737488355328) (hbase : base ≤ w.heap.size)
    (h : ∀ v' w', w'.ownsRow base e sz v' (n + rows.length) (cs ++ rows.flatten) → w.grownBy w' v.ownBlock → K (a.put o.dst v') w') : o.wp P a w K Q := by
  rcases hr with ⟨ao, cap, rfl, hn, rfl⟩ | ⟨b, off, cap, rfl, h0, hc1, hc2, hc⟩
  · cases ao with
    | none =>
      obtain rfl := hn rfl
      have hrun := run_append_owned_none (P := P) (w := w) base t o.type e i sz ht hi v n cs hown
      unfold Oper.wp
      simp [execOp, ho, resolve, invoke, builtin, hs, hx, hrun, Result.andThen]
      exact h v w (by simpa using hown) ⟨rfl, rfl, rfl, Nat.le_refl _, fun _ _ _ => rfl⟩
    | some ad =>
      refine wp_append_own w s x t ho base e i z sz bytes ht hi hz hsize hby hzs hsz v n _ hs hown ad 0 cap [] hx (by simp) (by simp) (by simp) (by simpa using h63) (by simpa using hbytes) hbase ?_
      intro v' w' h2 h3 _
      exact h v' w' (by simpa using h2) h3
  · have hlen : ∀ r ∈ rows, r.length = sz := by
      intro r hr
      obtain ⟨k, hk, rfl⟩ := List.getElem_of_mem hr
      have := (hc k hk).1
      rwa [List.getD_eq_getElem?_getD, List.getElem?_eq_getElem hk] at this
    refine wp_append_own w s x t ho base e i z sz bytes ht hi hz hsize hby hzs hsz v n _ hs hown ⟨b, off, none⟩ rows.length cap rows.flatten hx (flat_len rows sz hlen) ?_ (fun u hu => ?_) h63 hbytes hbase ?_
    · intro j u hj
      have hjl : j < rows.length * sz := by
        rw [← flat_len rows sz hlen]
        rcases Nat.lt_or_ge j rows.flatten.length with g | g
        · exact g
        · rw [List.getElem?_eq_none g] at hj; cases hj
      have hdm := Nat.div_add_mod j sz
      have hq : j / sz < rows.length := (Nat.div_lt_iff_lt_mul hsz).2 hjl
      have hm := Nat.mod_lt j hsz
      have e1 := flat_get rows sz (j / sz) (j % sz) hlen hq hm
      have e2 : j / sz * sz + j % sz = j := by rw [Nat.mul_comm]; exact hdm
      rw [e2, hj] at e1
      have e3 := (hc (j / sz) hq).2 (j % sz) hm
      rw [← e1, Nat.add_assoc, e2] at e3
      by_cases hz : j = 0
      · subst hz; simpa [Addr.add] using e3
      · simpa [Addr.add, hz] using e3
    · rw [List.mem_flatten] at hu
      obtain ⟨r, hr, hu⟩ := hu
      exact h1 r hr u hu
    · intro v' w' h2 h3 _
      exact h v' w' h2 h3
theorem wpList_append_rows {P : Program} {w : World} {ops : Array Oper} {rest : List Oper} {o : Oper} {a : Act} {Q : Exit → Act → World → Prop} (hgd : o.guard = none) (s x : Operand) (t : TypeId)
    (ho : o.op = .call { callee := .builtin .append, args := #[s, x], argTypes := #[t, t] })
    (base : Nat) (e : TypeId) (i : TypeInfo) (z : Value) (sz bytes : Nat) (ht : P.underlying t = some (.slice e)) (hi : P.info? e = some i) (hz : i.zero = some z) (hsize : i.size = sz) (hby : i.bytes = bytes) (hzs : z.cells.size = sz) (hsz : 0 < sz)
    (v : Value) (n : Nat) (cs : List Value) (hs : a.eval s = v) (hown : w.ownsRow base e sz v n cs)
    (vx : Value) (rows : List (List Value)) (hx : a.eval x = vx) (hr : SlC sz w vx rows) (h1 : ∀ r ∈ rows, ∀ u ∈ r, u.oneCell' = true)
    (h63 : n + rows.length ≤ maxLen) (hbytes : (n + rows.length) * bytes ≤ 140737488355328) (hbase : base ≤ w.heap.size)
    (h : ∀ v' w', w'.ownsRow base e sz v' (n + rows.length) (cs ++ rows.flatten) → w.grownBy w' v.ownBlock → wpList P ops Q rest (a.put o.dst v') w') : wpList P ops Q (o :: rest) a w :=
  wpList_plain hgd fun _ hK => wp_append_rows s x t ho base e i z sz bytes ht hi hz hsize hby hzs hsz v n cs hs hown vx rows hx hr h1 h63 hbytes hbase fun v' w' h2 h3 => hK _ _ (h v' w' h2 h3)
/-- the same as one step of a region that draws its order -/
theorem step_append_rows {P : Program} {ops : Array Oper} {w : World} {o : Oper} {a : Act} {K : Act → World → Prop} {Q : Exit → Act → World → Prop} {E : Prop} (hgd : o.guard = none) (s x : Operand) (t : TypeId)
    (ho : o.op = .call { callee := .builtin .append, args := #[s, x], argTypes := #[t, t] })
    (base : Nat) (e : TypeId) (i : TypeInfo) (z : Value) (sz bytes : Nat) (ht : P.underlying t = some (.slice e)) (hi : P.info? e = some i) (hz : i.zero = some z) (hsize : i.size = sz) (hby : i.bytes = bytes) (hzs : z.cells.size = sz) (hsz : 0 < sz)
    (v : Value) (n : Nat) (cs : List Value) (hs : a.eval s = v) (hown : w.ownsRow base e sz v n cs)
    (vx : Value) (rows : List (List Value)) (hx : a.eval x = vx) (hr : SlC sz w vx rows) (h1 : ∀ r ∈ rows, ∀ u ∈ r, u.oneCell' = true)
    (h63 : n + rows.length ≤ maxLen) (hbytes : (n + rows.length) * bytes ≤ 140737488355328) (hbase : base ≤ w.heap.size)
    (h : ∀ v' w', w'.ownsRow base e sz v' (n + rows.length) (cs ++ rows.flatten) → w.grownBy w' v.ownBlock → K (a.put o.dst v') w') :
    if Region.wanted o (yielded ops a.tmps) = true then Oper.wp P o a w K Q else E := by
  rw [if_pos (by simp [Region.wanted, hgd])]
  exact wp_append_rows s x t ho base e i z sz bytes ht hi hz hsize hby hzs hsz v n cs hs hown vx rows hx hr h1 h63 hbytes hbase h
/-- one row that was laid, as a slice of rows -/
theorem slc_one (w : World) (row : List Value) (T : TypeId) (sz : Nat) (h : row.length = sz) : SlC sz (w.alloc (.cells row.toArray T)) (.slice (some ⟨w.heap.size, 0, none⟩) 1 1) [row] := by
  refine Or.inr ⟨w.heap.size, 0, 1, rfl, by simp, by simp, by decide, fun i hi => ?_⟩
  have : i = 0 := by simp at hi; omega
  subst this
  refine ⟨by simpa using h, fun j hj => ?_⟩
  rw [World.cell?_alloc_new]
  simp

/-
  A long row of operations that have values, run by the kernel at one stroke.
-/
def runL (P : Program) : List Oper → Act → World → Option (Act × World)
  | [], a, w => some (a, w)
  | o :: r, a, w => match o.guard with
    | some _ => none
    | none => match (execOp a.eval o).run P w with
      | .ok (.value v) w' => runL P r (a.put o.dst v) w'
      | _ => none
theorem wpList_runL {P : Program} {ops : Array Oper} {Q : Exit → Act → World → Prop} : ∀ (l : List Oper) (a a' : Act) (w w' : World), runL P l a w = some (a', w') → Q .normal a' w' → wpList P ops Q l a w
  | [], a, a', w, w', h, hk => by
    simp only [runL, Option.some.injEq, Prod.mk.injEq] at h
    obtain ⟨rfl, rfl⟩ := h
    exact hk
  | o :: r, a, a', w, w', h, hk => by
    cases hg : o.guard with
    | some x => simp [runL, hg] at h
    | none =>
      refine wpList_plain hg fun K hK => ?_
      simp only [runL, hg] at h
      unfold Oper.wp
      split at h
      · rename_i v w1 hr
        rw [hr, Oper.upon_value]
        exact hK _ _ (wpList_runL r _ a' w1 w' h hk)
      · simp at h
theorem wp_region_runL {P : Program} {id : Nat} {ops : Array Oper} {Q : Exit → Act → World → Prop} {a : Act} {w w' : World} {t : Nat} {v : Value}
    (h : (runL P ops.toList a w).map (fun r => (r.1.tmps.getD t undef, r.1.defers.isEmpty, r.2)) = some (v, true, w')) (hk : ∀ a' : Act, a'.tmps.getD t undef = v → a'.defers = [] → Q .normal a' w') : (Code.region id ops false).wp P Q a w := by
  obtain ⟨r, h1, h2⟩ := Option.map_eq_some_iff.1 h
  obtain ⟨a', w1⟩ := r
  simp only [Prod.mk.injEq] at h2
  obtain ⟨e1, e2, rfl⟩ := h2
  exact wp_region_list (wpList_runL _ _ _ _ _ h1 (hk a' e1 (List.isEmpty_iff.1 e2)))

/-
  Prims of the document's answer.
-/
def prmV (p : List Int × Int) : List Value := [.string (strOfNums p.1), .int .i64 p.2]
/-- a row of the list of words, as it is laid -/
theorem prm_laid (w : World) (T : TypeId) : SlR 2 prmR (w.alloc (.cells (prmL.map prmV).flatten.toArray T)) (.slice (some ⟨w.heap.size, 0, none⟩) 111 111) prmL := by
  have hr := alloc_row w (prmL.map prmV).flatten T
  have hs : ∀ r ∈ prmL.map prmV, r.length = 2 := by
    intro r hr
    obtain ⟨p, _, rfl⟩ := List.mem_map.1 hr
    rfl
  have hl : (prmL.map prmV).length = 111 := by rw [List.length_map]; exact prm_len
  refine ⟨prmL.map prmV, Or.inr ⟨w.heap.size, 0, 111, by rw [hl], by omega, by omega, by unfold maxLen; omega, fun i hi => ?_⟩, by simp, fun i hi => ?_⟩
  · have h1 : ((prmL.map prmV).getD i []).length = 2 := by
      rw [List.getD_eq_getElem?_getD, List.getElem?_eq_getElem hi]
      exact hs _ (List.getElem_mem hi)
    refine ⟨h1, fun j hj => ?_⟩
    have h2 := flat_get (prmL.map prmV) 2 i j hs hi hj
    obtain ⟨u, hu⟩ : ∃ u, ((prmL.map prmV).getD i [])[j]? = some u := ⟨_, List.getElem?_eq_getElem (by omega)⟩
    rw [hu] at h2 ⊢
    have h3 := hr _ _ h2
    simpa using h3
  · rw [List.getD_eq_getElem?_getD, List.getElem?_map, List.getElem?_eq_getElem hi]
    rfl

set_option maxHeartbeats 20000000 in
set_option maxRecDepth 1000000 in
theorem w_r9prims (w : World) :
    Calls Try.prog 14 #[] w fun e w' => ∃ v, e = .returned v ∧ SlR 2 prmR w' v prmL ∧ Below w.heap.size w w' := by
  go_enter Try.func14, Try.ntmps14
  refine wp_seq (wp_region_list (wpList_runL _ _ _ _ _ rfl ?_))
  simp only [Exit.then]
  refine wp_seq (wp_region_runL (t := 0) (v := .slice (some ⟨w.heap.size, 0, none⟩) 111 111) (w' := w.alloc (.cells (prmL.map prmV).flatten.toArray 37)) (by kernel_rfl) ?_)
  intro a' h1 h2
  simp only [Exit.then]
  refine wp_ret ?_
  refine bodyPost_ret (results_tmp rfl _ _ _) h2 ?_
  rw [h1]
  exact ⟨_, rfl, prm_laid w _, box_below w _⟩

/-
  The list of words that every dictionary begins with, as a row of the call's own.
-/
theorem prmV_len : ∀ r ∈ prmL.map prmV, r.length = 2 := by
  intro r hr
  obtain ⟨p, _, rfl⟩ := List.mem_map.1 hr
  rfl
theorem prm_own (w : World) : OwnR 37 2 prmR w.heap.size (w.alloc (.cells (prmL.map prmV).flatten.toArray 37)) (.slice (some ⟨w.heap.size, 0, none⟩) 111 111) prmL := by
  have hl : (prmL.map prmV).flatten.length = 111 * 2 := by rw [flat_len _ 2 prmV_len, List.length_map, prm_len]
  refine ⟨prmL.map prmV, by simp, prmV_len, ⟨by rw [hl, prm_len], Or.inr ⟨w.heap.size, 111, (prmL.map prmV).flatten.toArray, by rw [prm_len], Nat.le_refl _, heap_alloc_new w _, by rw [prm_len]; exact Nat.le_refl _, by unfold maxLen; omega, by simpa using hl, ?_⟩⟩, fun i hi => ?_⟩
  · rw [prm_len]
    exact List.take_of_length_le (by simpa using Nat.le_of_eq hl)
  · rw [List.getD_eq_getElem?_getD, List.getElem?_map, List.getElem?_eq_getElem hi]
    rfl
theorem prm_codes : prmL.all (fun p => decide (0 ≤ p.2 ∧ p.2 < 65536)) = true := by decide +kernel
theorem wrap_u32 (c : Int) (h0 : 0 ≤ c) (h1 : c < 65536) : IntKind.u32.wrap c = c := by
  simp [IntKind.wrap, IntKind.bits, IntKind.signed]
  omega

end Go.Proofs.Ytfljcfpcokimcaa
