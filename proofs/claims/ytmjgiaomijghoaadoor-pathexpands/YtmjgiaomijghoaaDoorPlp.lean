/-
  The library's ParseUint at base 16 and 32 bits, of texts of up to 8 bytes: the number of its digits, or an error that is not nil.
-/
import Derived.Test.YtmjgiaomijghoaaDoorPlb
import Derived.Lib.Strings
import Derived.Lib.Walk
import Derived.Lib.BufferWrite
import Derived.Lib.UnsafeStr
import Derived.Lib.Hide
import Derived.Lib.IfaceEq
import Derived.Laws.MakeOwn
import Derived.Laws.Strings3
import Derived.Laws.Closers25
import Derived.Laws.Closers25b
import Derived.BigCall
import Derived.BigGuard
namespace Go.Proofs.YtmjgiaomijghoaaDoor
open Go.ChangeShapes Go.WideShapes Go.ChangeAt Go.RowKit
set_option linter.unusedVariables false
set_option linter.unusedSimpArgs false

/-- what the walks lean on of the listed variables: what strconv.ErrSyntax holds, and one cell of a table of math/bits -/
def Tab (w : World) : Prop := (∃ tp p, w.cell? ⟨4, 0, none⟩ = some (.iface tp p)) ∧ w.cell? ⟨7, 15, none⟩ = some (.int .u8 4)
theorem Tab.below {w w' : World} (h : Tab w) (g : Below w.heap.size w w') : Tab w' := by
  obtain ⟨⟨tp, p, h1⟩, h2⟩ := h
  exact ⟨⟨tp, p, below_cell g h1⟩, below_cell g h2⟩
theorem Tab.on {w w' : World} {B : Nat} (h : Tab w) (g : Below B w w') (hB : 100 ≤ B ∨ (4 < B ∧ 7 < B)) : Tab w' := by
  obtain ⟨⟨tp, p, h1⟩, h2⟩ := h
  refine ⟨⟨tp, p, (g.cell (p := ⟨4, 0, none⟩) ?_).trans h1⟩, (g.cell (p := ⟨7, 15, none⟩) ?_).trans h2⟩
  · show 4 < B
    omega
  · show 7 < B
    omega
theorem Tab.lt {w : World} (h : Tab w) : 4 < w.heap.size ∧ 7 < w.heap.size := by
  obtain ⟨⟨tp, p, h1⟩, h2⟩ := h
  exact ⟨World.block_lt_of_cell? w _ h1, World.block_lt_of_cell? w _ h2⟩

/-- the bit 32 set -/
def lw (c : Int) : Int := bits .or .u8 c 32
theorem lw_all : ∀ n : Fin 256, (if 65 ≤ n.val ∧ n.val ≤ 90 then lw n.val = n.val + 32 else if 97 ≤ n.val ∧ n.val ≤ 122 then lw n.val = n.val else ¬ (97 ≤ lw n.val ∧ lw n.val ≤ 122)) ∧ 0 ≤ lw n.val ∧ lw n.val < 256 := by
  decide +kernel
theorem lw_of (c : Int) (h0 : 0 ≤ c) (h1 : c < 256) : (65 ≤ c → c ≤ 90 → lw c = c + 32) ∧ (97 ≤ c → c ≤ 122 → lw c = c) ∧ (¬ (65 ≤ c ∧ c ≤ 90) → ¬ (97 ≤ c ∧ c ≤ 122) → ¬ (97 ≤ lw c ∧ lw c ≤ 122)) ∧ 0 ≤ lw c ∧ lw c < 256 := by
  have h := lw_all ⟨c.toNat, by omega⟩
  have e : ((c.toNat : Nat) : Int) = c := by omega
  simp only [e] at h
  obtain ⟨h, hb⟩ := h
  refine ⟨fun a b => ?_, fun a b => ?_, fun a b => ?_, hb⟩
  · rw [if_pos (by omega)] at h; exact h
  · rw [if_neg (by omega), if_pos (by omega)] at h; exact h
  · rw [if_neg (by omega), if_neg (by omega)] at h; exact h

theorem w_low (c : Int) (w : World) : Calls Tryd.prog 85 #[.int .u8 c] w fun e w' => e = .returned (.int .u8 (lw c)) ∧ w' = w := by
  go_enter Tryd.func85, Tryd.ntmps85
  go_wp2
  go_ret
  exact ⟨rfl, rfl⟩

theorem L_getD (s : ByteArray) (k : Nat) (h : k < s.size) : ((s.data.toList.getD k 0).toNat : Int) = (s[k].toNat : Int) := by
  rw [List.getD_eq_getElem?_getD, List.getElem?_eq_getElem (by simpa using h)]
  rfl
theorem pc_bad (l : List Int) (h : allD 16 l = false) : pcOk l = false := by simp [pcOk, h]
theorem pc_mid (l m : List Int) (c : Int) (h : isD c 16 = false) : pcOk (l ++ c :: m) = false := pc_bad _ (allD_mid 16 l m c h)

set_option maxHeartbeats 4000000 in
set_option maxRecDepth 100000 in
theorem w_ipu (t : ByteArray) (w : World) (h8 : t.size ≤ 8) :
    Calls Tryd.prog 78 #[.string t, .int .i64 16, .int .i64 32] w fun e w' =>
      ((pcOk (L t) = true ∧ e = .returned (.tuple #[.int .u64 (num 16 (L t)), .nilIface])) ∨ (pcOk (L t) = false ∧ e = .returned (.tuple #[.int .u64 0, .iface 115 (.int .i64 2)]))) ∧ Below w.heap.size w w' := by
  by_cases h0 : t.size = 0
  · have hs : t = ⟨#[]⟩ := by
      apply ByteArray.ext
      exact Array.eq_empty_of_size_eq_zero h0
    subst hs
    go_enter Tryd.func78, Tryd.ntmps78
    go_wp2_with fail
    go_ret2
    exact ⟨Or.inr ⟨rfl, rfl⟩, Below.refl _ _⟩
  · have hemp : t.toList.isEmpty = false := by
      rw [← decide_eq_emptyBytes]
      exact decide_eq_false (fun h => h0 (by rw [h]; rfl))
    have hcv := Lib.run_convert_string_bytes (P := Tryd.prog) w 9 51 5 t (u := .string) Tryd.underlying9 Tryd.underlying51 Tryd.underlying5
    have hB : ∀ j, j < t.size → (Lib.bytesWorld w 5 t).cell? ⟨w.heap.size, j, none⟩ = some (.int .u8 (t.data.toList.getD j 0).toNat) := fun j hj => Lib.bytesWorld_cell w 5 t j hj
    have hbel := Lib.bytesWorld_below w 5 t
    obtain ⟨W1, hW1⟩ : ∃ W1, W1 = Lib.bytesWorld w 5 t := ⟨_, rfl⟩
    rw [← hW1] at hcv hB hbel
    clear hW1
    have hmv : IntKind.u64.wrap (IntKind.u64.wrap 4294967296 - 1) = 4294967295 := by
      rw [IntKind.wrap_u64, IntKind.wrap_u64]
      decide
    go_enter Tryd.func78, Tryd.ntmps78
    go_wp2_with fail
    go_loop [12, 13, 101] (fun vu vn vi => ∃ (k : Nat) (a : Int), vu = .bool false ∧ vn = .int .u64 a ∧ vi = .int .i64 k ∧ (k : Int) ≤ t.size ∧ 0 ≤ a ∧ a < 4294967296 ∧ Hid (allD 16 ((L t).take k) = true) ∧ Hid (num 16 ((L t).take k) = a))
      (fun _ _ vi => t.size - (intOf vi).toNat)
    case atStart => exact ⟨0, 0, rfl, rfl, rfl, by omega, by omega, by omega, hid rfl, hid rfl⟩
    case round =>
      obtain ⟨k, a, rfl, rfl, rfl, hk, a0, a1, hA, hN⟩ := hrel
      by_cases hlt : (k : Int) < t.size
      · have hkk : k < t.size := by omega
        have hc := hB k hkk
        obtain ⟨c, hcc⟩ : ∃ c, (t[k].toNat : Int) = c := ⟨_, rfl⟩
        have hcb := L_bd t k hkk
        rw [hcc] at hcb
        obtain ⟨c0, c1⟩ := hcb
        rw [L_getD t k hkk, hcc] at hc
        have hT : Hid ((L t).take (k + 1) = (L t).take k ++ [c]) := by show _ = _; rw [← hcc]; exact L_take t k hkk
        have hLd : Hid (L t = (L t).take k ++ c :: (L t).drop (k + 1)) := by
          show _ = _
          rw [← hcc, ← L_drop t k hkk, List.take_append_drop]
        have hlk : Hid (((L t).take k).length = k) := by show _ = _; rw [List.length_take, L_len]; omega
        clear hB hcc
        obtain ⟨l1, l2, l3, l4, l5⟩ := lw_of c c0 c1
        have hNb : isD c 16 = true → 0 ≤ a * 16 + vl c 16 ∧ a * 16 + vl c 16 < 4294967296 := by
          intro hd
          have := pc_num ((L t).take (k + 1)) (fun x hx => LB_bytes t x (List.mem_of_mem_take hx)) (by
            unfold pcOk
            rw [hT.out, allD_snoc, hA.out, hd, List.length_append, hlk.out]
            simp
            omega)
          rw [hT.out, num_snoc, hN.out] at this
          exact this
        have hcs : (48 ≤ c ∧ c ≤ 57) ∨ (65 ≤ c ∧ c ≤ 70) ∨ (97 ≤ c ∧ c ≤ 102) ∨ (71 ≤ c ∧ c ≤ 90) ∨ (103 ≤ c ∧ c ≤ 122) ∨ (¬ (48 ≤ c ∧ c ≤ 57) ∧ ¬ (65 ≤ c ∧ c ≤ 90) ∧ ¬ (97 ≤ c ∧ c ≤ 122)) := by omega
        have hdd : isD c 16 = true ↔ (48 ≤ c ∧ c ≤ 57) ∨ (65 ≤ c ∧ c ≤ 70) ∨ (97 ≤ c ∧ c ≤ 102) := by unfold isD dv; simp; omega
        have good : isD c 16 = true → Hid (allD 16 ((L t).take (k + 1)) = true) ∧ Hid (num 16 ((L t).take (k + 1)) = a * 16 + vl c 16) := by
          intro hd
          refine ⟨?_, ?_⟩
          · show _ = _; rw [hT.out, allD_snoc, hA.out, hd]; rfl
          · show _ = _; rw [hT.out, num_snoc, hN.out]
        have bad : isD c 16 = false → Hid (pcOk (L t) = false) := by
          intro hd
          show _ = _
          rw [hLd.out]
          exact pc_mid _ _ _ hd
        rcases hcs with ⟨d0, d1⟩ | ⟨d0, d1⟩ | ⟨d0, d1⟩ | ⟨d0, d1⟩ | ⟨d0, d1⟩ | ⟨d0, d1, d2⟩
        · have hd : isD c 16 = true := hdd.2 (by omega)
          have hv : vl c 16 = c - 48 := by unfold vl; rw [if_pos hd]; unfold dv; omega
          obtain ⟨g1, g2⟩ := good hd
          have hbd := hNb hd
          rw [hv] at g2 hbd
          obtain ⟨b0, b1⟩ := hbd
          clear l1 l2 l3 l4 l5 hdd hd hv hNb good bad hT hLd hlk hA hN
          go_wp2_with fail
          refine ⟨⟨k + 1, a * 16 + (c - 48), rfl, (by first | rfl | (congr 1; omega)), (by first | rfl | (congr 1; omega)), by omega, b0, b1, g1, g2⟩, by simp [intOf]; omega⟩
        · have hd : isD c 16 = true := hdd.2 (by omega)
          have hv : vl c 16 = c - 55 := by unfold vl; rw [if_pos hd]; unfold dv; omega
          have hl := l1 (by omega) (by omega)
          obtain ⟨g1, g2⟩ := good hd
          have hbd := hNb hd
          rw [hv] at g2 hbd
          obtain ⟨b0, b1⟩ := hbd
          clear l1 l2 l3 l4 l5 hdd hd hv hNb good bad hT hLd hlk hA hN
          go_wp2_with (go_at_call 85; refine (w_low c _).mono ?_; rintro e w1 ⟨rfl, rfl⟩; rw [hl])
          refine ⟨⟨k + 1, a * 16 + (c - 55), rfl, (by first | rfl | (congr 1; omega)), (by first | rfl | (congr 1; omega)), by omega, b0, b1, g1, g2⟩, by simp [intOf]; omega⟩
        · have hd : isD c 16 = true := hdd.2 (by omega)
          have hv : vl c 16 = c - 87 := by unfold vl; rw [if_pos hd]; unfold dv; omega
          have hl := l2 (by omega) (by omega)
          obtain ⟨g1, g2⟩ := good hd
          have hbd := hNb hd
          rw [hv] at g2 hbd
          obtain ⟨b0, b1⟩ := hbd
          clear l1 l2 l3 l4 l5 hdd hd hv hNb good bad hT hLd hlk hA hN
          go_wp2_with (go_at_call 85; refine (w_low c _).mono ?_; rintro e w1 ⟨rfl, rfl⟩; rw [hl])
          refine ⟨⟨k + 1, a * 16 + (c - 87), rfl, (by first | rfl | (congr 1; omega)), (by first | rfl | (congr 1; omega)), by omega, b0, b1, g1, g2⟩, by simp [intOf]; omega⟩
        · have hf := bad (by rw [Bool.eq_false_iff, Ne, hdd]; omega)
          have hl := l1 (by omega) (by omega)
          clear l1 l2 l3 l4 l5 hdd hNb good bad hT hLd hlk hA hN
          go_wp2_with (go_at_call 85; refine (w_low c _).mono ?_; rintro e w1 ⟨rfl, rfl⟩; rw [hl])
          all_goals go_ret2
          all_goals exact ⟨Or.inr ⟨hf.out, rfl⟩, hbel⟩
        · have hf := bad (by rw [Bool.eq_false_iff, Ne, hdd]; omega)
          have hl := l2 (by omega) (by omega)
          clear l1 l2 l3 l4 l5 hdd hNb good bad hT hLd hlk hA hN
          go_wp2_with (go_at_call 85; refine (w_low c _).mono ?_; rintro e w1 ⟨rfl, rfl⟩; rw [hl])
          all_goals go_ret2
          all_goals exact ⟨Or.inr ⟨hf.out, rfl⟩, hbel⟩
        · have hf := bad (by rw [Bool.eq_false_iff, Ne, hdd]; omega)
          have hl := l3 d1 d2
          by_cases h95 : c = 95
          · subst h95
            have hM : lw 95 = 127 := by decide +kernel
            clear l1 l2 l3 l4 l5 hl hdd hNb good bad hT hLd hlk hA hN d1 d2
            go_wp2_with (go_at_call 85; refine (w_low 95 _).mono ?_; rintro e w1 ⟨rfl, rfl⟩; rw [hM])
            all_goals go_ret2
            all_goals exact ⟨Or.inr ⟨hf.out, rfl⟩, hbel⟩
          have h95b : (c == 95) = false := by simpa using h95
          clear h95
          obtain ⟨M, hM⟩ : ∃ M, lw c = M := ⟨_, rfl⟩
          rw [hM] at hl l4 l5
          clear l1 l2 l3 hdd hNb good bad hT hLd hlk hA hN d1 d2
          go_wp2_with (go_at_call 85; refine (w_low c _).mono ?_; rintro e w1 ⟨rfl, rfl⟩; rw [hM])
          all_goals go_ret2
          all_goals exact ⟨Or.inr ⟨hf.out, rfl⟩, hbel⟩
      · obtain rfl : k = t.size := by omega
        have hall := hA.out
        have hnn := hN.out
        rw [List.take_of_length_le (by rw [L_len]; omega)] at hall hnn
        have hok : Hid (pcOk (L t) = true) := by show _ = _; unfold pcOk; rw [hall, L_len]; simp; omega
        have HN := hid hnn
        clear hall hnn
        go_wp2_with fail
        go_ret2
        exact ⟨Or.inl ⟨hok.out, by rw [HN.out]; rfl⟩, hbel⟩

set_option maxHeartbeats 4000000 in
set_option maxRecDepth 100000 in
theorem w_slcl (s : ByteArray) (w : World) (hlim : s.size ≤ 281474976710656) :
    Calls Tryd.prog 96 #[.string s] w fun e w' => e = .returned (.string s) ∧ Below w.heap.size w w' := by
  by_cases h0 : s.size = 0
  · have hs : s = ⟨#[]⟩ := by
      apply ByteArray.ext
      exact Array.eq_empty_of_size_eq_zero h0
    subst hs
    go_enter Tryd.func96, Tryd.ntmps96
    go_wp2
    go_ret
    exact ⟨rfl, Below.refl _ _⟩
  · obtain ⟨i0, hi, hz0, hz1, hz2⟩ := info_parts infoU8
    have hinfo : (Tryd.prog.info? 5).map (·.size) = some 1 := by rw [hi]; simp [hz1]
    have hco : Tryd.prog.cellsOf 5 = 1 := by simp [Program.cellsOf, hi, hz1]
    obtain ⟨M, hM⟩ : ∃ M, M = madeCells (Value.int .u8 0).cells (((s.size : Nat) : Int).toNat * i0.size) := ⟨_, rfl⟩
    have hMs : M.size = s.size := by rw [hM, size_madeCells, hz1]; simp
    have hmk : ∀ W : World, (Instr.makeSlice 51 (.int .i64 (s.size : Int)) (.int .i64 (s.size : Int))).run Tryd.prog W = .ok (.slice (some ⟨W.heap.size, 0, none⟩) s.size s.size) (W.alloc (.cells M 5)) := fun W => by
      have h := run_make (P := Tryd.prog) W 51 5 i0 (.int .u8 0) Tryd.underlying51 hi hz0 .i64 .i64 (s.size : Int) (s.size : Int) (by omega) (by omega) (by rw [hz2]; omega) (by omega)
      rw [← hM] at h
      simpa using h
    clear hM
    have hcp := Lib.run_copy_row_string (P := Tryd.prog) (w.alloc (.cells M 5)) 51 9 3 5 w.heap.size 0 s.size s.size s M 5 Tryd.underlying51 hinfo (heap_alloc_new w _) (Nat.le_refl _) (by omega)
    obtain ⟨Y, hY⟩ : ∃ Y, Y = (M.toList.take 0 ++ Lib.byteCells s.data.toList ++ M.toList.drop (0 + s.size)).toArray := ⟨_, rfl⟩
    rw [← hY] at hcp
    have hYl : Y.toList = Lib.byteCells s.data.toList := by
      rw [hY, List.toList_toArray, List.take_zero, List.nil_append, List.drop_of_length_le (by rw [Array.length_toList]; omega), List.append_nil]
    have hYs : Y.size = s.size := by rw [← Array.length_toList, hYl, Lib.byteCells_length, ← Lib.size_eq]
    have hgY : ((w.alloc (.cells M 5)).setRow w.heap.size Y).heap[w.heap.size]? = some (.cells Y 5 (0, 0)) := setRow_heap _ _ M _ 5 (0, 0) (heap_alloc_new w _)
    have hne : s.data.toList ≠ [] := fun e => h0 (by rw [Lib.size_eq, e]; rfl)
    have hUS := Lib.run_unsafeString_row (P := Tryd.prog) ((w.alloc (.cells M 5)).setRow w.heap.size Y) 72 3 9 5 Tryd.underlying72 hco w.heap.size Y.size (by unfold World.shape?; rw [hgY]) s.data.toList hne (by rw [← Lib.size_eq]; omega) (by rw [← Lib.size_eq]; omega)
      (fun j x hx => Lib.cells_of_row hgY Y.size j _ (by rw [List.take_of_length_le (by rw [Array.length_toList]; exact Nat.le_refl _), hYl]; simp [Lib.byteCells, hx]))
    rw [← Lib.size_eq] at hUS
    clear hY
    go_enter Tryd.func96, Tryd.ntmps96
    go_wp2
    go_ret
    have hb1 : Below w.heap.size w (w.alloc (.cells M 5)) := (Below.refl _ w).alloc (Nat.le_refl _) _
    have hb2 : Below w.heap.size (w.alloc (.cells M 5)) ((w.alloc (.cells M 5)).setRow w.heap.size Y) := ⟨rfl, rfl, rfl, by simp, fun k hk => setRow_other _ _ _ _ (by omega)⟩
    exact ⟨rfl, Lib.below_freeze (hb1.trans hb2) (p := ⟨w.heap.size, 0, none⟩) (Nat.le_refl _) _⟩

set_option maxHeartbeats 4000000 in
set_option maxRecDepth 100000 in
theorem w_synerr (fn s : ByteArray) (w : World) (hlim : s.size ≤ 281474976710656) (hT : Tab w) :
    Calls Tryd.prog 87 #[.string fn, .string s] w fun e w' => ∃ N, e = .returned (.pointer (some ⟨N, 0, none⟩)) ∧ Below w.heap.size w w' := by
  obtain ⟨⟨te, pe, hv⟩, -⟩ := hT
  have hG : 4 < w.heap.size := World.block_lt_of_cell? w _ hv
  have hvd : w.drew.cell? ⟨4, 0, none⟩ = some _ := hv
  go_enter Tryd.func87, Tryd.ntmps87
  go_wp2
  go_region_with (
      go_at_call 96
      refine (w_slcl s _ hlim).mono ?_
      rintro e w2 ⟨rfl, hbel⟩
      have hv2 : w2.cell? ⟨4, 0, none⟩ = some _ := (hbel.cell (show (⟨4, 0, none⟩ : Addr).block < w.drew.heap.size from hG)).trans hvd)
  all_goals (
    go_wp2
    go_ret
    have hs2 : w.heap.size ≤ w2.heap.size := hbel.size
    exact ⟨_, rfl, ((Below.drew (Below.refl _ w)).trans hbel).alloc hs2 _⟩)

set_option maxHeartbeats 4000000 in
set_option maxRecDepth 100000 in
theorem w_toerr (fn s : ByteArray) (base bits : Int) (w : World) (hlim : s.size ≤ 281474976710656) (hT : Tab w) :
    Calls Tryd.prog 79 #[.string fn, .string s, .int .i64 base, .int .i64 bits, .iface 115 (.int .i64 2)] w fun e w' => ∃ T p, e = .returned (.iface T p) ∧ Below w.heap.size w w' := by
  have heq : ∀ W, (binOp .eql 55 (.iface 115 (.int .i64 2)) (.iface 115 (.int .i64 2))).run Tryd.prog W = .ok (.bool true) W := fun W => Lib.run_eql_iface_int W 2 2 Tryd.underlying55 (by kernel_rfl) Tryd.underlying115
  go_enter Tryd.func79, Tryd.ntmps79
  go_wp2_with (go_at_call 87; refine (w_synerr fn s _ hlim hT).mono ?_; rintro e w2 ⟨N, rfl, h3⟩)
  go_ret
  exact ⟨_, _, rfl, h3⟩

theorem w_ipu_ok (t : ByteArray) (w : World) (h8 : t.size ≤ 8) (hok : pcOk (L t) = true) :
    Calls Tryd.prog 78 #[.string t, .int .i64 16, .int .i64 32] w fun e w' => e = .returned (.tuple #[.int .u64 (num 16 (L t)), .nilIface]) ∧ Below w.heap.size w w' :=
  (w_ipu t w h8).mono (by
    rintro e w' ⟨h | h, b⟩
    · exact ⟨h.2, b⟩
    · rw [hok] at h; cases h.1)

theorem w_ipu_no (t : ByteArray) (w : World) (h8 : t.size ≤ 8) (hok : pcOk (L t) = false) :
    Calls Tryd.prog 78 #[.string t, .int .i64 16, .int .i64 32] w fun e w' => e = .returned (.tuple #[.int .u64 0, .iface 115 (.int .i64 2)]) ∧ Below w.heap.size w w' :=
  (w_ipu t w h8).mono (by
    rintro e w' ⟨h | h, b⟩
    · rw [hok] at h; cases h.1
    · exact ⟨h.2, b⟩)

set_option maxHeartbeats 4000000 in
set_option maxRecDepth 100000 in
theorem w_spu_ok (t : ByteArray) (w : World) (h8 : t.size ≤ 8) (hok : pcOk (L t) = true) :
    Calls Tryd.prog 72 #[.string t, .int .i64 16, .int .i64 32] w fun e w' => e = .returned (.tuple #[.int .u64 (num 16 (L t)), .nilIface]) ∧ Below w.heap.size w w' := by
  have c := fun w => w_ipu_ok t w h8 hok
  obtain ⟨n, hn⟩ : ∃ n, num 16 (L t) = n := ⟨_, rfl⟩
  simp only [hn] at c ⊢
  clear hn hok
  go_enter Tryd.func72, Tryd.ntmps72
  go_wp2_with (go_at_call 78; refine (c _).mono ?_; rintro e w1 ⟨rfl, hb⟩)
  go_ret2
  exact ⟨rfl, hb⟩

set_option maxHeartbeats 4000000 in
set_option maxRecDepth 100000 in
theorem w_spu_no (t : ByteArray) (w : World) (h8 : t.size ≤ 8) (hok : pcOk (L t) = false) (hT : Tab w) :
    Calls Tryd.prog 72 #[.string t, .int .i64 16, .int .i64 32] w fun e w' => ∃ T p, e = .returned (.tuple #[.int .u64 0, .iface T p]) ∧ Below w.heap.size w w' := by
  have c := fun w => w_ipu_no t w h8 hok
  clear hok
  go_enter Tryd.func72, Tryd.ntmps72
  go_wp2_with (first
    | (go_at_call 78; refine (c _).mono ?_; rintro e w1 ⟨rfl, hb⟩; have hT1 := hT.below hb)
    | (go_at_call 79; refine (w_toerr _ t 16 32 _ (by omega) hT1).mono ?_; rintro e w2 ⟨T, p, rfl, h3⟩))
  go_ret2
  exact ⟨T, p, rfl, below_trans hb h3⟩

end Go.Proofs.YtmjgiaomijghoaaDoor
