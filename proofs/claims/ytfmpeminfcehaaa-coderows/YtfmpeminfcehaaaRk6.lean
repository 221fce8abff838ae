/-
  aim of the document's answer for code.
-/
import Derived.Test.YtfmpeminfcehaaaRk4
import Derived.Test.YtfmpeminfcehaaaPk2
namespace Go.Proofs.Ytfmpeminfcehaaa
open Go.ChangeShapes Go.WideShapes Go.ChangeAt Go.RowKit
set_option linter.unusedVariables false
set_option linter.unusedSimpArgs false

theorem idx_op (g n cap i : Nat) (hi : i < n) : ∀ w', (Instr.indexAt 22 (.slice (some ⟨g, 0, none⟩) n cap) (.int .i64 (i : Int))).run Try.prog w' = .ok (.pointer (some ⟨g, i * 2, none⟩)) w' := by
  intro w'
  rw [run_indexAt_slice (h := uO), if_pos ⟨by omega, by omega⟩, zO]
  simp only [Result.andThen, Int.toNat_natCast]
  congr 3
  unfold Addr.add
  split
  · rename_i hz; rw [hz]
  · simp
theorem wrap32 (n : Int) (h0 : 0 ≤ n) (h1 : n < 4294967296) : IntKind.u32.wrap n = n := by
  simp [IntKind.wrap, IntKind.bits, IntKind.signed]
  omega
/-- an instruction of an own row of code given its number -/
theorem OwC.put {base g cap : Nat} {w : World} {c : List Opd} (h : OwC base w (.slice (some ⟨g, 0, none⟩) c.length cap) c) (i : Nat) (hi : i < c.length) (to : Int) :
    OwC base (w.setCell ⟨g, i * 2 + 1, none⟩ (.int .u32 to)) (.slice (some ⟨g, 0, none⟩) c.length cap) (setN c i to) ∧ (∃ u, w.cell? ⟨g, i * 2 + 1, none⟩ = some u) ∧ w.frozen? ⟨g, i * 2 + 1, none⟩ = false := by
  obtain ⟨rows, p1, p2, p3, p4⟩ := h
  have hr : rows.getD i [] = [.int .i64 c[i].1, .int .u32 c[i].2] := p4 i hi
  have e1 : setN c i to = c.set i (c[i].1, to) := by
    unfold setN
    rw [Int.toNat_natCast, List.getD_eq_getElem?_getD, List.getElem?_eq_getElem hi]
    rfl
  rw [e1]
  have h2 := OwnR.set (O := opR) (e := 37) opR_apt10 p1 p2 p3 p4 i 1 hi (by decide) (.int .u32 to) (c[i].1, to) (by rw [hr]; rfl)
  refine ⟨?_, ⟨_, own_cell p3 (i * 2 + 1) (.int .u32 c[i].2) (by rw [flat_get rows 2 i 1 p2 (by omega) (by decide), hr]; rfl)⟩, p3.frozenAt _⟩
  exact h2.1

set_option maxHeartbeats 4000000 in
set_option maxRecDepth 100000 in
theorem w_r10aim (base B g cap : Nat) (x1 x2 x3 x4 vl : Value) (c : List Opd) (l : List Int) (to : Int) (w : World) (st : Stands w B #[.slice (some ⟨g, 0, none⟩) c.length cap, x1, x2, x3, x4] 26) (oc : OwC base w (.slice (some ⟨g, 0, none⟩) c.length cap) c) (hl : ∀ W, w.grownBy W (some g) → Rd .i64 W vl l) (hr : ∀ n ∈ l, 0 ≤ n ∧ n < c.length) (t0 : 0 ≤ to) (t1 : to < 4294967296) (hB : B ≠ g) :
    Calls Try.prog 26 #[.pointer (some ⟨B, 0, none⟩), vl, .int .i64 to] w fun e w' => e = .returned (.tuple #[]) ∧ OwC base w' (.slice (some ⟨g, 0, none⟩) c.length cap) (aimF c l to) ∧ w.grownBy w' (some g) := by
  have hla := rd_len (hl w (gb_refl w _)) uJ (P := Try.prog)
  have hm : l.length ≤ maxLen := by
    rcases hl w (gb_refl w _) with ⟨_, _, _, _, e⟩ | ⟨_, _, _, _, _, g1, g2, _⟩
    · rw [e]; simp
    · omega
  unfold maxLen at hm
  have hwr := wrap32 to t0 t1
  have HL := hid hl
  have HR := hid hr
  have ST := hid st
  clear hl hr st
  go_enter Try.func26, Try.ntmps26
  go_wp2_with fail
  go_loopw [6] (fun I wx => ∃ k : Nat, (k : Int) ≤ l.length ∧ I = .int .i64 k ∧ OwC base wx (.slice (some ⟨g, 0, none⟩) c.length cap) (aimF c (l.take k) to) ∧ w.grownBy wx (some g)) (fun I _ => (l.length - intOf I).toNat)
  case atStart => exact ⟨0, by omega, rfl, oc, gb_refl _ _⟩
  case round =>
    clear oc
    obtain ⟨k, hk, rfl, oC, hg⟩ := hrel
    by_cases hlt : (k : Int) < l.length
    · have hkl : k < l.length := by omega
      have st : Stands wr B #[.slice (some ⟨g, 0, none⟩) c.length cap, x1, x2, x3, x4] 26 := Stands.grown ST.out hg (fun e => hB (by cases e; rfl))
      have f0 := st.cell 0 _ rfl
      obtain ⟨a1, i1, c1⟩ := rd_idx (HL.out wr hg) uJ zJ k (by omega) hlt
      simp only [Int.toNat_natCast] at c1
      rw [show l.getD k 0 = l[k] by rw [List.getD_eq_getElem?_getD, List.getElem?_eq_getElem hkl]; rfl] at c1
      have hx := HR.out _ (List.getElem_mem hkl)
      have htk : aimF c (l.take (k + 1)) to = setN (aimF c (l.take k) to) l[k] to := by
        rw [List.take_succ_eq_append_getElem hkl]
        unfold aimF
        rw [List.foldl_append]
        rfl
      obtain ⟨X, hX⟩ : ∃ X, l[k] = X := ⟨_, rfl⟩
      rw [hX] at c1 hx htk
      obtain ⟨j, rfl⟩ : ∃ j : Nat, X = (j : Int) := ⟨X.toNat, by omega⟩
      have hj : j < c.length := by omega
      have hC : (aimF c (l.take k) to).length = c.length := aim_len _ _ _
      obtain ⟨C, hCe⟩ : ∃ C, aimF c (l.take k) to = C := ⟨_, rfl⟩
      rw [hCe] at oC hC htk
      have hix := idx_op g c.length cap j hj
      have oC2 : OwC base wr (.slice (some ⟨g, 0, none⟩) C.length cap) C := by rw [hC]; exact oC
      have oCd := OwnR.below oC2 (below_drewN (Below.refl _ wr) 1) (fun _ _ q => q)
      obtain ⟨s1, ⟨u, s2⟩, s3⟩ := OwC.put oCd j (by omega) to
      obtain ⟨_, ⟨u', y1⟩, y2⟩ := OwC.put oC2 j (by omega) to
      have S1 := hid s1
      have HT := hid htk
      have HC := hid hC
      have HG := hid hg
      have hjc : (j : Int) < c.length := by omega
      clear hx htk hX hCe hC oC oC2 oCd s1 hg
      go_wp2_with fail
      go_region
      all_goals (
        go_wp2_with fail
        have b9 : w.grownBy _ (some g) := gb_set (gb_below HG.out (below_drewN (Below.refl _ wr) 1)) (j * 2 + 1) (.int .u32 to)
        go_roundw
        case rel => exact ⟨k + 1, by omega, by go_num, by rw [HT.out]; have := S1.out; rw [HC.out] at this; exact this, b9⟩
        case measure => simp [intOf]; omega)
    · have hfull : l.take k = l := List.take_of_length_le (by omega)
      rw [hfull] at oC
      go_wp2_with fail
      go_end0
      exact ⟨rfl, oC, hg⟩
end Go.Proofs.Ytfmpeminfcehaaa
