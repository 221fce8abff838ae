/-
  Right of the program's package digit returns the plain function, for every width and every text of up to 100,000 bytes.
-/
import Derived.Test.YtkibkpkojbjmgaaDt1
import Derived.Below
import Derived.Deep.DeepFit
namespace Go.Proofs.Ytkibkpkojbjmgaa
open Go.ChangeShapes Go.WideShapes Go.ChangeAt Go.RowKit Go.Shelf
set_option linter.unusedVariables false
set_option linter.unusedSimpArgs false

theorem w_bwrite (B b : Nat) (l : List UInt8) (s : ByteArray) (w : World) (h : Lib.IsBuilder 48 5 B b (Lib.byteCells l) w) (hlen : l.length + s.size ≤ 140737488355328) (hBw : B ≤ w.heap.size) :
    Calls Try.prog 29 #[.pointer (some ⟨b, 0, none⟩), .string s] w fun e w' => e = .returned (.tuple #[.int .i64 s.size, .nilIface]) ∧ Lib.IsBuilder 48 5 B b (Lib.byteCells (l ++ s.data.toList)) w' ∧ Below B w w' := by
  have c := Any.Builder_WriteString (P := Try.prog) (ρ := lays105_ren) { lays105 with } Builder_Extra_105 B b (Lib.byteCells l) s w h (by rw [Lib.byteCells_length]; exact hlen) hBw
  refine Calls.mono c ?_
  rintro e w' ⟨rfl, h1, h2⟩
  refine ⟨rfl, Or.inr ?_, h2⟩
  rw [Lib.byteCells_append]
  exact h1
theorem w_bstring (B b : Nat) (l : List UInt8) (w : World) (h : Lib.IsBuilder 48 5 B b (Lib.byteCells l) w) (hBw : B ≤ w.heap.size) :
    Calls Try.prog 31 #[.pointer (some ⟨b, 0, none⟩)] w fun e w' => e = .returned (.string ⟨l.toArray⟩) ∧ Below B w w' :=
  Any.Builder_String_any (P := Try.prog) (ρ := lays105_ren) { lays105 with } Builder_Extra_105 B b l w h hBw
/-- a fresh builder outlives what is laid behind it -/
theorem fresh_below (w w' : World) (h : Below (w.alloc (.cells #[.pointer none, .slice none 0 0] 48)).heap.size (w.alloc (.cells #[.pointer none, .slice none 0 0] 48)) w') :
    Lib.IsBuilder 48 5 w.heap.size w.heap.size (Lib.byteCells []) w' := by
  refine Or.inl ⟨Nat.le_refl _, .slice none 0 0, ?_, World.ownsRow_nil _ _ _ _, by simp [Value.ownBlock]⟩
  rw [h.block w.heap.size (Array.getElem?_eq_some_iff.1 (heap_alloc_new w _)).1]
  exact heap_alloc_new w _

theorem blanks (c : Nat) : Lib.repeatL (⟨#[32]⟩ : ByteArray).data.toList c = List.replicate c 32 := by
  induction c with
  | zero => rfl
  | succ c ih => rw [Lib.repeatL, ih]; rfl
/-- the answer, byte for byte -/
theorem rgT_blanks (s : ByteArray) (b : Int) (c : Nat) (hb : ¬ 255 < b) (hc : c = b.toNat - s.size) :
    (⟨(([] ++ (⟨(Lib.repeatL (⟨#[32]⟩ : ByteArray).data.toList c).toArray⟩ : ByteArray).data.toList) ++ s.data.toList).toArray⟩ : ByteArray) = rgT s b := by
  unfold rgT rgL
  rw [if_neg hb]
  apply L_eq
  rw [L_len, ← hc, blanks]
  simp [L]

set_option maxHeartbeats 1000000 in
theorem w_dright (s : ByteArray) (b : Int) (w : World) (hs : s.size ≤ 100000) (g0 : 0 ≤ b) (g1 : b < 4294967296) :
    Calls Try.prog 18 #[.string s, .int .u32 b] w fun e w' => e = .returned (.tuple #[.string (rgT s b), .int .i64 (rgE b)]) ∧ Below w.heap.size w w' := by
  by_cases hb : 255 < b
  · have e1 : rgT s b = ⟨#[]⟩ := by unfold rgT; rw [if_pos hb]
    have e2 : rgE b = 1 := by unfold rgE; rw [if_pos hb]
    rw [e1, e2]
    clear e1 e2
    go_enter Try.func18, Try.ntmps18
    go_wp2_with fail
    go_ret2
    exact ⟨rfl, Below.refl _ _⟩
  · have e2 : rgE b = 0 := by unfold rgE; rw [if_neg hb]
    rw [e2]
    clear e2
    obtain ⟨c, hc⟩ : ∃ c, b.toNat - s.size = c := ⟨_, rfl⟩
    have e1 := hid (rgT_blanks s b c hb hc.symm)
    have hc2 : c ≤ 255 := by omega
    have hcI : max 0 (b - (s.size : Int)) = (c : Int) := by omega
    have HC := hid hc
    clear hc
    have b0 : Below w.heap.size w (w.alloc (.cells #[.pointer none, .slice none 0 0] 48)) := (Below.refl _ w).alloc (Nat.le_refl _) _
    have cR := strings_Repeat ⟨#[32]⟩ c (w.alloc (.cells #[.pointer none, .slice none 0 0] 48)) (by omega) (by show 1 * c ≤ _; omega)
    go_enter Try.func18, Try.ntmps18
    go_wp2_with (go_at_call 30; go_fit cR; rintro e W1 ⟨rfl, b1⟩)
    clear cR hcI
    have h1 := fresh_below w W1 b1
    have z1 := b0.trans (b1.mono b0.size)
    clear b0 b1
    have cW := w_bwrite _ _ _ ⟨(Lib.repeatL (⟨#[32]⟩ : ByteArray).data.toList c).toArray⟩ W1 h1 (by rw [blanks]; simp [ByteArray.size]; omega) z1.size
    refine cW.mono ?_
    rintro e W2 ⟨rfl, h2, b2⟩
    go_wp2_with fail
    clear cW h1
    have z2 := z1.trans b2
    clear z1 b2
    have cW := w_bwrite _ _ _ s W2 h2 (by rw [blanks]; simp; omega) z2.size
    refine cW.mono ?_
    rintro e W3 ⟨rfl, h3, b3⟩
    go_wp2_with fail
    clear cW h2
    have z3 := z2.trans b3
    clear z2 b3
    have cS := w_bstring _ _ _ W3 h3 z3.size
    refine cS.mono ?_
    rintro e W4 ⟨rfl, b4⟩
    go_wp2_with fail
    go_ret2
    exact ⟨ret_si e1.out rfl, z3.trans b4⟩
end Go.Proofs.Ytkibkpkojbjmgaa
