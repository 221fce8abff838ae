/-
  The fixed fact of layer 5's statements: alive returns true, out of the calls' plain functions.
-/
import Derived.Test.YtamhcpejebonmaaDoorPst
namespace Go.Proofs.YtamhcpejebonmaaDoor
open Go.ChangeShapes Go.WideShapes Go.ChangeAt Go.RowKit
set_option linter.unusedVariables false
set_option linter.unusedSimpArgs false

theorem wf_c {n : Int} (h : (Lit.int .u32 n).wf = true) : 0 ≤ n ∧ n < 4294967296 := by
  simp [Lit.wf, IntKind.min, IntKind.max, IntKind.bits, IntKind.signed] at h
  omega
theorem wf_cells {xs : List Int} (h : ∀ n ∈ xs, (Lit.int .u32 n).wf = true) : cells xs := fun x hx => wf_c (h x hx)
theorem al_pun : punF (L ⟨#[49, 102, 44, 48]⟩) = ([31, 0], 0) := by decide +kernel
theorem al_ent : enTF (L ⟨#[97, 98]⟩) = ([97, 98, 0], 0) := by decide +kernel
theorem al_nam : nmF (L ⟨#[97, 98]⟩) = true := by decide +kernel
theorem al_str : strOfNums [97, 98, 0] = ⟨#[97, 98, 0]⟩ := by decide +kernel

theorem enT_bytes (l : List Int) (h : bytesL l) : bytesL (enTF l).1 := by
  unfold enTF
  split
  · intro x hx; simp at hx
  · split
    · intro x hx; simp at hx
    · refine bytes_app h ?_
      intro x hx
      simp at hx
      omega
theorem joi_bytes (ps : List (List Int)) (h : ∀ p ∈ ps, bytesL p) : bytesL (joiF ps).1 := by
  unfold joiF
  split
  · intro x hx; simp at hx
  · intro x hx
    simp only [List.mem_flatten] at hx
    obtain ⟨p, hp, hx⟩ := hx
    exact h p hp x hx
theorem slr_bytes {w : World} {v : Value} {ps : List (List Int)} (h : SlR 1 bytR w v ps) : ∀ p ∈ ps, bytesL p := by
  obtain ⟨rows, h1, h2, h3⟩ := h
  intro p hp
  obtain ⟨i, hi, rfl⟩ := List.getElem_of_mem hp
  obtain ⟨v, _, _, hb⟩ := h3 i hi
  exact hb
theorem deI_bytes (l : List Int) (h : bytesL l) : bytesL (deIF l).2.1 := by
  unfold deIF
  split
  · intro x hx; simp at hx
  · exact bytes_drop h 4
theorem deT_bytes (l : List Int) (h : bytesL l) : bytesL (deTF l).1 ∧ bytesL (deTF l).2.1 := by
  by_cases hl : l = []
  · subst hl
    simp [deTF, spl, bytesL]
  · rcases deT_tex l hl with ⟨e1, _⟩ | ⟨p, D, e1, _, e3⟩
    · rw [e1]
      exact ⟨fun x hx => by simp at hx, fun x hx => by simp at hx⟩
    · rw [e1]
      rw [e3] at h
      exact bytes_of_app h

set_option maxHeartbeats 1000000 in
theorem w_alive (w : World) (hT : Tab w) : Calls Tryd.prog 9 #[] w fun e w' => e = .returned (.bool true) ∧ Below w.heap.size w w' := by
  have c1 := w_ppunit ⟨#[49, 102, 44, 48]⟩ w hT (by decide)
  rw [al_pun] at c1
  have c2 := fun w => w_penctext ⟨#[97, 98]⟩ w (by decide)
  rw [al_ent] at c2
  have c3 := fun w => w_pnamed ⟨#[97, 98]⟩ w (by decide)
  rw [al_nam] at c3
  go_enter Tryd.func9, Tryd.ntmps9
  go_wp2_with (first
    | (go_at_call 12; refine c1.mono ?_; rintro e w1 ⟨v1, rfl, r1, b1⟩; have hlen := rd_len r1 uU (P := Tryd.prog))
    | (go_at_call 17; refine (c2 _).mono ?_; rintro e w2 ⟨v2, rfl, r2, b2⟩; have cs := rd_strT r2; rw [al_str] at cs; obtain ⟨ad, q1, q2⟩ := rd_idx (r1.below b2) uU zU 0 (by decide) (by decide))
    | (go_at_call 10; refine (c3 _).mono ?_; rintro e w3 ⟨rfl, b3⟩))
  go_ret
  exact ⟨rfl, below_trans (below_trans b1 b2) b3⟩
end Go.Proofs.YtamhcpejebonmaaDoor
