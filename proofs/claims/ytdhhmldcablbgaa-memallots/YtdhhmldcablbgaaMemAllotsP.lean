/-
  MemAllots: for every memory and number, Allot of the program answers as the document says and keeps what there was: the law returns true. No conditions.
-/
import Derived.Test.YtdhhmldcablbgaaRows
import Derived.WalkKit
import Derived.ProofKit
import Derived.OpenShut
import Derived.ShutString
import Derived.ChangeOld
import Derived.Below
import Derived.Carry
import Derived.SizedLaws
import Derived.Test.YtdhhmldcablbgaaSl
import Derived.Test.YtdhhmldcablbgaaMal
import Derived.Test.YtdhhmldcablbgaaPmn
namespace Go.Proofs.Ytdhhmldcablbgaa.memAllots
open Go.ChangeShapes Go.WideShapes Go.ChangeAt Go.RowKit
open Go.ChangeMaps (open_string shut_string)
set_option linter.unusedVariables false

theorem own : ownKnob Try.prog.godebug = none := by kernel_rfl
theorem laidOut : laidOutB Try.prog = true := by kernel_rfl
theorem bytes5 : Try.prog.bytesOf 5 = 1 := by kernel_rfl

set_option maxHeartbeats 4000000 in
set_option maxRecDepth 100000 in
theorem walk (v0 : Value) (x0 : List Int) (a1 : Int) (w : World) (r0 : Rd .u8 w v0 x0) (f0 : ∀ n ∈ x0, (Lit.int .u8 n).wf = true) (z0 : x0.length * 1 ≤ 140737488351232) (w1 : (Lit.int .u32 a1).wf = true) :
    Calls Try.prog 7 #[v0, .int .u32 a1] w fun e w' => e = .returned (.bool true) ∧ Below w.heap.size w w' := by
  have hB := wf_u8 f0
  obtain ⟨p0, p1⟩ := wf_c w1
  have hz : x0.length ≤ 140737488355328 := by omega
  have hX := all_bytes hB a1
  have hlen := rd_len r0 uB (P := Try.prog)
  rcases all_two x0 a1 with ⟨X, P, e, ht, hl⟩ | e
  · have m1 : ∀ w, Rd .u8 w v0 x0 → Calls Try.prog 26 #[v0, .int .u32 a1] w fun e w' => ∃ v1, e = .returned (.tuple #[v1, .int .u32 P, .int .i64 0]) ∧ Rd .u8 w' v1 X ∧ Below w.heap.size w w' := fun w h => by
      have := w_mallot v0 x0 a1 w h hB hz p0 p1
      rw [e] at this
      exact this
    have m2 : ∀ w, Rd .u8 w v0 x0 → Calls Try.prog 27 #[v0, .int .u32 a1] w fun e w' => ∃ v1, e = .returned (.tuple #[v1, .int .u32 P, .int .i64 0]) ∧ Rd .u8 w' v1 X ∧ Below w.heap.size w w' := fun w h => by
      have := w_rallot v0 x0 a1 w h hz p0 p1
      rw [e] at this
      exact this
    rw [e] at hX
    have hX' : bytesL X := hX
    have HT := hid ht
    have HL := hid hl
    clear e hX ht hl
    go_enter Try.func7, Try.ntmps7
    go_wp2_with (first
      | (go_at_call 9; refine (w_alive _).mono ?_; rintro e wa ⟨rfl, ba⟩)
      | (go_at_call 26; refine (m1 _ (r0.below ba)).mono ?_; rintro e wb ⟨u1, rfl, ru1, bb⟩; have BB := below_trans ba bb)
      | (go_at_call 27; refine (m2 _ (r0.below BB)).mono ?_; rintro e wc ⟨u2, rfl, ru2, bc⟩; have BC := below_trans BB bc))
    have ru3 := ru1.below bc
    refine (w_rsame _ _ _ _ _ ru3 ru2 hX' hX').mono ?_
    rintro e wg ⟨rfl, rfl⟩
    obtain ⟨va, ra, x1, c1, x2⟩ := rd_cutI ru3 uB zB 0 (x0.length : Int) (by omega) (by omega) (by have := HL.out; omega)
    have c1' := c1 rfl
    rw [show ((x0.length : Int) - 0).toNat = x0.length by omega, show (0 : Int).toNat = 0 from rfl, List.drop_zero, HT.out] at ra
    clear c1 x1 x2
    have hd : decide (X = X) = true := by simp
    rw [hd]
    go_wp2_with fail
    refine (w_rsame _ _ _ _ _ ra (r0.below BC) hB hB).mono ?_
    rintro e wh ⟨rfl, rfl⟩
    go_wp2_with fail
    go_ret
    exact ⟨ret_b (by simp), BC⟩
  · have m1 : ∀ w, Rd .u8 w v0 x0 → Calls Try.prog 26 #[v0, .int .u32 a1] w fun e w' => ∃ v1, e = .returned (.tuple #[v1, .int .u32 0, .int .i64 10]) ∧ Rd .u8 w' v1 [] ∧ Below w.heap.size w w' := fun w h => by
      have := w_mallot v0 x0 a1 w h hB hz p0 p1
      rw [e] at this
      exact this
    have m2 : ∀ w, Rd .u8 w v0 x0 → Calls Try.prog 27 #[v0, .int .u32 a1] w fun e w' => ∃ v1, e = .returned (.tuple #[v1, .int .u32 0, .int .i64 10]) ∧ Rd .u8 w' v1 [] ∧ Below w.heap.size w w' := fun w h => by
      have := w_rallot v0 x0 a1 w h hz p0 p1
      rw [e] at this
      exact this
    have hN : bytesL [] := fun x hx => by simp at hx
    clear e hX
    go_enter Try.func7, Try.ntmps7
    go_wp2_with (first
      | (go_at_call 9; refine (w_alive _).mono ?_; rintro e wa ⟨rfl, ba⟩)
      | (go_at_call 26; refine (m1 _ (r0.below ba)).mono ?_; rintro e wb ⟨u1, rfl, ru1, bb⟩; have BB := below_trans ba bb)
      | (go_at_call 27; refine (m2 _ (r0.below BB)).mono ?_; rintro e wc ⟨u2, rfl, ru2, bc⟩; have BC := below_trans BB bc)
      | (go_at_call 15; refine (w_rsame _ _ _ _ _ (ru1.below bc) ru2 hN hN).mono ?_; rintro e wg ⟨rfl, rfl⟩))
    go_ret
    exact ⟨rfl, BC⟩

set_option maxRecDepth 100000 in
theorem lifted (os : Os) (started : os.Started) (H : Type) (enc : TypeId × Value → H) :
    ReturnsInHanded {} Try.checked os 7 .any (Rows.memAllotsSpec.pre6 enc Try.prog Try.f7 Rows.memAllotsRow.domain false) (Rows.memAllotsSpec.post enc Try.prog Try.f7 false true false false) := by
  refine returnsInHanded_of_change_sized (C := Try.checked) own started (by kernel_rfl) Try.func7
    (ChangeSpec.witness6 (enc := enc) (C := Try.checked) false ⟨#[], #[.slice none 0 0, .int .u32 0], []⟩ 8 (by kernel_rfl) (by kernel_rfl) (by kernel_rfl) (by kernel_rfl)) ?_
  intro W base args ds gs before hval0 hW hcnd hsz0 _
  have hval : ∀ (j : Nat) t v, Try.f7.params[j]? = some t → args[j]? = some v → Value.okWide Try.prog W .any base t v := hval0
  have hsz : (DataW.weightsEach Try.prog (Try.f7.params.toList ++ Rows.memAllotsSpec.plain.varTypes Try.prog) (ds ++ gs)).all (· ≤ reachBytes) = true := hsz0
  have hW' := hW
  obtain ⟨p, q, hA0, hV, rfl, hfz, hnd⟩ := hW
  have hA : DataW.TrodAll enc Try.prog W 0 (fun _ => true) true Try.f7.params.toList args.toList ds p := hA0
  rw [Try.params7] at hA hval hsz
  obtain ⟨v0, vs0, d0, ds0, p0, q0, hargs, rfl, rfl, h0, r0⟩ := trodAll_cons hA
  obtain ⟨v1, vs1, d1, ds1, p1, q1, rfl, rfl, rfl, h1, r1⟩ := trodAll_cons r0
  obtain ⟨rfl, rfl, rfl⟩ := trodAll_nil r1
  obtain rfl : args = #[v0, v1] := by cases args; simp_all
  obtain ⟨rfl, rfl⟩ := trodVars_none hV
  obtain ⟨s0, l0, c0, rfl⟩ := okWide_slice Try.underlying22 (hval 0 22 v0 rfl rfl)
  have k0 := h0
  have lt0 : ∀ x ∈ p0, x.block < W.heap.size := by obtain ⟨m, hm⟩ := k0; exact DataW.trod_lt m _ _ _ hm
  obtain ⟨x0, r100, f0, hd0⟩ := rd_open (k := .u8) Try.underlying22 Try.underlying5 (by kernel_rfl) h0
  have z0 : x0.length * 1 ≤ 140737488351232 := by
    rcases hd0 with rfl | ⟨ys, zs, rfl, hle⟩
    · simp
    · have := sized_slice hsz (j := 0) (t := 22) (e := 5) rfl rfl Try.underlying22
      rw [bytes5] at this
      unfold reachBytes at this
      omega
  obtain ⟨a1, rfl, rfl, rfl, w1⟩ := open_int Try.underlying23 (hval 1 23 v1 rfl rfl) h1
  clear hA0 hval0 hsz0
  refine (walk (.slice s0 l0 c0) x0 a1 W r100 f0 z0 w1).mono fun e W' ⟨he, bel⟩ => ?_
  subst he
  exact ⟨_, rfl, _, _, _, [], _, [], hW', trodAll_mk1 (shut_bool Try.underlying4 _), (trodAll_cons_mk (Below.trod laidOut (by kernel_rfl) (of_decide_eq_true (by kernel_rfl)) k0 bel lt0) (trodAll_cons_mk (shut_int Try.underlying23 w1) trodAll_mk0)), rfl, bel.frame _, fun h => by cases h⟩

theorem over : Rows.memAllotsRow.holds Try.pinned (OpenSpec.ofChange Rows.memAllotsSpec) :=
  OpenClaim.holds_of_wide 7 Try.f7 rfl rfl rfl rfl rfl rfl rfl ⟨rfl, rfl, rfl, rfl, rfl⟩ rfl rfl rfl rfl rfl (by kernel_rfl) Try.func7 (by kernel_rfl)
    (of_decide_eq_true (by kernel_rfl)) (by unfold Func.isWrapper; first | (rw [if_pos (by decide +kernel)]; kernel_rfl) | (rw [if_neg (by decide +kernel)]; exact ⟨rfl, rfl⟩))
    (fun os started H enc _ => lifted os started H enc)
end Go.Proofs.Ytdhhmldcablbgaa.memAllots
namespace Go.Proofs.Ytdhhmldcablbgaa
theorem memAllots_holds : Rows.MemAllotsSaid := memAllots.over
#print axioms memAllots_holds
end Go.Proofs.Ytdhhmldcablbgaa
