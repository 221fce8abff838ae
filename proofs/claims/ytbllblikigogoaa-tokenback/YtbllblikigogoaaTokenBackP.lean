/-
  Tokens that were encoded are decoded as the same.
-/
import Derived.Test.YtbllblikigogoaaRows
import Derived.WalkKit
import Derived.ProofKit
import Derived.OpenShut
import Derived.ShutString
import Derived.ChangeOld
import Derived.Below
import Derived.Carry
import Derived.SizedLaws
import Derived.Test.YtbllblikigogoaaSl
import Derived.Test.YtbllblikigogoaaTla
import Derived.Test.YtbllblikigogoaaTqp
import Derived.Test.YtbllblikigogoaaTr4
namespace Go.Proofs.Ytbllblikigogoaa.tokenBack
open Go.ChangeShapes Go.WideShapes Go.ChangeAt Go.RowKit
open Go.ChangeMaps (open_string shut_string)
set_option linter.unusedVariables false
set_option linter.unusedSimpArgs false

theorem own : ownKnob Try.prog.godebug = none := by kernel_rfl
theorem laidOut : laidOutB Try.prog = true := by kernel_rfl

set_option maxHeartbeats 4000000 in
set_option maxRecDepth 100000 in
theorem walk (v0 : Value) (x0 : List Tq) (a1 : Bool) (w : World) (r0 : SlR 4 tqR w v0 x0) (g0 : ∀ x ∈ x0, aQ x) :
    Calls Try.prog 6 #[v0, .bool a1] w fun e w' => e = .returned (.bool true) ∧ Below w.heap.size w w' := by
  have gl : ∀ t ∈ x0, gQ t := fun t ht => (g0 t ht).g
  have gm : ∀ t ∈ x0, t.t.length ≤ maxLen := fun t ht => (g0 t ht).l
  have hbb := enc_bytes x0 a1 gl
  have hbk := back_law x0 a1 gl
  have hcs := enc_cases x0 a1
  have c1 := fun w h => w_penc v0 x0 a1 w h gl gm
  obtain ⟨B, E, hE⟩ : ∃ B E, encF x0 a1 = (B, E) := ⟨_, _, rfl⟩
  simp only [hE] at c1 hbb hbk hcs
  have gt : ∀ t ∈ x0, bytesL t.t := fun t ht => (gl t ht).2.2
  have hcs2 : E = 0 ∨ (¬ E = 0 ∧ B = []) := by
    rcases hcs with ⟨b, h1, h2, h3⟩ | ⟨h1, h2⟩
    · injection h3 with h4 h5; exact Or.inl h5
    · exact Or.inr ⟨by omega, h1⟩
  clear hcs hE
  rcases hcs2 with rfl | ⟨hne, rfl⟩
  · have c2 := fun v w h => w_pdec v B a1 w h hbb
    rw [hbk rfl] at c2
    clear hbk
    go_enter Try.func6, Try.ntmps6
    go_wp2_with (first
      | (go_at_call 9; refine (w_alive13 _).mono ?_; rintro e q1 ⟨rfl, b1⟩)
      | (go_at_call 10; refine (c1 _ (r0.below b1 tqR_below)).mono ?_; rintro e q2 ⟨v2, rfl, r2, b2⟩)
      | (go_at_call 14; refine (c2 _ _ r2).mono ?_; rintro e q3 ⟨v3, rfl, r3, b3⟩)
      | (go_at_call 16; refine (w_r13same v0 v3 x0 x0 q3 (r0.below (below_trans b1 (below_trans b2 b3)) tqR_below) r3 gt gt).mono ?_; rintro e q4 ⟨rfl, b4⟩))
    go_ret
    exact ⟨ret_b (by simp), below_trans b1 (below_trans b2 (below_trans b3 b4))⟩
  · have hn : (E != 0) = true := by simpa using hne
    have hq : (E == 0) = false := by simpa using hne
    clear hbk hne
    go_enter Try.func6, Try.ntmps6
    go_wp2_with (first
      | (go_at_call 9; refine (w_alive13 _).mono ?_; rintro e q1 ⟨rfl, b1⟩)
      | (go_at_call 10; refine (c1 _ (r0.below b1 tqR_below)).mono ?_; rintro e q2 ⟨v2, rfl, r2, b2⟩; have hl2 : ∀ ty w', (Builtin.len_ #[24] ty #[v2]).run Try.prog w' = .ok (.int .i64 0) w' := rd_len r2 uB (P := Try.prog)))
    go_ret
    exact ⟨rfl, below_trans b1 b2⟩

set_option maxRecDepth 100000 in
theorem lifted (os : Os) (started : os.Started) (H : Type) (enc : TypeId × Value → H) :
    ReturnsInHanded {} Try.checked os 6 .any (Rows.tokenBackSpec.pre6 enc Try.prog Try.f6 Rows.tokenBackRow.domain false) (Rows.tokenBackSpec.post enc Try.prog Try.f6 false true false false) := by
  refine returnsInHanded_of_change_sized (C := Try.checked) own started (by kernel_rfl) Try.func6
    (ChangeSpec.witness6 (enc := enc) (C := Try.checked) false ⟨#[], #[.slice none 0 0, .bool false], []⟩ 8 (by kernel_rfl) (by kernel_rfl) (by kernel_rfl) (by kernel_rfl)) ?_
  intro W base args ds gs before hval0 hW hcnd hsz0 _
  have hval : ∀ (j : Nat) t v, Try.f6.params[j]? = some t → args[j]? = some v → Value.okWide Try.prog W .any base t v := hval0
  have hsz : (DataW.weightsEach Try.prog (Try.f6.params.toList ++ Rows.tokenBackSpec.plain.varTypes Try.prog) (ds ++ gs)).all (· ≤ reachBytes) = true := hsz0
  have hW' := hW
  obtain ⟨p, q, hA0, hV, rfl, hfz, hnd⟩ := hW
  have hA : DataW.TrodAll enc Try.prog W 0 (fun _ => true) true Try.f6.params.toList args.toList ds p := hA0
  rw [Try.params6] at hA hval hsz
  obtain ⟨v0, vs0, d0, ds0, p0, q0, hargs, rfl, rfl, h0, r0⟩ := trodAll_cons hA
  obtain ⟨v1, vs1, d1, ds1, p1, q1, rfl, rfl, rfl, h1, r1⟩ := trodAll_cons r0
  obtain ⟨rfl, rfl, rfl⟩ := trodAll_nil r1
  obtain rfl : args = #[v0, v1] := by cases args; simp_all
  obtain ⟨rfl, rfl⟩ := trodVars_none hV
  obtain ⟨s0, l0, c0, rfl⟩ := okWide_slice Try.underlying22 (hval 0 22 v0 rfl rfl)
  have k0 := h0
  have lt0 : ∀ x ∈ p0, x.block < W.heap.size := by obtain ⟨m, hm⟩ := k0; exact DataW.trod_lt m _ _ _ hm
  obtain ⟨x0, r100, g0⟩ := tqs_open h0
  obtain ⟨a1, rfl, rfl, rfl⟩ := open_bool Try.underlying4 (hval 1 4 v1 rfl rfl) h1
  clear hA0 hval0 hsz0
  refine (walk (.slice s0 l0 c0) x0 a1 W r100 g0).mono fun e W' ⟨he, bel⟩ => ?_
  subst he
  exact ⟨_, rfl, _, _, _, [], _, [], hW', trodAll_mk1 (shut_bool Try.underlying4 _), (trodAll_cons_mk (Below.trod laidOut (by kernel_rfl) (of_decide_eq_true (by kernel_rfl)) k0 bel lt0) (trodAll_cons_mk (shut_bool Try.underlying4 a1) trodAll_mk0)), rfl, bel.frame _, fun h => by cases h⟩

theorem over : Rows.tokenBackRow.holds Try.pinned (OpenSpec.ofChange Rows.tokenBackSpec) :=
  OpenClaim.holds_of_wide 6 Try.f6 rfl rfl rfl rfl rfl rfl rfl ⟨rfl, rfl, rfl, rfl, rfl⟩ rfl rfl rfl rfl rfl (by kernel_rfl) Try.func6 (by kernel_rfl)
    (of_decide_eq_true (by kernel_rfl)) (by unfold Func.isWrapper; first | (rw [if_pos (by decide +kernel)]; kernel_rfl) | (rw [if_neg (by decide +kernel)]; exact ⟨rfl, rfl⟩))
    (fun os started H enc _ => lifted os started H enc)
end Go.Proofs.Ytbllblikigogoaa.tokenBack
namespace Go.Proofs.Ytbllblikigogoaa
theorem tokenBack_holds : Rows.TokenBackSaid := tokenBack.over
#print axioms tokenBack_holds
end Go.Proofs.Ytbllblikigogoaa
