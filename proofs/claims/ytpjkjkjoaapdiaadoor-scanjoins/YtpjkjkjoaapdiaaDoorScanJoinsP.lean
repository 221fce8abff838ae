/-
  Two texts with a line's end between them are cut to the tokens of the one and of the other, these further on.
-/
import Derived.Test.YtpjkjkjoaapdiaaDoorRows
import Derived.WalkKit
import Derived.ProofKit
import Derived.OpenShut
import Derived.ShutString
import Derived.ChangeOld
import Derived.Below
import Derived.Carry
import Derived.SizedLaws
import Derived.Deep.DeepHandedRow
import Derived.SevenTiedAt
import Derived.Test.YtpjkjkjoaapdiaaDoorCards
import Derived.Test.YtpjkjkjoaapdiaaDoorTie
import Derived.Test.YtpjkjkjoaapdiaaDoorSl
import Derived.Test.YtpjkjkjoaapdiaaDoorSca
import Derived.Test.YtpjkjkjoaapdiaaDoorPsv
import Derived.Test.YtpjkjkjoaapdiaaDoorStb
namespace Go.Proofs.YtpjkjkjoaapdiaaDoor.scanJoins
open Go.ChangeShapes Go.WideShapes Go.ChangeAt Go.RowKit
open Go.ChangeMaps (open_string shut_string)
set_option linter.unusedVariables false

theorem own : ownKnob Tryd.prog.godebug = none := by kernel_rfl
theorem laidOut : laidOutB Tryd.prog = true := by kernel_rfl

set_option maxHeartbeats 4000000 in
set_option maxRecDepth 100000 in
theorem walk (a0 : ByteArray) (a1 : ByteArray) (w : World) (hT : Tab w) (w0 : a0.size ≤ maxLen) (w1 : a1.size ≤ maxLen) :
    Calls Tryd.prog 7 #[.string a0, .string a1] w fun e w' => e = .returned (.bool true) ∧ Below w.heap.size w w' := by
  have hok0 := cut_ok (L a0) (LB_bytes a0)
  have hok1 := cut_ok (L a1) (LB_bytes a1)
  have hj := cut_join (L a0) (L a1)
  have hwx := cut_wt (L a0)
  have hwy := cut_wt (L a1)
  have hpl := cut_place (L a1)
  have c1 := fun w hT h15 => w_pcut a0 w w0 hT h15
  have c2 := fun w hT h15 => w_pcut a1 w w1 hT h15
  have d1 := fun w hT h0 => w_pcutN a0 w w0 hT h0
  have d2 := fun w hT h0 => w_pcutN a1 w w1 hT h0
  have g2 := fun w hT => w_pcutE a1 w w1 hT
  have hs0 := w0
  have hs1 := w1
  unfold maxLen at hs0 hs1
  obtain ⟨X, E, hX⟩ : ∃ X E, cutF (L a0) = (X, E) := ⟨_, _, rfl⟩
  obtain ⟨Y, F, hY⟩ : ∃ Y F, cutF (L a1) = (Y, F) := ⟨_, _, rfl⟩
  simp only [hX] at c1 d1 hok0 hj hwx
  simp only [hY] at c2 d2 g2 hok1 hj hwy hpl
  clear hX hY
  have hXl : (X.length : Int) ≤ 4097 := by have := wt_len X; omega
  have hYl : (Y.length : Int) ≤ 4097 := by have := wt_len Y; omega
  clear hwx hwy
  by_cases hc : E = 0 ∧ F = 0 ∧ a0.size < 4096 ∧ a1.size < 4096 - a0.size
  · obtain ⟨rfl, rfl, ha, hb⟩ := hc
    have hz := hj X Y rfl rfl (by rw [L_len, L_len]; omega)
    have hLz : L (a0 ++ ⟨#[10]⟩ ++ a1) = L a0 ++ 10 :: L a1 := by
      rw [L_app, L_app]
      have : L ⟨#[10]⟩ = [10] := by decide +kernel
      rw [this]
      simp
    have c3 := fun w hT h15 => w_pcut (a0 ++ ⟨#[10]⟩ ++ a1) w (by have h1 := L_len (a0 ++ ⟨#[10]⟩ ++ a1); rw [hLz, List.length_append, List.length_cons, L_len, L_len] at h1; unfold maxLen; omega) hT h15
    rw [hLz, hz] at c3
    rw [L_len] at c3
    have hbX : ∀ x ∈ X, bytesL x.2.1 := fun x hx => (hok0 x hx).2
    have hi0 : ¬ (4096 : Int) ≤ a0.size := by omega
    have hi1 : ¬ (4096 : Int) - a0.size ≤ a1.size := by omega
    have hZl : ((X ++ Y.map (shK ((a0.size : Int) + 1))).length : Int) = X.length + Y.length := by simp
    obtain ⟨Z, hZ⟩ : ∃ Z, X ++ Y.map (shK ((a0.size : Int) + 1)) = Z := ⟨_, rfl⟩
    have HZ := hid hZ
    have HT : Hid (Z.take X.length = X) := by show _ = _; rw [← hZ, List.take_left']; rfl
    rw [hZ] at hZl
    have hne : ((Z.length : Int) != (X.length : Int) + Y.length) = false := by simp [hZl]
    have HZl := hid hZl
    have HS0 := hid hs0
    have HS1 := hid hs1
    clear hZl hs0 hs1
    simp only [hZ] at c3
    obtain ⟨S, hS⟩ : ∃ S, a0 ++ ⟨#[10]⟩ ++ a1 = S := ⟨_, rfl⟩
    rw [hS] at c3
    clear hLz hz hj hZ hok0 hok1
    go_enter Tryd.func7, Tryd.ntmps7
    go_wp2_with (first
      | (go_at_call 8; refine (w_alive _ hT).mono ?_; rintro e q1 ⟨rfl, b1⟩; have hT1 := hT.below b1)
      | (go_at_call_of 9 (Value.string a0); refine (c1 _ hT1 (by decide)).mono ?_; rintro e q2 ⟨v2, rfl, r2, b2⟩; have hT2 := hT1.below b2; have l2 := slr_len r2 uK (P := Tryd.prog))
      | (go_at_call_of 9 (Value.string a1); refine (c2 _ hT2 (by decide)).mono ?_; rintro e q3 ⟨v3, rfl, r3, b3⟩; have hT3 := hT2.below b3; have l3 := slr_len r3 uK (P := Tryd.prog))
      | (go_at_call_of 9 (Value.string S); refine (c3 _ hT3 (by decide)).mono ?_; rintro e q4 ⟨v4, rfl, r4, b4⟩; have l4 := slr_len r4 uK (P := Tryd.prog); obtain ⟨vt, it, rt⟩ := slr_take r4 uK zK X.length (by have := HZl.out; omega); rw [HT.out] at rt)
      | (go_at_call 11; refine (w_r6same vt v2 X X q4 rt (r2.below (below_trans b3 b4) tokR_below) hbX hbX).mono ?_; rintro e q5 ⟨rfl, b5⟩))
    have r3' := r3.below (below_trans b4 b5) tokR_below
    have r4' := r4.below b5 tokR_below
    go_loopw [11] (fun I wx => ∃ (k : Nat), (k : Int) ≤ Y.length ∧ I = .int .i64 k ∧ Below q5.heap.size q5 wx) (fun I _ => (Y.length - intOf I).toNat)
    case atStart => exact ⟨0, by omega, rfl, Below.refl _ _⟩
    case round =>
      obtain ⟨k, hk, rfl, hb⟩ := hrel
      by_cases hlt : (k : Int) < Y.length
      · have hkk : k < Y.length := by omega
        have hkz : X.length + k < Z.length := by have := HZl.out; omega
        obtain ⟨bz, oz, K, p, T1, iz, z0, z1, z2, e0, e1, e2⟩ := tok_at (r4'.below hb tokR_below) (X.length + k) hkz
        obtain ⟨bl, ol, K2, p2, T2, il, l0, l1, l2', f0, f1, f2⟩ := tok_at (r3'.below hb tokR_below) k hkk
        have hze : Z[X.length + k] = shK ((a0.size : Int) + 1) Y[k] := by
          have h1 : Z[X.length + k]? = some (shK ((a0.size : Int) + 1) Y[k]) := by
            rw [← HZ.out, List.getElem?_append_right (by omega), Nat.add_sub_cancel_left, List.getElem?_map, List.getElem?_eq_getElem hkk]
            rfl
          rw [List.getElem?_eq_getElem hkz] at h1
          exact Option.some.inj h1
        have hpp := hpl Y[k] (List.getElem_mem hkk)
        unfold tkP at hpp
        rw [f2] at hpp
        rw [hze] at e0 e1 e2
        obtain rfl : K = K2 := by rw [← e0, ← f0]; rfl
        obtain rfl : T1 = T2 := by rw [← e1, ← f1]; rfl
        obtain rfl : p = p2 + ((a0.size : Int) + 1) := by rw [← e2, ← f2]; rfl
        rw [show ((X.length + k : Nat) : Int) = (X.length : Int) + k by omega] at iz
        obtain ⟨pp0, pp1⟩ := hpp
        have hw1 : IntKind.i64.wrap (p2 + ((a0.size : Int) + 1) - a0.size) = p2 + 1 := by rw [IntKind.wrap_i64]; omega
        have hw2 : IntKind.i64.wrap (p2 + 1 - 1) = p2 := by rw [IntKind.wrap_i64]; omega
        clear e0 e1 e2 f0 f1 f2 hze
        have n0 := below_cell (box_below wr (.cells #[.int .i64 K, .string T1, .int .i64 p2] 33)) l0
        have n1 := below_cell (box_below wr (.cells #[.int .i64 K, .string T1, .int .i64 p2] 33)) l1
        have n2 := below_cell (box_below wr (.cells #[.int .i64 K, .string T1, .int .i64 p2] 33)) l2'
        have hq : ∀ w, (binOp .neq 33 (.agg #[.int .i64 K, .string T1, .int .i64 p2]) (.agg #[.int .i64 K, .string T1, .int .i64 p2])).run Tryd.prog w = .ok (.bool false) w := by
          intro w
          rw [tok_neq]
          simp
        have hb2 := (below_trans hb (box_below wr (.cells #[.int .i64 K, .string T1, .int .i64 p2] 33)))
        go_wp2_with fail
        go_quiet (fail)
        go_wp2_with fail
        go_roundw
        case rel => exact ⟨k + 1, by omega, by go_num, below_drewN hb2 _⟩
        case measure => simp [intOf]; omega
      · go_wp2_with fail
        go_ret
        exact ⟨rfl, below_trans (below_trans (below_trans (below_trans (below_trans b1 b2) b3) b4) b5) hb⟩
  · have hcs : ¬ E = 0 ∨ (E = 0 ∧ ¬ F = 0) ∨ (E = 0 ∧ F = 0 ∧ (4096 : Int) ≤ a0.size) ∨ (E = 0 ∧ F = 0 ∧ ¬ (4096 : Int) ≤ a0.size ∧ (4096 : Int) - a0.size ≤ a1.size) := by omega
    clear hj hpl hok0 hok1 hc
    rcases hcs with h | ⟨rfl, h⟩ | ⟨rfl, rfl, h⟩ | ⟨rfl, rfl, h, g⟩
    · have hn : (E != 0) = true := by simpa using h
      go_enter Tryd.func7, Tryd.ntmps7
      go_wp2_with (first
        | (go_at_call 8; refine (w_alive _ hT).mono ?_; rintro e q1 ⟨rfl, b1⟩; have hT1 := hT.below b1)
        | (go_at_call_of 9 (Value.string a0); refine (d1 _ hT1 h).mono ?_; rintro e q2 ⟨v2, E2, rfl, n2, m2, r2, b2⟩; have hT2 := hT1.below b2)
        | (go_at_call_of 9 (Value.string a1); refine (g2 _ hT2).mono ?_; rintro e q3 ⟨v3, E3, rfl, l3, r3, b3⟩))
      go_ret
      exact ⟨rfl, below_trans (below_trans b1 b2) b3⟩
    · have hn : (F != 0) = true := by simpa using h
      go_enter Tryd.func7, Tryd.ntmps7
      go_wp2_with (first
        | (go_at_call 8; refine (w_alive _ hT).mono ?_; rintro e q1 ⟨rfl, b1⟩; have hT1 := hT.below b1)
        | (go_at_call_of 9 (Value.string a0); refine (c1 _ hT1 (by decide)).mono ?_; rintro e q2 ⟨v2, rfl, r2, b2⟩; have hT2 := hT1.below b2)
        | (go_at_call_of 9 (Value.string a1); refine (d2 _ hT2 h).mono ?_; rintro e q3 ⟨v3, E3, rfl, n3, m3, r3, b3⟩))
      go_ret
      exact ⟨rfl, below_trans (below_trans b1 b2) b3⟩
    · go_enter Tryd.func7, Tryd.ntmps7
      go_wp2_with (first
        | (go_at_call 8; refine (w_alive _ hT).mono ?_; rintro e q1 ⟨rfl, b1⟩; have hT1 := hT.below b1)
        | (go_at_call_of 9 (Value.string a0); refine (c1 _ hT1 (by decide)).mono ?_; rintro e q2 ⟨v2, rfl, r2, b2⟩; have hT2 := hT1.below b2)
        | (go_at_call_of 9 (Value.string a1); refine (c2 _ hT2 (by decide)).mono ?_; rintro e q3 ⟨v3, rfl, r3, b3⟩; have hT3 := hT2.below b3))
      go_ret
      exact ⟨rfl, below_trans (below_trans b1 b2) b3⟩
    · go_enter Tryd.func7, Tryd.ntmps7
      go_wp2_with (first
        | (go_at_call 8; refine (w_alive _ hT).mono ?_; rintro e q1 ⟨rfl, b1⟩; have hT1 := hT.below b1)
        | (go_at_call_of 9 (Value.string a0); refine (c1 _ hT1 (by decide)).mono ?_; rintro e q2 ⟨v2, rfl, r2, b2⟩; have hT2 := hT1.below b2)
        | (go_at_call_of 9 (Value.string a1); refine (c2 _ hT2 (by decide)).mono ?_; rintro e q3 ⟨v3, rfl, r3, b3⟩; have hT3 := hT2.below b3))
      go_ret
      exact ⟨rfl, below_trans (below_trans b1 b2) b3⟩

set_option maxRecDepth 100000 in
/-- what the walk gives, for every argument and every world that holds what is listed -/
theorem contract (H : Type) (enc : TypeId × Value → H) (W : World) (base : Nat) (args : Array Value) (ds gs : List (DataW H)) (before : List MemPlace)
    (hval0 : ∀ (j : Nat) t v, Tryd.f7.params[j]? = some t → args[j]? = some v → Value.okWide Tryd.prog W .any base t v)
    (hW : DataW.Whole enc Tryd.prog Tryd.f7.params.toList Rows.scanJoinsSpec.vars false W args.toList ds gs before)
    (hsz0 : (DataW.weightsEach Tryd.prog (Tryd.f7.params.toList ++ Rows.scanJoinsSpec.plain.varTypes Tryd.prog) (ds ++ gs)).all (· ≤ reachBytes) = true)
    (hL : laidMetH Tryd.prog Rows.scanJoinsRow.laid W) :
    Calls Tryd.prog 7 args W fun e W' => ∃ v, e = .returned v ∧ Rows.scanJoinsSpec.post enc Tryd.prog Tryd.f7 false true false false W args v W' := by
  have hval : ∀ (j : Nat) t v, Tryd.f7.params[j]? = some t → args[j]? = some v → Value.okWide Tryd.prog W .any base t v := hval0
  have hsz : (DataW.weightsEach Tryd.prog (Tryd.f7.params.toList ++ Rows.scanJoinsSpec.plain.varTypes Tryd.prog) (ds ++ gs)).all (· ≤ reachBytes) = true := hsz0
  have hT : Tab W := tab_of_laid hL
  have hW' := hW
  obtain ⟨p, q, hA0, hV, rfl, hfz, hnd⟩ := hW
  have hA : DataW.TrodAll enc Tryd.prog W 0 (fun _ => true) true Tryd.f7.params.toList args.toList ds p := hA0
  rw [Tryd.params7] at hA hval hsz
  obtain ⟨v0, vs0, d0, ds0, p0, q0, hargs, rfl, rfl, h0, r0⟩ := trodAll_cons hA
  obtain ⟨v1, vs1, d1, ds1, p1, q1, rfl, rfl, rfl, h1, r1⟩ := trodAll_cons r0
  obtain ⟨rfl, rfl, rfl⟩ := trodAll_nil r1
  obtain rfl : args = #[v0, v1] := by cases args; simp_all
  obtain ⟨rfl, rfl⟩ := trodVars_none hV
  obtain ⟨a0, rfl, rfl, rfl, w0⟩ := open_string Tryd.underlying9 (hval 0 9 v0 rfl rfl) h0
  obtain ⟨a1, rfl, rfl, rfl, w1⟩ := open_string Tryd.underlying9 (hval 1 9 v1 rfl rfl) h1
  clear hA0 hval0 hsz0
  refine (walk a0 a1 W hT w0 w1).mono fun e W' ⟨he, bel⟩ => ?_
  subst he
  exact ⟨_, rfl, _, _, _, [], _, [], hW', trodAll_mk1 (shut_bool Tryd.underlying4 _), (trodAll_cons_mk (shut_string Tryd.underlying9 w0) (trodAll_cons_mk (shut_string Tryd.underlying9 w1) trodAll_mk0)), rfl, bel.frame _, fun h => by cases h⟩

/-- a world for the witness: the settled one, the listed blocks as their initialisers lay them -/
def layBlock (b : Nat × Array Value) : Obj → Obj
  | .cells _ t frozen => .cells b.2 t frozen
  | o => o
noncomputable def laidWorld (os : Os) : World :=
  { World.holding Tryd.prog os ⟨laidObjs, #[], []⟩ with heap := laidBlocks.foldl (fun h b => h.modify b.1 (layBlock b)) (World.holding Tryd.prog os ⟨laidObjs, #[], []⟩).heap }
theorem laid_met (os : Os) : laidMet Tryd.prog Rows.scanJoinsRow.laid ((laidWorld os).forCall (fun _ _ => 0) ⟨#[], #[.string ⟨#[]⟩, .string ⟨#[]⟩], []⟩).memory :=
  laidMet_of_run' 8 (by kernel_rfl) (by kernel_rfl)
theorem reads (os : Os) {H : Type} (enc : TypeId × Value → H) : ∃ places, DataW.whole enc Tryd.prog ((laidWorld os).forCall (fun _ _ => 0) ⟨#[], #[.string ⟨#[]⟩, .string ⟨#[]⟩], []⟩).memory Tryd.f7.params.toList Rows.scanJoinsSpec.vars false #[.string ⟨#[]⟩, .string ⟨#[]⟩].toList 8 = some ([.lit (.string []), .lit (.string [])], [], places) :=
  ⟨[], by kernel_rfl⟩

set_option maxRecDepth 100000 in
theorem lifted (os : Os) (started : os.Started) (H : Type) (enc : TypeId × Value → H) (F : Stop.Interp) :
    ReturnsInHanded {} Tryd.checked os 7 .any ((OpenSpec.ofChange Rows.scanJoinsSpec).preRow enc Tryd.prog Tryd.f7 Rows.scanJoinsRow.domain false Rows.scanJoinsRow.laid) (((OpenSpec.ofChange Rows.scanJoinsSpec).at F).post enc Tryd.prog Tryd.f7 false true false false) := by
  obtain ⟨places, hx⟩ := reads os enc
  refine returnsInHanded_of_row (C := Tryd.checked) (s := OpenSpec.ofChange Rows.scanJoinsSpec) own started (by kernel_rfl) Tryd.func7
    (witness_row_at (enc := enc) (C := Tryd.checked) false (laidWorld os) #[.string ⟨#[]⟩, .string ⟨#[]⟩] rfl (by kernel_rfl) (by kernel_rfl) (by kernel_rfl)
      (OpenSpec.preRow_of_cond 8 hx (by kernel_rfl) (fun k hk => by cases hk) (by kernel_rfl) (laid_met os))) ?_
  intro W base args ds gs before hval hW _ hcnd hsz hL _ _
  exact contract H enc W base args ds gs before hval hW hsz hL

theorem said : Rows.ScanJoinsSaid :=
  OpenClaim.holds_of_cond 7 Tryd.f7 rfl rfl rfl rfl rfl rfl rfl ⟨rfl, rfl, rfl, rfl, rfl⟩ rfl rfl rfl rfl rfl (by kernel_rfl) Tryd.func7 (by kernel_rfl)
    (of_decide_eq_true (by kernel_rfl)) (by unfold Func.isWrapper; first | (rw [if_pos (by decide +kernel)]; kernel_rfl) | (rw [if_neg (by decide +kernel)]; exact ⟨rfl, rfl⟩))
    (fun os started H enc _ F => by rw [OpenClaim.pre_eq_preRow]; exact lifted os started H enc F)

theorem plain (f : FuncId) (fn : Func) (hf : Tryd.pinned.checked.prog.funcNamed "tinder/tinderlaw06.ScanJoins" = some f) (hfn : Tryd.pinned.checked.prog.funcs[f]? = some fn) :
    true = Tryd.pinned.checked.prog.looks [] ∧ ∀ (j : Nat) t, fn.params[j]? = some t → Tryd.pinned.checked.prog.wantsStandIn t = false := by
  obtain rfl : f = 7 := Option.some.inj ((show Tryd.prog.funcNamed "tinder/tinderlaw06.ScanJoins" = some 7 by kernel_rfl).symm.trans hf) |>.symm
  obtain rfl : fn = Tryd.f7 := (Option.some.inj (Tryd.func7.symm.trans hfn)).symm
  refine ⟨by kernel_rfl, fun j t ht => ?_⟩
  rw [Tryd.params7] at ht
  rcases j with _ | _ | j
  · obtain rfl : t = 9 := by simpa using ht.symm
    exact (show Tryd.prog.wantsStandIn 9 = false by kernel_rfl)
  · obtain rfl : t = 9 := by simpa using ht.symm
    exact (show Tryd.prog.wantsStandIn 9 = false by kernel_rfl)
  · simp at ht

theorem card : Rows.ScanJoinsCardSaid :=
  Claim7.holds_tied_plain_at .later [] _ _ _ _ said (fun _ h => by cases h) (by kernel_rfl) (fun _ h => by cases h) scanJoins_row_tie rfl ⟨rfl, rfl⟩ (by kernel_rfl) rfl plain (by kernel_rfl)
end Go.Proofs.YtpjkjkjoaapdiaaDoor.scanJoins
namespace Go.Proofs.YtpjkjkjoaapdiaaDoor
theorem scanJoins_holds : Rows.ScanJoinsCardSaid := scanJoins.card
#print axioms scanJoins_holds
end Go.Proofs.YtpjkjkjoaapdiaaDoor
