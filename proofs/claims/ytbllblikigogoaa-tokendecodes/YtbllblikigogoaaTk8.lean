/-
  The reader of the landed package token: a whole token.
-/
import Derived.Test.YtbllblikigogoaaTk7
namespace Go.Proofs.Ytbllblikigogoaa
open Go.ChangeShapes Go.WideShapes Go.ChangeAt Go.RowKit
set_option linter.unusedVariables false
set_option linter.unusedSimpArgs false

theorem res_row1 {P : Program} {fn : Func} {p : Tmp} {ty : TypeId} (h : fn.results = #[.cell p ty]) (tmps : Array Value) (w : World) (g : Nat) (t : TypeId) (cs : Array Value) (fr : Nat × Nat) (d : TypeDesc)
    (hp : tmps.getD p undef = .pointer (some ⟨g, 0, none⟩)) (hg : w.heap[g]? = some (.cells cs t fr))
    (hu : P.underlying ty = some d) (hd : (match d with | .struct _ | .array _ _ => true | _ => false) = true) (hi : (P.info? ty).map (·.size) = some cs.size) :
    (results fn tmps).run P w = .ok (.agg cs) w := by
  have hp' : tmps[p]?.getD undef = .pointer (some ⟨g, 0, none⟩) := by simpa using hp
  simp [results, h, hp', asAddr, run_loadVar_row w g t ty cs fr d hg hu hd hi]
theorem RdS.mem {w0 w w' : World} {R : Nat} {s : Rs} (h : RdS w0 R w s) (g : Below w.heap.size w w') : RdS w0 R w' s := by
  obtain ⟨h1, h2, ⟨v, st, hr⟩, h3, h4⟩ := h
  exact ⟨h1, h2.trans (g.mono h2.size), ⟨v, st.below g, hr⟩, h3, h4⟩
theorem RdS.set {w0 w : World} {R : Nat} {s : Rs} (h : RdS w0 R w s) (g j : Nat) (u : Value) (hg : w0.heap.size ≤ g) (hne : ¬ R = g) : RdS w0 R (w.setCell ⟨g, j, none⟩ u) s := by
  obtain ⟨h1, h2, ⟨v, st, hr⟩, h3, h4⟩ := h
  exact ⟨h1, below_set h2 g j u hg, ⟨v, st.other j u hne, hr⟩, h3, h4⟩
theorem gn_set {w w' : World} {R : Nat} (h : w.grownBy w' (some R)) (g j : Nat) (u : Value) (hg : w.heap.size ≤ g) : w.grownBy (w'.setCell ⟨g, j, none⟩ u) (some R) :=
  ⟨h.os, h.tape, h.output, by simpa [World.setCell] using h.size, fun k hk e => by rw [← h.block k hk e]; exact Below.heap_setCell _ _ _ k (fun e2 => by have : k = g := e2; omega)⟩
theorem RdS.lt {w0 w : World} {R : Nat} {s : Rs} (h : RdS w0 R w s) : R < w.heap.size := by
  obtain ⟨_, _, ⟨v, st, _⟩, _, _⟩ := h
  unfold Stands at st
  exact (Array.getElem?_eq_some_iff.1 st).1
theorem co_bd (s : Rs) (hb : bytesL s.1) : 0 ≤ (coP s).1 ∧ (coP s).1 < 65536 := by
  have h1 := nu_bd1 s hb
  have h2 := nu_bd1 (nuP 1 s).2 (tk_bytes 1 s hb).2
  unfold coP
  split
  · omega
  · rename_i hc
    simp [cdd] at hc
    simp only
    omega
theorem set4 {w : World} {b : Nat} {z0 z1 z2 z3 : Value} {T : TypeId} (h : Stands w b #[z0, z1, z2, z3] T) (a0 a1 a2 a3 : Value) :
    Stands ((((w.setCell ⟨b, 0, none⟩ a0).setCell ⟨b, 1, none⟩ a1).setCell ⟨b, 2, none⟩ a2).setCell ⟨b, 3, none⟩ a3) b #[a0, a1, a2, a3] T := by
  have h4 := (((h.set 0 a0).set 1 a1).set 2 a2).set 3 a3
  simpa only [List.setIfInBounds_toArray, List.set_cons_zero, List.set_cons_succ] using h4

set_option maxHeartbeats 4000000 in
set_option maxRecDepth 100000 in
theorem w_token0 (w0 : World) (R : Nat) (s : Rs) (wide : Bool) (w : World) (h : RdS w0 R w s) (c : Int) (σ : Rs) (hc : coP s = (c, σ)) (hk : bhF c = 0) (c0 : 0 ≤ c) (c1 : c < 65536) :
    Calls Try.prog 22 #[.pointer (some ⟨R, 0, none⟩), .bool wide] w fun e w' => e = .returned (.agg (tqC (tbP 0 c wide σ).1).toArray) ∧ RdS w0 R w' (tbP 0 c wide σ).2 ∧ w.grownBy w' (some R) := by
  have bA := box_below w (.cells #[.int .i64 0, .int .u32 0, .string ⟨#[]⟩, .int .i64 0] 37)
  have sA := stands_new w #[.int .i64 0, .int .u32 0, .string ⟨#[]⟩, .int .i64 0] 37
  have hA := size_al w (.cells #[.int .i64 0, .int .u32 0, .string ⟨#[]⟩, .int .i64 0] 37)
  have hRl := h.lt
  have hlow := h.low
  have hw0 := h.below.size
  have cC := w_code w0 R s _ (h.mem bA)
  rw [hc] at cC
  have cB := fun w => w_behind c w
  rw [hk] at cB
  clear hc hk
  go_enter Try.func22, Try.ntmps22
  go_wp2_with (first
    | (go_at_call 25; refine (cB _).mono ?_; rintro e q ⟨rfl, hw⟩; obtain rfl := hw.symm)
    | (go_at_call 33; refine cC.mono ?_; rintro e w1 ⟨rfl, s1, g1⟩; have hz1 := g1.size; have sA1 := sA.grown g1 (by simp; omega); have bB := box_below w1 (.cells #[.int .i64 c, .int .u32 0, .string ⟨#[]⟩, .int .i64 0] 37); have sB := stands_new w1 #[.int .i64 c, .int .u32 0, .string ⟨#[]⟩, .int .i64 0] 37; have s2 := s1.mem bB; have sA2 := sA1.below bB; have hR1 := s1.lt; have hne : ¬ w1.heap.size = w.heap.size := (by omega); have y0 := sB.cell 0 _ rfl; have y1 := sB.cell 1 _ rfl; have y2 := sB.cell 2 _ rfl; have y3 := sB.cell 3 _ rfl; have u0 := sA2.cell 0 _ rfl; have u1 := sA2.cell 1 _ rfl; have u2 := sA2.cell 2 _ rfl; have u3 := sA2.cell 3 _ rfl; have t0 := sA2.free 0; have t1 := sA2.free 1; have t2 := sA2.free 2; have t3 := sA2.free 3))
  have g1' := (set4 sA2 (.int .i64 c) (.int .u32 0) (.string ⟨#[]⟩) (.int .i64 0))
  refine bodyPost_ret (res_row1 rfl _ _ w.heap.size 37 _ (0, 0) _ rfl g1' Try.underlying37 rfl (show _ = some 4 by kernel_rfl)) rfl ?_
  refine ⟨rfl, ?_, ?_⟩
  · exact (((s2.set _ 0 _ hw0 (by omega)).set _ 1 _ hw0 (by omega)).set _ 2 _ hw0 (by omega)).set _ 3 _ hw0 (by omega)
  · exact gn_set (gn_set (gn_set (gn_set (g_trans (g_below R bA) (g_trans g1 (g_below R bB))) _ 0 _ (Nat.le_refl _)) _ 1 _ (Nat.le_refl _)) _ 2 _ (Nat.le_refl _)) _ 3 _ (Nat.le_refl _)

set_option maxHeartbeats 4000000 in
set_option maxRecDepth 100000 in
theorem w_token1 (w0 : World) (R : Nat) (s : Rs) (wide : Bool) (w : World) (h : RdS w0 R w s) (c : Int) (σ : Rs) (hc : coP s = (c, σ)) (hk : bhF c = 1) (c0 : 0 ≤ c) (c1 : c < 65536) :
    Calls Try.prog 22 #[.pointer (some ⟨R, 0, none⟩), .bool wide] w fun e w' => e = .returned (.agg (tqC (tbP 1 c wide σ).1).toArray) ∧ RdS w0 R w' (tbP 1 c wide σ).2 ∧ w.grownBy w' (some R) := by
  have bA := box_below w (.cells #[.int .i64 0, .int .u32 0, .string ⟨#[]⟩, .int .i64 0] 37)
  have sA := stands_new w #[.int .i64 0, .int .u32 0, .string ⟨#[]⟩, .int .i64 0] 37
  have hA := size_al w (.cells #[.int .i64 0, .int .u32 0, .string ⟨#[]⟩, .int .i64 0] 37)
  have hRl := h.lt
  have hlow := h.low
  have hw0 := h.below.size
  have cC := w_code w0 R s _ (h.mem bA)
  rw [hc] at cC
  have cB := fun w => w_behind c w
  rw [hk] at cB
  clear hc hk
  have k0 := fun w h => w_number w0 R σ 4 w h (by omega)
  obtain ⟨a5, hv0⟩ : ∃ x, (nuP 4 σ).1 = x := ⟨_, rfl⟩
  obtain ⟨τ0, hs0⟩ : ∃ x, (nuP 4 σ).2 = x := ⟨_, rfl⟩
  simp only [hv0, hs0] at k0
  have HV : Hid ((nuP 4 σ).1 = a5 ∧ (nuP 4 σ).2 = τ0) := ⟨hv0, hs0⟩
  have HT : tbP 1 c wide σ = (⟨c, a5, [], 0⟩, τ0) := by simp only [tbP, hv0, hs0]
  rw [HT]
  clear HT hv0 hs0
  go_enter Try.func22, Try.ntmps22
  go_wp2_with (first
    | (go_at_call 34; refine (k0 _ s2).mono ?_; rintro e w3 ⟨rfl, r3, g3⟩; have sA3 := sA2.grown g3 (by simp; omega); have sB3 := sB.grown g3 (by simp; omega); have z3 := g3.size; have fB3 := sB3.free 1; have y30 := sB3.cell 0 _ rfl; have u30 := sA3.cell 0 _ rfl; have t30 := sA3.free 0; have y31 := sB3.cell 1 _ rfl; have u31 := sA3.cell 1 _ rfl; have t31 := sA3.free 1; have y32 := sB3.cell 2 _ rfl; have u32 := sA3.cell 2 _ rfl; have t32 := sA3.free 2; have y33 := sB3.cell 3 _ rfl; have u33 := sA3.cell 3 _ rfl; have t33 := sA3.free 3; have q3 := r3.set w1.heap.size 1 (.int .u32 a5) (by omega) (by omega); have qA3 := sA3.other 1 (.int .u32 a5) (show ¬ w.heap.size = w1.heap.size by omega); have qB3 := sB3.set 1 (.int .u32 a5); have hsz3 : (w3.setCell ⟨w1.heap.size, 1, none⟩ (.int .u32 a5)).heap.size = w3.heap.size := (by simp [World.setCell]))
    | (go_at_call 25; refine (cB _).mono ?_; rintro e q ⟨rfl, hw⟩; obtain rfl := hw.symm)
    | (go_at_call 33; refine cC.mono ?_; rintro e w1 ⟨rfl, s1, g1⟩; have hz1 := g1.size; have sA1 := sA.grown g1 (by simp; omega); have bB := box_below w1 (.cells #[.int .i64 c, .int .u32 0, .string ⟨#[]⟩, .int .i64 0] 37); have sB := stands_new w1 #[.int .i64 c, .int .u32 0, .string ⟨#[]⟩, .int .i64 0] 37; have s2 := s1.mem bB; have sA2 := sA1.below bB; have hR1 := s1.lt; have hne : ¬ w1.heap.size = w.heap.size := (by omega); have hsB : (w1.alloc (.cells #[.int .i64 c, .int .u32 0, .string ⟨#[]⟩, .int .i64 0] 37)).heap.size = w1.heap.size + 1 := size_al _ _; have yy := sB.cell 0 _ rfl))
  have g9 := (set4 qA3 (.int .i64 c) (.int .u32 a5) (.string ⟨#[]⟩) (.int .i64 0))
  refine bodyPost_ret (res_row1 rfl _ _ w.heap.size 37 _ (0, 0) _ rfl g9 Try.underlying37 rfl (show _ = some 4 by kernel_rfl)) rfl ?_
  refine ⟨rfl, ?_, ?_⟩
  · exact (((q3.set _ 0 _ hw0 (by omega)).set _ 1 _ hw0 (by omega)).set _ 2 _ hw0 (by omega)).set _ 3 _ hw0 (by omega)
  · exact gn_set (gn_set (gn_set (gn_set (gn_set (g_trans (g_trans (g_below R bA) (g_trans g1 (g_below R bB))) g3) w1.heap.size 1 (.int .u32 a5) (by omega)) _ 0 _ (Nat.le_refl _)) _ 1 _ (Nat.le_refl _)) _ 2 _ (Nat.le_refl _)) _ 3 _ (Nat.le_refl _)

set_option maxHeartbeats 4000000 in
set_option maxRecDepth 100000 in
theorem w_token2 (w0 : World) (R : Nat) (s : Rs) (wide : Bool) (w : World) (h : RdS w0 R w s) (c : Int) (σ : Rs) (hc : coP s = (c, σ)) (hk : bhF c = 2) (c0 : 0 ≤ c) (c1 : c < 65536) :
    Calls Try.prog 22 #[.pointer (some ⟨R, 0, none⟩), .bool wide] w fun e w' => e = .returned (.agg (tqC (tbP 2 c wide σ).1).toArray) ∧ RdS w0 R w' (tbP 2 c wide σ).2 ∧ w.grownBy w' (some R) := by
  have bA := box_below w (.cells #[.int .i64 0, .int .u32 0, .string ⟨#[]⟩, .int .i64 0] 37)
  have sA := stands_new w #[.int .i64 0, .int .u32 0, .string ⟨#[]⟩, .int .i64 0] 37
  have hA := size_al w (.cells #[.int .i64 0, .int .u32 0, .string ⟨#[]⟩, .int .i64 0] 37)
  have hRl := h.lt
  have hlow := h.low
  have hw0 := h.below.size
  have cC := w_code w0 R s _ (h.mem bA)
  rw [hc] at cC
  have cB := fun w => w_behind c w
  rw [hk] at cB
  clear hc hk
  have k0 := fun w h => w_code w0 R σ w h
  have d0 := co_bd σ
  obtain ⟨a5, hv0⟩ : ∃ x, (coP σ).1 = x := ⟨_, rfl⟩
  obtain ⟨τ0, hs0⟩ : ∃ x, (coP σ).2 = x := ⟨_, rfl⟩
  simp only [hv0, hs0] at k0 d0
  have HV : Hid ((coP σ).1 = a5 ∧ (coP σ).2 = τ0) := ⟨hv0, hs0⟩
  have HT : tbP 2 c wide σ = (⟨c, a5, [], 0⟩, τ0) := by simp only [tbP, hv0, hs0]
  rw [HT]
  clear HT hv0 hs0
  go_enter Try.func22, Try.ntmps22
  go_wp2_with (first
    | (go_at_call 33; refine (k0 _ s2).mono ?_; rintro e w3 ⟨rfl, r3, g3⟩; have sA3 := sA2.grown g3 (by simp; omega); have sB3 := sB.grown g3 (by simp; omega); have z3 := g3.size; have fB3 := sB3.free 1; have y30 := sB3.cell 0 _ rfl; have u30 := sA3.cell 0 _ rfl; have t30 := sA3.free 0; have y31 := sB3.cell 1 _ rfl; have u31 := sA3.cell 1 _ rfl; have t31 := sA3.free 1; have y32 := sB3.cell 2 _ rfl; have u32 := sA3.cell 2 _ rfl; have t32 := sA3.free 2; have y33 := sB3.cell 3 _ rfl; have u33 := sA3.cell 3 _ rfl; have t33 := sA3.free 3; obtain ⟨d1, d2⟩ := d0 s2.bytes; have hwr : IntKind.u32.wrap a5 = a5 := (by rw [IntKind.wrap_u32]; omega); have q3 := r3.set w1.heap.size 1 (.int .u32 a5) (by omega) (by omega); have qA3 := sA3.other 1 (.int .u32 a5) (show ¬ w.heap.size = w1.heap.size by omega); have qB3 := sB3.set 1 (.int .u32 a5); have hsz3 : (w3.setCell ⟨w1.heap.size, 1, none⟩ (.int .u32 a5)).heap.size = w3.heap.size := (by simp [World.setCell]))
    | (go_at_call 25; refine (cB _).mono ?_; rintro e q ⟨rfl, hw⟩; obtain rfl := hw.symm)
    | (go_at_call 33; refine cC.mono ?_; rintro e w1 ⟨rfl, s1, g1⟩; have hz1 := g1.size; have sA1 := sA.grown g1 (by simp; omega); have bB := box_below w1 (.cells #[.int .i64 c, .int .u32 0, .string ⟨#[]⟩, .int .i64 0] 37); have sB := stands_new w1 #[.int .i64 c, .int .u32 0, .string ⟨#[]⟩, .int .i64 0] 37; have s2 := s1.mem bB; have sA2 := sA1.below bB; have hR1 := s1.lt; have hne : ¬ w1.heap.size = w.heap.size := (by omega); have hsB : (w1.alloc (.cells #[.int .i64 c, .int .u32 0, .string ⟨#[]⟩, .int .i64 0] 37)).heap.size = w1.heap.size + 1 := size_al _ _; have yy := sB.cell 0 _ rfl))
  have g9 := (set4 qA3 (.int .i64 c) (.int .u32 a5) (.string ⟨#[]⟩) (.int .i64 0))
  refine bodyPost_ret (res_row1 rfl _ _ w.heap.size 37 _ (0, 0) _ rfl g9 Try.underlying37 rfl (show _ = some 4 by kernel_rfl)) rfl ?_
  refine ⟨rfl, ?_, ?_⟩
  · exact (((q3.set _ 0 _ hw0 (by omega)).set _ 1 _ hw0 (by omega)).set _ 2 _ hw0 (by omega)).set _ 3 _ hw0 (by omega)
  · exact gn_set (gn_set (gn_set (gn_set (gn_set (g_trans (g_trans (g_below R bA) (g_trans g1 (g_below R bB))) g3) w1.heap.size 1 (.int .u32 a5) (by omega)) _ 0 _ (Nat.le_refl _)) _ 1 _ (Nat.le_refl _)) _ 2 _ (Nat.le_refl _)) _ 3 _ (Nat.le_refl _)

set_option maxHeartbeats 4000000 in
set_option maxRecDepth 100000 in
theorem w_token3 (w0 : World) (R : Nat) (s : Rs) (wide : Bool) (w : World) (h : RdS w0 R w s) (c : Int) (σ : Rs) (hc : coP s = (c, σ)) (hk : bhF c = 3) (c0 : 0 ≤ c) (c1 : c < 65536) :
    Calls Try.prog 22 #[.pointer (some ⟨R, 0, none⟩), .bool wide] w fun e w' => e = .returned (.agg (tqC (tbP 3 c wide σ).1).toArray) ∧ RdS w0 R w' (tbP 3 c wide σ).2 ∧ w.grownBy w' (some R) := by
  have bA := box_below w (.cells #[.int .i64 0, .int .u32 0, .string ⟨#[]⟩, .int .i64 0] 37)
  have sA := stands_new w #[.int .i64 0, .int .u32 0, .string ⟨#[]⟩, .int .i64 0] 37
  have hA := size_al w (.cells #[.int .i64 0, .int .u32 0, .string ⟨#[]⟩, .int .i64 0] 37)
  have hRl := h.lt
  have hlow := h.low
  have hw0 := h.below.size
  have cC := w_code w0 R s _ (h.mem bA)
  rw [hc] at cC
  have cB := fun w => w_behind c w
  rw [hk] at cB
  clear hc hk
  have k0 := fun w h => w_text w0 R σ w h
  obtain ⟨a5, hv0⟩ : ∃ x, (txQ σ).1 = x := ⟨_, rfl⟩
  obtain ⟨τ0, hs0⟩ : ∃ x, (txQ σ).2 = x := ⟨_, rfl⟩
  simp only [hv0, hs0] at k0
  have HV : Hid ((txQ σ).1 = a5 ∧ (txQ σ).2 = τ0) := ⟨hv0, hs0⟩
  have HT : tbP 3 c wide σ = (⟨c, 0, a5, 0⟩, τ0) := by simp only [tbP, hv0, hs0]
  rw [HT]
  clear HT hv0 hs0
  go_enter Try.func22, Try.ntmps22
  go_wp2_with (first
    | (go_at_call 35; refine (k0 _ s2).mono ?_; rintro e w3 ⟨rfl, r3, g3⟩; have sA3 := sA2.grown g3 (by simp; omega); have sB3 := sB.grown g3 (by simp; omega); have z3 := g3.size; have fB3 := sB3.free 2; have y30 := sB3.cell 0 _ rfl; have u30 := sA3.cell 0 _ rfl; have t30 := sA3.free 0; have y31 := sB3.cell 1 _ rfl; have u31 := sA3.cell 1 _ rfl; have t31 := sA3.free 1; have y32 := sB3.cell 2 _ rfl; have u32 := sA3.cell 2 _ rfl; have t32 := sA3.free 2; have y33 := sB3.cell 3 _ rfl; have u33 := sA3.cell 3 _ rfl; have t33 := sA3.free 3; have q3 := r3.set w1.heap.size 2 (.string (strOfNums a5)) (by omega) (by omega); have qA3 := sA3.other 2 (.string (strOfNums a5)) (show ¬ w.heap.size = w1.heap.size by omega); have qB3 := sB3.set 2 (.string (strOfNums a5)); have hsz3 : (w3.setCell ⟨w1.heap.size, 2, none⟩ (.string (strOfNums a5))).heap.size = w3.heap.size := (by simp [World.setCell]))
    | (go_at_call 25; refine (cB _).mono ?_; rintro e q ⟨rfl, hw⟩; obtain rfl := hw.symm)
    | (go_at_call 33; refine cC.mono ?_; rintro e w1 ⟨rfl, s1, g1⟩; have hz1 := g1.size; have sA1 := sA.grown g1 (by simp; omega); have bB := box_below w1 (.cells #[.int .i64 c, .int .u32 0, .string ⟨#[]⟩, .int .i64 0] 37); have sB := stands_new w1 #[.int .i64 c, .int .u32 0, .string ⟨#[]⟩, .int .i64 0] 37; have s2 := s1.mem bB; have sA2 := sA1.below bB; have hR1 := s1.lt; have hne : ¬ w1.heap.size = w.heap.size := (by omega); have hsB : (w1.alloc (.cells #[.int .i64 c, .int .u32 0, .string ⟨#[]⟩, .int .i64 0] 37)).heap.size = w1.heap.size + 1 := size_al _ _; have yy := sB.cell 0 _ rfl))
  have g9 := (set4 qA3 (.int .i64 c) (.int .u32 0) (.string (strOfNums a5)) (.int .i64 0))
  refine bodyPost_ret (res_row1 rfl _ _ w.heap.size 37 _ (0, 0) _ rfl g9 Try.underlying37 rfl (show _ = some 4 by kernel_rfl)) rfl ?_
  refine ⟨rfl, ?_, ?_⟩
  · exact (((q3.set _ 0 _ hw0 (by omega)).set _ 1 _ hw0 (by omega)).set _ 2 _ hw0 (by omega)).set _ 3 _ hw0 (by omega)
  · exact gn_set (gn_set (gn_set (gn_set (gn_set (g_trans (g_trans (g_below R bA) (g_trans g1 (g_below R bB))) g3) w1.heap.size 2 (.string (strOfNums a5)) (by omega)) _ 0 _ (Nat.le_refl _)) _ 1 _ (Nat.le_refl _)) _ 2 _ (Nat.le_refl _)) _ 3 _ (Nat.le_refl _)

set_option maxHeartbeats 4000000 in
set_option maxRecDepth 100000 in
theorem w_token4 (w0 : World) (R : Nat) (s : Rs) (wide : Bool) (w : World) (h : RdS w0 R w s) (c : Int) (σ : Rs) (hc : coP s = (c, σ)) (hk : bhF c = 4) (c0 : 0 ≤ c) (c1 : c < 65536) :
    Calls Try.prog 22 #[.pointer (some ⟨R, 0, none⟩), .bool wide] w fun e w' => e = .returned (.agg (tqC (tbP 4 c wide σ).1).toArray) ∧ RdS w0 R w' (tbP 4 c wide σ).2 ∧ w.grownBy w' (some R) := by
  have bA := box_below w (.cells #[.int .i64 0, .int .u32 0, .string ⟨#[]⟩, .int .i64 0] 37)
  have sA := stands_new w #[.int .i64 0, .int .u32 0, .string ⟨#[]⟩, .int .i64 0] 37
  have hA := size_al w (.cells #[.int .i64 0, .int .u32 0, .string ⟨#[]⟩, .int .i64 0] 37)
  have hRl := h.lt
  have hlow := h.low
  have hw0 := h.below.size
  have cC := w_code w0 R s _ (h.mem bA)
  rw [hc] at cC
  have cB := fun w => w_behind c w
  rw [hk] at cB
  clear hc hk
  have k0 := fun w h => w_offset w0 R σ wide w h
  obtain ⟨a5, hv0⟩ : ∃ x, (oqP wide σ).1 = x := ⟨_, rfl⟩
  obtain ⟨τ0, hs0⟩ : ∃ x, (oqP wide σ).2 = x := ⟨_, rfl⟩
  simp only [hv0, hs0] at k0
  have HV : Hid ((oqP wide σ).1 = a5 ∧ (oqP wide σ).2 = τ0) := ⟨hv0, hs0⟩
  have HT : tbP 4 c wide σ = (⟨c, 0, [], a5⟩, τ0) := by simp only [tbP, hv0, hs0]
  rw [HT]
  clear HT hv0 hs0
  go_enter Try.func22, Try.ntmps22
  go_wp2_with (first
    | (go_at_call 36; refine (k0 _ s2).mono ?_; rintro e w3 ⟨rfl, r3, g3⟩; have sA3 := sA2.grown g3 (by simp; omega); have sB3 := sB.grown g3 (by simp; omega); have z3 := g3.size; have fB3 := sB3.free 3; have y30 := sB3.cell 0 _ rfl; have u30 := sA3.cell 0 _ rfl; have t30 := sA3.free 0; have y31 := sB3.cell 1 _ rfl; have u31 := sA3.cell 1 _ rfl; have t31 := sA3.free 1; have y32 := sB3.cell 2 _ rfl; have u32 := sA3.cell 2 _ rfl; have t32 := sA3.free 2; have y33 := sB3.cell 3 _ rfl; have u33 := sA3.cell 3 _ rfl; have t33 := sA3.free 3; have q3 := r3.set w1.heap.size 3 (.int .i64 a5) (by omega) (by omega); have qA3 := sA3.other 3 (.int .i64 a5) (show ¬ w.heap.size = w1.heap.size by omega); have qB3 := sB3.set 3 (.int .i64 a5); have hsz3 : (w3.setCell ⟨w1.heap.size, 3, none⟩ (.int .i64 a5)).heap.size = w3.heap.size := (by simp [World.setCell]))
    | (go_at_call 25; refine (cB _).mono ?_; rintro e q ⟨rfl, hw⟩; obtain rfl := hw.symm)
    | (go_at_call 33; refine cC.mono ?_; rintro e w1 ⟨rfl, s1, g1⟩; have hz1 := g1.size; have sA1 := sA.grown g1 (by simp; omega); have bB := box_below w1 (.cells #[.int .i64 c, .int .u32 0, .string ⟨#[]⟩, .int .i64 0] 37); have sB := stands_new w1 #[.int .i64 c, .int .u32 0, .string ⟨#[]⟩, .int .i64 0] 37; have s2 := s1.mem bB; have sA2 := sA1.below bB; have hR1 := s1.lt; have hne : ¬ w1.heap.size = w.heap.size := (by omega); have hsB : (w1.alloc (.cells #[.int .i64 c, .int .u32 0, .string ⟨#[]⟩, .int .i64 0] 37)).heap.size = w1.heap.size + 1 := size_al _ _; have yy := sB.cell 0 _ rfl))
  have g9 := (set4 qA3 (.int .i64 c) (.int .u32 0) (.string ⟨#[]⟩) (.int .i64 a5))
  refine bodyPost_ret (res_row1 rfl _ _ w.heap.size 37 _ (0, 0) _ rfl g9 Try.underlying37 rfl (show _ = some 4 by kernel_rfl)) rfl ?_
  refine ⟨rfl, ?_, ?_⟩
  · exact (((q3.set _ 0 _ hw0 (by omega)).set _ 1 _ hw0 (by omega)).set _ 2 _ hw0 (by omega)).set _ 3 _ hw0 (by omega)
  · exact gn_set (gn_set (gn_set (gn_set (gn_set (g_trans (g_trans (g_below R bA) (g_trans g1 (g_below R bB))) g3) w1.heap.size 3 (.int .i64 a5) (by omega)) _ 0 _ (Nat.le_refl _)) _ 1 _ (Nat.le_refl _)) _ 2 _ (Nat.le_refl _)) _ 3 _ (Nat.le_refl _)

set_option maxHeartbeats 4000000 in
set_option maxRecDepth 100000 in
theorem w_token5 (w0 : World) (R : Nat) (s : Rs) (wide : Bool) (w : World) (h : RdS w0 R w s) (c : Int) (σ : Rs) (hc : coP s = (c, σ)) (hk : bhF c = 5) (c0 : 0 ≤ c) (c1 : c < 65536) :
    Calls Try.prog 22 #[.pointer (some ⟨R, 0, none⟩), .bool wide] w fun e w' => e = .returned (.agg (tqC (tbP 5 c wide σ).1).toArray) ∧ RdS w0 R w' (tbP 5 c wide σ).2 ∧ w.grownBy w' (some R) := by
  have bA := box_below w (.cells #[.int .i64 0, .int .u32 0, .string ⟨#[]⟩, .int .i64 0] 37)
  have sA := stands_new w #[.int .i64 0, .int .u32 0, .string ⟨#[]⟩, .int .i64 0] 37
  have hA := size_al w (.cells #[.int .i64 0, .int .u32 0, .string ⟨#[]⟩, .int .i64 0] 37)
  have hRl := h.lt
  have hlow := h.low
  have hw0 := h.below.size
  have cC := w_code w0 R s _ (h.mem bA)
  rw [hc] at cC
  have cB := fun w => w_behind c w
  rw [hk] at cB
  clear hc hk
  have k0 := fun w h => w_number w0 R σ 2 w h (by omega)
  obtain ⟨a5, hv0⟩ : ∃ x, (nuP 2 σ).1 = x := ⟨_, rfl⟩
  obtain ⟨τ0, hs0⟩ : ∃ x, (nuP 2 σ).2 = x := ⟨_, rfl⟩
  simp only [hv0, hs0] at k0
  have HV : Hid ((nuP 2 σ).1 = a5 ∧ (nuP 2 σ).2 = τ0) := ⟨hv0, hs0⟩
  have HT : tbP 5 c wide σ = (⟨c, a5, [], 0⟩, τ0) := by simp only [tbP, hv0, hs0]
  rw [HT]
  clear HT hv0 hs0
  go_enter Try.func22, Try.ntmps22
  go_wp2_with (first
    | (go_at_call 34; refine (k0 _ s2).mono ?_; rintro e w3 ⟨rfl, r3, g3⟩; have sA3 := sA2.grown g3 (by simp; omega); have sB3 := sB.grown g3 (by simp; omega); have z3 := g3.size; have fB3 := sB3.free 1; have y30 := sB3.cell 0 _ rfl; have u30 := sA3.cell 0 _ rfl; have t30 := sA3.free 0; have y31 := sB3.cell 1 _ rfl; have u31 := sA3.cell 1 _ rfl; have t31 := sA3.free 1; have y32 := sB3.cell 2 _ rfl; have u32 := sA3.cell 2 _ rfl; have t32 := sA3.free 2; have y33 := sB3.cell 3 _ rfl; have u33 := sA3.cell 3 _ rfl; have t33 := sA3.free 3; have q3 := r3.set w1.heap.size 1 (.int .u32 a5) (by omega) (by omega); have qA3 := sA3.other 1 (.int .u32 a5) (show ¬ w.heap.size = w1.heap.size by omega); have qB3 := sB3.set 1 (.int .u32 a5); have hsz3 : (w3.setCell ⟨w1.heap.size, 1, none⟩ (.int .u32 a5)).heap.size = w3.heap.size := (by simp [World.setCell]))
    | (go_at_call 25; refine (cB _).mono ?_; rintro e q ⟨rfl, hw⟩; obtain rfl := hw.symm)
    | (go_at_call 33; refine cC.mono ?_; rintro e w1 ⟨rfl, s1, g1⟩; have hz1 := g1.size; have sA1 := sA.grown g1 (by simp; omega); have bB := box_below w1 (.cells #[.int .i64 c, .int .u32 0, .string ⟨#[]⟩, .int .i64 0] 37); have sB := stands_new w1 #[.int .i64 c, .int .u32 0, .string ⟨#[]⟩, .int .i64 0] 37; have s2 := s1.mem bB; have sA2 := sA1.below bB; have hR1 := s1.lt; have hne : ¬ w1.heap.size = w.heap.size := (by omega); have hsB : (w1.alloc (.cells #[.int .i64 c, .int .u32 0, .string ⟨#[]⟩, .int .i64 0] 37)).heap.size = w1.heap.size + 1 := size_al _ _; have yy := sB.cell 0 _ rfl))
  have g9 := (set4 qA3 (.int .i64 c) (.int .u32 a5) (.string ⟨#[]⟩) (.int .i64 0))
  refine bodyPost_ret (res_row1 rfl _ _ w.heap.size 37 _ (0, 0) _ rfl g9 Try.underlying37 rfl (show _ = some 4 by kernel_rfl)) rfl ?_
  refine ⟨rfl, ?_, ?_⟩
  · exact (((q3.set _ 0 _ hw0 (by omega)).set _ 1 _ hw0 (by omega)).set _ 2 _ hw0 (by omega)).set _ 3 _ hw0 (by omega)
  · exact gn_set (gn_set (gn_set (gn_set (gn_set (g_trans (g_trans (g_below R bA) (g_trans g1 (g_below R bB))) g3) w1.heap.size 1 (.int .u32 a5) (by omega)) _ 0 _ (Nat.le_refl _)) _ 1 _ (Nat.le_refl _)) _ 2 _ (Nat.le_refl _)) _ 3 _ (Nat.le_refl _)

set_option maxHeartbeats 4000000 in
set_option maxRecDepth 100000 in
theorem w_token6 (w0 : World) (R : Nat) (s : Rs) (wide : Bool) (w : World) (h : RdS w0 R w s) (c : Int) (σ : Rs) (hc : coP s = (c, σ)) (hk : bhF c = 6) (c0 : 0 ≤ c) (c1 : c < 65536) :
    Calls Try.prog 22 #[.pointer (some ⟨R, 0, none⟩), .bool wide] w fun e w' => e = .returned (.agg (tqC (tbP 6 c wide σ).1).toArray) ∧ RdS w0 R w' (tbP 6 c wide σ).2 ∧ w.grownBy w' (some R) := by
  have bA := box_below w (.cells #[.int .i64 0, .int .u32 0, .string ⟨#[]⟩, .int .i64 0] 37)
  have sA := stands_new w #[.int .i64 0, .int .u32 0, .string ⟨#[]⟩, .int .i64 0] 37
  have hA := size_al w (.cells #[.int .i64 0, .int .u32 0, .string ⟨#[]⟩, .int .i64 0] 37)
  have hRl := h.lt
  have hlow := h.low
  have hw0 := h.below.size
  have cC := w_code w0 R s _ (h.mem bA)
  rw [hc] at cC
  have cB := fun w => w_behind c w
  rw [hk] at cB
  clear hc hk
  have k0 := fun w h => w_text w0 R σ w h
  obtain ⟨a5, hv0⟩ : ∃ x, (txQ σ).1 = x := ⟨_, rfl⟩
  obtain ⟨τ0, hs0⟩ : ∃ x, (txQ σ).2 = x := ⟨_, rfl⟩
  simp only [hv0, hs0] at k0
  have k1 := fun w h => w_number w0 R τ0 2 w h (by omega)
  obtain ⟨a6, hv1⟩ : ∃ x, (nuP 2 τ0).1 = x := ⟨_, rfl⟩
  obtain ⟨τ1, hs1⟩ : ∃ x, (nuP 2 τ0).2 = x := ⟨_, rfl⟩
  simp only [hv1, hs1] at k1
  have HV : Hid ((txQ σ).1 = a5 ∧ (txQ σ).2 = τ0 ∧ (nuP 2 τ0).1 = a6 ∧ (nuP 2 τ0).2 = τ1) := ⟨hv0, hs0, hv1, hs1⟩
  have HT : tbP 6 c wide σ = (⟨c, a6, a5, 0⟩, τ1) := by simp only [tbP, hv0, hs0, hv1, hs1]
  rw [HT]
  clear HT hv0 hs0 hv1 hs1
  go_enter Try.func22, Try.ntmps22
  go_wp2_with (first
    | (go_at_call 34; refine (k1 _ q3).mono ?_; rintro e w4 ⟨rfl, r4, g4⟩; have sA4 := qA3.grown g4 (by simp; omega); have sB4 := qB3.grown g4 (by simp; omega); have z4 := g4.size; have fB4 := sB4.free 1; have y40 := sB4.cell 0 _ rfl; have u40 := sA4.cell 0 _ rfl; have t40 := sA4.free 0; have y41 := sB4.cell 1 _ rfl; have u41 := sA4.cell 1 _ rfl; have t41 := sA4.free 1; have y42 := sB4.cell 2 _ rfl; have u42 := sA4.cell 2 _ rfl; have t42 := sA4.free 2; have y43 := sB4.cell 3 _ rfl; have u43 := sA4.cell 3 _ rfl; have t43 := sA4.free 3; have q4 := r4.set w1.heap.size 1 (.int .u32 a6) (by omega) (by omega); have qA4 := sA4.other 1 (.int .u32 a6) (show ¬ w.heap.size = w1.heap.size by omega); have qB4 := sB4.set 1 (.int .u32 a6); have hsz4 : (w4.setCell ⟨w1.heap.size, 1, none⟩ (.int .u32 a6)).heap.size = w4.heap.size := (by simp [World.setCell]))
    | (go_at_call 35; refine (k0 _ s2).mono ?_; rintro e w3 ⟨rfl, r3, g3⟩; have sA3 := sA2.grown g3 (by simp; omega); have sB3 := sB.grown g3 (by simp; omega); have z3 := g3.size; have fB3 := sB3.free 2; have y30 := sB3.cell 0 _ rfl; have u30 := sA3.cell 0 _ rfl; have t30 := sA3.free 0; have y31 := sB3.cell 1 _ rfl; have u31 := sA3.cell 1 _ rfl; have t31 := sA3.free 1; have y32 := sB3.cell 2 _ rfl; have u32 := sA3.cell 2 _ rfl; have t32 := sA3.free 2; have y33 := sB3.cell 3 _ rfl; have u33 := sA3.cell 3 _ rfl; have t33 := sA3.free 3; have q3 := r3.set w1.heap.size 2 (.string (strOfNums a5)) (by omega) (by omega); have qA3 := sA3.other 2 (.string (strOfNums a5)) (show ¬ w.heap.size = w1.heap.size by omega); have qB3 := sB3.set 2 (.string (strOfNums a5)); have hsz3 : (w3.setCell ⟨w1.heap.size, 2, none⟩ (.string (strOfNums a5))).heap.size = w3.heap.size := (by simp [World.setCell]))
    | (go_at_call 25; refine (cB _).mono ?_; rintro e q ⟨rfl, hw⟩; obtain rfl := hw.symm)
    | (go_at_call 33; refine cC.mono ?_; rintro e w1 ⟨rfl, s1, g1⟩; have hz1 := g1.size; have sA1 := sA.grown g1 (by simp; omega); have bB := box_below w1 (.cells #[.int .i64 c, .int .u32 0, .string ⟨#[]⟩, .int .i64 0] 37); have sB := stands_new w1 #[.int .i64 c, .int .u32 0, .string ⟨#[]⟩, .int .i64 0] 37; have s2 := s1.mem bB; have sA2 := sA1.below bB; have hR1 := s1.lt; have hne : ¬ w1.heap.size = w.heap.size := (by omega); have hsB : (w1.alloc (.cells #[.int .i64 c, .int .u32 0, .string ⟨#[]⟩, .int .i64 0] 37)).heap.size = w1.heap.size + 1 := size_al _ _; have yy := sB.cell 0 _ rfl))
  have g9 := (set4 qA4 (.int .i64 c) (.int .u32 a6) (.string (strOfNums a5)) (.int .i64 0))
  refine bodyPost_ret (res_row1 rfl _ _ w.heap.size 37 _ (0, 0) _ rfl g9 Try.underlying37 rfl (show _ = some 4 by kernel_rfl)) rfl ?_
  refine ⟨rfl, ?_, ?_⟩
  · exact (((q4.set _ 0 _ hw0 (by omega)).set _ 1 _ hw0 (by omega)).set _ 2 _ hw0 (by omega)).set _ 3 _ hw0 (by omega)
  · exact gn_set (gn_set (gn_set (gn_set (gn_set (g_trans (gn_set (g_trans (g_trans (g_below R bA) (g_trans g1 (g_below R bB))) g3) w1.heap.size 2 (.string (strOfNums a5)) (by omega)) g4) w1.heap.size 1 (.int .u32 a6) (by omega)) _ 0 _ (Nat.le_refl _)) _ 1 _ (Nat.le_refl _)) _ 2 _ (Nat.le_refl _)) _ 3 _ (Nat.le_refl _)

theorem w_token (w0 : World) (R : Nat) (s : Rs) (wide : Bool) (w : World) (h : RdS w0 R w s) :
    Calls Try.prog 22 #[.pointer (some ⟨R, 0, none⟩), .bool wide] w fun e w' => e = .returned (.agg (tqC (tokP wide s).1).toArray) ∧ RdS w0 R w' (tokP wide s).2 ∧ w.grownBy w' (some R) := by
  have hb := co_bd s h.bytes
  obtain ⟨c, σ, hc⟩ : ∃ c σ, coP s = (c, σ) := ⟨_, _, rfl⟩
  unfold tokP
  rw [hc] at hb ⊢
  have hk := bh_le c
  obtain ⟨k, hkk⟩ : ∃ k, bhF c = k := ⟨_, rfl⟩
  simp only [hkk]
  rw [hkk] at hk
  match k, hk with
  | 0, _ => exact w_token0 w0 R s wide w h c σ hc hkk hb.1 hb.2
  | 1, _ => exact w_token1 w0 R s wide w h c σ hc hkk hb.1 hb.2
  | 2, _ => exact w_token2 w0 R s wide w h c σ hc hkk hb.1 hb.2
  | 3, _ => exact w_token3 w0 R s wide w h c σ hc hkk hb.1 hb.2
  | 4, _ => exact w_token4 w0 R s wide w h c σ hc hkk hb.1 hb.2
  | 5, _ => exact w_token5 w0 R s wide w h c σ hc hkk hb.1 hb.2
  | 6, _ => exact w_token6 w0 R s wide w h c σ hc hkk hb.1 hb.2
end Go.Proofs.Ytbllblikigogoaa
