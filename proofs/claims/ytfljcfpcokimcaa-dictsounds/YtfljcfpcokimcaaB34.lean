/-
  Texts of one proof, laid one behind the other: Rdd Dp9.
-/
import Derived.Test.YtfljcfpcokimcaaB33
namespace Go.Proofs.Ytfljcfpcokimcaa
open Go.ChangeShapes Go.WideShapes Go.ChangeAt Go.RowKit
set_option linter.unusedVariables false
set_option linter.unusedSimpArgs false

/-
  Define of the document's answer.
-/
/-- a struct out of its cells, and two values besides -/
theorem results_row3 {P : Program} {fn : Func} {p a b : Tmp} {ty : TypeId} (h : fn.results = #[.cell p ty, .tmp a, .tmp b]) (tmps : Array Value) (w : World) (g : Nat) (t : TypeId) (cs : Array Value) (fr : Nat × Nat) (d : TypeDesc)
    (hp : tmps.getD p undef = .pointer (some ⟨g, 0, none⟩)) (hg : w.heap[g]? = some (.cells cs t fr))
    (hu : P.underlying ty = some d) (hd : (match d with | .struct _ | .array _ _ => true | _ => false) = true) (hi : (P.info? ty).map (·.size) = some cs.size) :
    (results fn tmps).run P w = .ok (.tuple #[.agg cs, tmps.getD a undef, tmps.getD b undef]) w := by
  have hp' : tmps[p]?.getD undef = .pointer (some ⟨g, 0, none⟩) := by simpa using hp
  simp [results, h, hp', asAddr, run_loadVar_row w g t ty cs fr d hg hu hd hi]
def nilV : Mv := ⟨.slice none 0 0, .slice none 0 0, .slice none 0 0, .slice none 0 0, .slice none 0 0, .slice none 0 0⟩
theorem own_nilM (base : Nat) (w : World) : OwM base w nilV nilM ⟨#[]⟩ :=
  ⟨World.ownsRow_nil _ _ _ _, World.ownsRow_nil _ _ _ _, OwnR.nil _ _ _ _ _, World.ownsRow_nil _ _ _ _, OwnR.nil _ _ _ _ _, OwnR.nil _ _ _ _ _, by decide +kernel⟩
theorem dfn_no1 {m : Mc} {x : Wd} (h : frmM m = false ∨ wofF x (m.words.length + 1) m.tree = false) : dfnF m x = (nilM, 0, 1) := by unfold dfnF; rw [if_pos h]
theorem dfn_no2 {m : Mc} {x : Wd} (h : ¬ (frmM m = false ∨ wofF x (m.words.length + 1) m.tree = false)) (h2 : 640 ≤ m.words.length) : dfnF m x = (nilM, 0, 22) := by unfold dfnF; rw [if_neg h, if_pos h2]

/-
  Package dict's Define.
-/
theorem frm_words {m : Mc} (h : frmM m = true) : m.words.length ≤ 640 := by
  have h6 := (frm_parts h).2.2.2.2.2.1
  unfold wdsF at h6
  simp only [Bool.and_eq_true, decide_eq_true_eq] at h6
  exact h6.1.2

set_option maxHeartbeats 4000000 in
set_option maxRecDepth 100000 in
theorem w_p9defineO (m : Mc) (v : Mv) (o : ByteArray) (x : Wd) (nm : ByteArray) (vc : Value) (w : World) (h : RdM w v m o) (z : gM m) (en : strOfNums x.1 = nm) (hc : RdO w vc x.2.2.2.2) (gx : gW x) :
    Calls Try.prog 29 #[.agg (v.cs m o), .agg #[.string nm, .int .i64 x.2.1, .int .i64 x.2.2.1, .int .u32 x.2.2.2.1, vc]] w fun e w' => ∃ v1 o1, e = .returned (.tuple #[.agg (Mv.cs v1 (dfnF m x).1 o1), .int .i64 (dfnF m x).2.1, .int .i64 (dfnF m x).2.2]) ∧ OwM w.heap.size w' v1 (dfnF m x).1 o1 ∧ Below w.heap.size w w' := by
  obtain ⟨ca, cq, rfl⟩ := slr_slice hc
  have cf := fun W (b : Below w.heap.size w W) => w_p9formed' m v o W (h.below b) z
  have cw := fun W (b : Below w.heap.size w W) => w_pwof x nm (.slice ca x.2.2.2.2.length cq) v.vt (m.words.length + 1) m.tree W en (RdO.below hc b) (h.tree.below b) gx.byt gx.len (fun y hy => (gx.ops y hy).2) gx.num
  have cc := fun W (b : Below w.heap.size w W) => w_p9copyO m v o W (h.below b) z
  have co := fun W (b : Below w.heap.size w W) => w_pcloneOps _ _ W (RdO.below hc b) (by have := gx.siz; omega)
  have lw := slr_len h.words uW (P := Try.prog)
  have mw2 : (m.words.length : Int) ≤ 3000000000000 := by have := z.wordsZ; omega
  have s0 := ((stands_new w (v.cs m o) 32).below (box_below _ (.cells #[.string nm, .int .i64 x.2.1, .int .i64 x.2.2.1, .int .u32 x.2.2.2.1, .slice ca x.2.2.2.2.length cq] 51))).below (box_below _ (.cells #[.slice none 0 0, .slice none 0 0, .slice none 0 0, .slice none 0 0, .int .u32 0, .slice none 0 0, .int .i64 0, .slice none 0 0, .int .i64 0, .string ⟨#[]⟩] 32))
  have s1 := (stands_new (w.alloc (.cells (v.cs m o) 32)) #[.string nm, .int .i64 x.2.1, .int .i64 x.2.2.1, .int .u32 x.2.2.2.1, .slice ca x.2.2.2.2.length cq] 51).below (box_below _ (.cells #[.slice none 0 0, .slice none 0 0, .slice none 0 0, .slice none 0 0, .int .u32 0, .slice none 0 0, .int .i64 0, .slice none 0 0, .int .i64 0, .string ⟨#[]⟩] 32))
  have s2 := stands_new ((w.alloc (.cells (v.cs m o) 32)).alloc (.cells #[.string nm, .int .i64 x.2.1, .int .i64 x.2.2.1, .int .u32 x.2.2.2.1, .slice ca x.2.2.2.2.length cq] 51)) #[.slice none 0 0, .slice none 0 0, .slice none 0 0, .slice none 0 0, .int .u32 0, .slice none 0 0, .int .i64 0, .slice none 0 0, .int .i64 0, .string ⟨#[]⟩] 32
  rw [size_al] at s1
  rw [size_al, size_al] at s2
  have bw := below_trans (below_trans (box_below w (.cells (v.cs m o) 32)) (box_below _ (.cells #[.string nm, .int .i64 x.2.1, .int .i64 x.2.2.1, .int .u32 x.2.2.2.1, .slice ca x.2.2.2.2.length cq] 51))) (box_below _ (.cells #[.slice none 0 0, .slice none 0 0, .slice none 0 0, .slice none 0 0, .int .u32 0, .slice none 0 0, .int .i64 0, .slice none 0 0, .int .i64 0, .string ⟨#[]⟩] 32))
  by_cases c1 : frmM m = false
  · rw [dfn_no1 (Or.inl c1)]
    simp only [c1] at cf
    go_enter Try.func29, Try.ntmps29
    go_upto_region 1 with fail
    generalize (((w.alloc (.cells (v.cs m o) 32)).alloc (.cells #[.string nm, .int .i64 x.2.1, .int .i64 x.2.2.1, .int .u32 x.2.2.2.1, .slice ca x.2.2.2.2.length cq] 51)).alloc (.cells #[.slice none 0 0, .slice none 0 0, .slice none 0 0, .slice none 0 0, .int .u32 0, .slice none 0 0, .int .i64 0, .slice none 0 0, .int .i64 0, .string ⟨#[]⟩] 32)) = W0 at s0 s1 s2 bw ⊢
    have KM := fun q (b : Below W0.heap.size W0 q) => mch_cells9 (s0.below b)
    have KW := fun q (b : Below W0.heap.size W0 q) => s1.below b
    have KZ := fun q (b : Below W0.heap.size W0 q) => s2.below b
    obtain ⟨f0, f1, f2, f3, f4, f5, f6, f7, f8, f9⟩ := KM _ (Below.refl _ _)
    go_wp2_with (first | (go_at_call 18; refine (cf _ bw).mono ?_; rintro e q1 ⟨rfl, b1⟩; obtain ⟨m0_1, m1_1, m2_1, m3_1, m4_1, m5_1, m6_1, m7_1, m8_1, m9_1⟩ := KM _ b1; have sw1 := KW _ b1; have w0_1 := sw1.cell 0 _ rfl; have w1_1 := sw1.cell 1 _ rfl; have w2_1 := sw1.cell 2 _ rfl; have w3_1 := sw1.cell 3 _ rfl; have w4_1 := sw1.cell 4 _ rfl; have sz1 := KZ _ b1; have z0_1 := sz1.cell 0 _ rfl; have z1_1 := sz1.cell 1 _ rfl; have z2_1 := sz1.cell 2 _ rfl; have z3_1 := sz1.cell 3 _ rfl; have z4_1 := sz1.cell 4 _ rfl; have z5_1 := sz1.cell 5 _ rfl; have z6_1 := sz1.cell 6 _ rfl; have z7_1 := sz1.cell 7 _ rfl; have z8_1 := sz1.cell 8 _ rfl; have z9_1 := sz1.cell 9 _ rfl; have zf1 := sz1.free))
    obtain ⟨k1, k2⟩ := set10 sz1 (.slice none 0 0) (.slice none 0 0) (.slice none 0 0) (.slice none 0 0) (.int .u32 0) (.slice none 0 0) (.int .i64 0) (.slice none 0 0) (.int .i64 0) (.string ⟨#[]⟩)
    have J7 := below_set (below_set (below_set (below_set (below_set (below_set (below_set (below_set (below_set (below_set (below_trans bw b1) (w.heap.size + 1 + 1) 0 (.slice none 0 0) (by omega)) (w.heap.size + 1 + 1) 1 (.slice none 0 0) (by omega)) (w.heap.size + 1 + 1) 2 (.slice none 0 0) (by omega)) (w.heap.size + 1 + 1) 3 (.slice none 0 0) (by omega)) (w.heap.size + 1 + 1) 4 (.int .u32 0) (by omega)) (w.heap.size + 1 + 1) 5 (.slice none 0 0) (by omega)) (w.heap.size + 1 + 1) 6 (.int .i64 0) (by omega)) (w.heap.size + 1 + 1) 7 (.slice none 0 0) (by omega)) (w.heap.size + 1 + 1) 8 (.int .i64 0) (by omega)) (w.heap.size + 1 + 1) 9 (.string ⟨#[]⟩) (by omega)
    (try simp only [Exit.inBlock, Exit.then])
    refine bodyPost_ret (results_row3 rfl _ _ (w.heap.size + 1 + 1) 32 _ (0, 0) _ rfl k1 Try.underlying32 rfl (show _ = some 10 by kernel_rfl)) rfl ?_
    exact ⟨nilV, ⟨#[]⟩, rfl, own_nilM _ _, J7⟩
  · have c1t : frmM m = true := by simpa using c1
    simp only [c1t] at cf
    have c640 := frm_words c1t
    by_cases c2 : wofF x (m.words.length + 1) m.tree = false
    · rw [dfn_no1 (Or.inr c2)]
      simp only [c2] at cw
      go_enter Try.func29, Try.ntmps29
      go_upto_region 1 with fail
      generalize (((w.alloc (.cells (v.cs m o) 32)).alloc (.cells #[.string nm, .int .i64 x.2.1, .int .i64 x.2.2.1, .int .u32 x.2.2.2.1, .slice ca x.2.2.2.2.length cq] 51)).alloc (.cells #[.slice none 0 0, .slice none 0 0, .slice none 0 0, .slice none 0 0, .int .u32 0, .slice none 0 0, .int .i64 0, .slice none 0 0, .int .i64 0, .string ⟨#[]⟩] 32)) = W0 at s0 s1 s2 bw ⊢
      have KM := fun q (b : Below W0.heap.size W0 q) => mch_cells9 (s0.below b)
      have KW := fun q (b : Below W0.heap.size W0 q) => s1.below b
      have KZ := fun q (b : Below W0.heap.size W0 q) => s2.below b
      obtain ⟨f0, f1, f2, f3, f4, f5, f6, f7, f8, f9⟩ := KM _ (Below.refl _ _)
      go_wp2_with (first | (go_at_call 18; refine (cf _ bw).mono ?_; rintro e q1 ⟨rfl, b1⟩; obtain ⟨m0_1, m1_1, m2_1, m3_1, m4_1, m5_1, m6_1, m7_1, m8_1, m9_1⟩ := KM _ b1; have sw1 := KW _ b1; have w0_1 := sw1.cell 0 _ rfl; have w1_1 := sw1.cell 1 _ rfl; have w2_1 := sw1.cell 2 _ rfl; have w3_1 := sw1.cell 3 _ rfl; have w4_1 := sw1.cell 4 _ rfl; have sz1 := KZ _ b1; have z0_1 := sz1.cell 0 _ rfl; have z1_1 := sz1.cell 1 _ rfl; have z2_1 := sz1.cell 2 _ rfl; have z3_1 := sz1.cell 3 _ rfl; have z4_1 := sz1.cell 4 _ rfl; have z5_1 := sz1.cell 5 _ rfl; have z6_1 := sz1.cell 6 _ rfl; have z7_1 := sz1.cell 7 _ rfl; have z8_1 := sz1.cell 8 _ rfl; have z9_1 := sz1.cell 9 _ rfl; have zf1 := sz1.free) | (go_at_call 64; refine (cw _ (below_trans bw b1)).mono ?_; rintro e q2 ⟨rfl, b2⟩; have b12 := below_trans b1 b2; obtain ⟨m0_2, m1_2, m2_2, m3_2, m4_2, m5_2, m6_2, m7_2, m8_2, m9_2⟩ := KM _ b12; have sw2 := KW _ b12; have w0_2 := sw2.cell 0 _ rfl; have w1_2 := sw2.cell 1 _ rfl; have w2_2 := sw2.cell 2 _ rfl; have w3_2 := sw2.cell 3 _ rfl; have w4_2 := sw2.cell 4 _ rfl; have sz2 := KZ _ b12; have z0_2 := sz2.cell 0 _ rfl; have z1_2 := sz2.cell 1 _ rfl; have z2_2 := sz2.cell 2 _ rfl; have z3_2 := sz2.cell 3 _ rfl; have z4_2 := sz2.cell 4 _ rfl; have z5_2 := sz2.cell 5 _ rfl; have z6_2 := sz2.cell 6 _ rfl; have z7_2 := sz2.cell 7 _ rfl; have z8_2 := sz2.cell 8 _ rfl; have z9_2 := sz2.cell 9 _ rfl; have zf2 := sz2.free))
      obtain ⟨k1, k2⟩ := set10 sz2 (.slice none 0 0) (.slice none 0 0) (.slice none 0 0) (.slice none 0 0) (.int .u32 0) (.slice none 0 0) (.int .i64 0) (.slice none 0 0) (.int .i64 0) (.string ⟨#[]⟩)
      have J7 := below_set (below_set (below_set (below_set (below_set (below_set (below_set (below_set (below_set (below_set (below_trans bw b12) (w.heap.size + 1 + 1) 0 (.slice none 0 0) (by omega)) (w.heap.size + 1 + 1) 1 (.slice none 0 0) (by omega)) (w.heap.size + 1 + 1) 2 (.slice none 0 0) (by omega)) (w.heap.size + 1 + 1) 3 (.slice none 0 0) (by omega)) (w.heap.size + 1 + 1) 4 (.int .u32 0) (by omega)) (w.heap.size + 1 + 1) 5 (.slice none 0 0) (by omega)) (w.heap.size + 1 + 1) 6 (.int .i64 0) (by omega)) (w.heap.size + 1 + 1) 7 (.slice none 0 0) (by omega)) (w.heap.size + 1 + 1) 8 (.int .i64 0) (by omega)) (w.heap.size + 1 + 1) 9 (.string ⟨#[]⟩) (by omega)
      (try simp only [Exit.inBlock, Exit.then])
      refine bodyPost_ret (results_row3 rfl _ _ (w.heap.size + 1 + 1) 32 _ (0, 0) _ rfl k1 Try.underlying32 rfl (show _ = some 10 by kernel_rfl)) rfl ?_
      exact ⟨nilV, ⟨#[]⟩, rfl, own_nilM _ _, J7⟩
    · have c2t : wofF x (m.words.length + 1) m.tree = true := by simpa using c2
      simp only [c2t] at cw
      have cno : ¬ (frmM m = false ∨ wofF x (m.words.length + 1) m.tree = false) := by rw [c1t, c2t]; simp
      by_cases c3 : (640 : Int) ≤ m.words.length
      · rw [dfn_no2 cno (by omega)]
        have q640 : ((m.words.length : Int) == 640) = true := by rw [beq_iff_eq]; omega
        go_enter Try.func29, Try.ntmps29
        go_upto_region 1 with fail
        generalize (((w.alloc (.cells (v.cs m o) 32)).alloc (.cells #[.string nm, .int .i64 x.2.1, .int .i64 x.2.2.1, .int .u32 x.2.2.2.1, .slice ca x.2.2.2.2.length cq] 51)).alloc (.cells #[.slice none 0 0, .slice none 0 0, .slice none 0 0, .slice none 0 0, .int .u32 0, .slice none 0 0, .int .i64 0, .slice none 0 0, .int .i64 0, .string ⟨#[]⟩] 32)) = W0 at s0 s1 s2 bw ⊢
        have KM := fun q (b : Below W0.heap.size W0 q) => mch_cells9 (s0.below b)
        have KW := fun q (b : Below W0.heap.size W0 q) => s1.below b
        have KZ := fun q (b : Below W0.heap.size W0 q) => s2.below b
        obtain ⟨f0, f1, f2, f3, f4, f5, f6, f7, f8, f9⟩ := KM _ (Below.refl _ _)
        go_wp2_with (first | (go_at_call 18; refine (cf _ bw).mono ?_; rintro e q1 ⟨rfl, b1⟩; obtain ⟨m0_1, m1_1, m2_1, m3_1, m4_1, m5_1, m6_1, m7_1, m8_1, m9_1⟩ := KM _ b1; have sw1 := KW _ b1; have w0_1 := sw1.cell 0 _ rfl; have w1_1 := sw1.cell 1 _ rfl; have w2_1 := sw1.cell 2 _ rfl; have w3_1 := sw1.cell 3 _ rfl; have w4_1 := sw1.cell 4 _ rfl; have sz1 := KZ _ b1; have z0_1 := sz1.cell 0 _ rfl; have z1_1 := sz1.cell 1 _ rfl; have z2_1 := sz1.cell 2 _ rfl; have z3_1 := sz1.cell 3 _ rfl; have z4_1 := sz1.cell 4 _ rfl; have z5_1 := sz1.cell 5 _ rfl; have z6_1 := sz1.cell 6 _ rfl; have z7_1 := sz1.cell 7 _ rfl; have z8_1 := sz1.cell 8 _ rfl; have z9_1 := sz1.cell 9 _ rfl; have zf1 := sz1.free) | (go_at_call 64; refine (cw _ (below_trans bw b1)).mono ?_; rintro e q2 ⟨rfl, b2⟩; have b12 := below_trans b1 b2; obtain ⟨m0_2, m1_2, m2_2, m3_2, m4_2, m5_2, m6_2, m7_2, m8_2, m9_2⟩ := KM _ b12; have sw2 := KW _ b12; have w0_2 := sw2.cell 0 _ rfl; have w1_2 := sw2.cell 1 _ rfl; have w2_2 := sw2.cell 2 _ rfl; have w3_2 := sw2.cell 3 _ rfl; have w4_2 := sw2.cell 4 _ rfl; have sz2 := KZ _ b12; have z0_2 := sz2.cell 0 _ rfl; have z1_2 := sz2.cell 1 _ rfl; have z2_2 := sz2.cell 2 _ rfl; have z3_2 := sz2.cell 3 _ rfl; have z4_2 := sz2.cell 4 _ rfl; have z5_2 := sz2.cell 5 _ rfl; have z6_2 := sz2.cell 6 _ rfl; have z7_2 := sz2.cell 7 _ rfl; have z8_2 := sz2.cell 8 _ rfl; have z9_2 := sz2.cell 9 _ rfl; have zf2 := sz2.free))
        obtain ⟨k1, k2⟩ := set10 sz2 (.slice none 0 0) (.slice none 0 0) (.slice none 0 0) (.slice none 0 0) (.int .u32 0) (.slice none 0 0) (.int .i64 0) (.slice none 0 0) (.int .i64 0) (.string ⟨#[]⟩)
        have J7 := below_set (below_set (below_set (below_set (below_set (below_set (below_set (below_set (below_set (below_set (below_trans bw b12) (w.heap.size + 1 + 1) 0 (.slice none 0 0) (by omega)) (w.heap.size + 1 + 1) 1 (.slice none 0 0) (by omega)) (w.heap.size + 1 + 1) 2 (.slice none 0 0) (by omega)) (w.heap.size + 1 + 1) 3 (.slice none 0 0) (by omega)) (w.heap.size + 1 + 1) 4 (.int .u32 0) (by omega)) (w.heap.size + 1 + 1) 5 (.slice none 0 0) (by omega)) (w.heap.size + 1 + 1) 6 (.int .i64 0) (by omega)) (w.heap.size + 1 + 1) 7 (.slice none 0 0) (by omega)) (w.heap.size + 1 + 1) 8 (.int .i64 0) (by omega)) (w.heap.size + 1 + 1) 9 (.string ⟨#[]⟩) (by omega)
        (try simp only [Exit.inBlock, Exit.then])
        refine bodyPost_ret (results_row3 rfl _ _ (w.heap.size + 1 + 1) 32 _ (0, 0) _ rfl k1 Try.underlying32 rfl (show _ = some 10 by kernel_rfl)) rfl ?_
        exact ⟨nilV, ⟨#[]⟩, rfl, own_nilM _ _, J7⟩
      · have hD : dfnF m x = ({ m with words := m.words ++ [x] }, (m.words.length : Int), 0) := by unfold dfnF; rw [if_neg cno, if_neg (by omega)]
        rw [hD]
        have q640 : ((m.words.length : Int) == 640) = false := by rw [beq_eq_false_iff_ne]; omega
        go_enter Try.func29, Try.ntmps29
        go_upto_region 1 with fail
        generalize (((w.alloc (.cells (v.cs m o) 32)).alloc (.cells #[.string nm, .int .i64 x.2.1, .int .i64 x.2.2.1, .int .u32 x.2.2.2.1, .slice ca x.2.2.2.2.length cq] 51)).alloc (.cells #[.slice none 0 0, .slice none 0 0, .slice none 0 0, .slice none 0 0, .int .u32 0, .slice none 0 0, .int .i64 0, .slice none 0 0, .int .i64 0, .string ⟨#[]⟩] 32)) = W0 at s0 s1 s2 bw ⊢
        have KM := fun q (b : Below W0.heap.size W0 q) => mch_cells9 (s0.below b)
        have KW := fun q (b : Below W0.heap.size W0 q) => s1.below b
        have KZ := fun q (b : Below W0.heap.size W0 q) => s2.below b
        obtain ⟨f0, f1, f2, f3, f4, f5, f6, f7, f8, f9⟩ := KM _ (Below.refl _ _)
        go_upto_region 7 with (first | (go_at_call 18; refine (cf _ bw).mono ?_; rintro e q1 ⟨rfl, b1⟩; obtain ⟨m0_1, m1_1, m2_1, m3_1, m4_1, m5_1, m6_1, m7_1, m8_1, m9_1⟩ := KM _ b1; have sw1 := KW _ b1; have w0_1 := sw1.cell 0 _ rfl; have w1_1 := sw1.cell 1 _ rfl; have w2_1 := sw1.cell 2 _ rfl; have w3_1 := sw1.cell 3 _ rfl; have w4_1 := sw1.cell 4 _ rfl; have sz1 := KZ _ b1; have z0_1 := sz1.cell 0 _ rfl; have z1_1 := sz1.cell 1 _ rfl; have z2_1 := sz1.cell 2 _ rfl; have z3_1 := sz1.cell 3 _ rfl; have z4_1 := sz1.cell 4 _ rfl; have z5_1 := sz1.cell 5 _ rfl; have z6_1 := sz1.cell 6 _ rfl; have z7_1 := sz1.cell 7 _ rfl; have z8_1 := sz1.cell 8 _ rfl; have z9_1 := sz1.cell 9 _ rfl; have zf1 := sz1.free) | (go_at_call 64; refine (cw _ (below_trans bw b1)).mono ?_; rintro e q2 ⟨rfl, b2⟩; have b12 := below_trans b1 b2; obtain ⟨m0_2, m1_2, m2_2, m3_2, m4_2, m5_2, m6_2, m7_2, m8_2, m9_2⟩ := KM _ b12; have sw2 := KW _ b12; have w0_2 := sw2.cell 0 _ rfl; have w1_2 := sw2.cell 1 _ rfl; have w2_2 := sw2.cell 2 _ rfl; have w3_2 := sw2.cell 3 _ rfl; have w4_2 := sw2.cell 4 _ rfl; have sz2 := KZ _ b12; have z0_2 := sz2.cell 0 _ rfl; have z1_2 := sz2.cell 1 _ rfl; have z2_2 := sz2.cell 2 _ rfl; have z3_2 := sz2.cell 3 _ rfl; have z4_2 := sz2.cell 4 _ rfl; have z5_2 := sz2.cell 5 _ rfl; have z6_2 := sz2.cell 6 _ rfl; have z7_2 := sz2.cell 7 _ rfl; have z8_2 := sz2.cell 8 _ rfl; have z9_2 := sz2.cell 9 _ rfl; have zf2 := sz2.free) | (go_at_call 20; refine (cc _ (below_trans bw b12)).mono ?_; rintro e q3 ⟨v1, rfl, oM, b3⟩; obtain ⟨a0, k0, h0⟩ := own_form oM.stack; obtain ⟨a1, k1, h1⟩ := own_form oM.mem; obtain ⟨cs2, r2⟩ := oM.words.row; obtain ⟨a2, k2, h2⟩ := own_form r2; obtain ⟨a3, k3, h3⟩ := own_form oM.codes; obtain ⟨cs5, r5⟩ := oM.tree.row; obtain ⟨a5, k5, h5⟩ := own_form r5; obtain ⟨cs7, r7⟩ := oM.insts.row; obtain ⟨a7, k7, h7⟩ := own_form r7; obtain ⟨x0, x1, x2, x3, x5, x7⟩ := v1; (try dsimp only at h0 h1 h2 h3 h5 h7); subst h0 h1 h2 h3 h5 h7; simp only [Mv.cs]; have b13 := below_trans b12 b3; have sm3 : Stands q3 w.heap.size #[v.vs, v.vm, v.vw, v.vc, .int .u32 m.base, v.vt, .int .i64 m.node, v.vi, .int .i64 m.self, .string o] 32 := s0.below b13; have j0 := sm3.cell 0 _ rfl; have j1 := sm3.cell 1 _ rfl; have j2 := sm3.cell 2 _ rfl; have j3 := sm3.cell 3 _ rfl; have j4 := sm3.cell 4 _ rfl; have j5 := sm3.cell 5 _ rfl; have j6 := sm3.cell 6 _ rfl; have j7 := sm3.cell 7 _ rfl; have j8 := sm3.cell 8 _ rfl; have j9 := sm3.cell 9 _ rfl; have jf := sm3.free))
        obtain ⟨p1, p2⟩ := set10 sm3 (.slice a0 m.stack.length k0) (.slice a1 m.mem.length k1) (.slice a2 m.words.length k2) (.slice a3 m.codes.length k3) (.int .u32 m.base) (.slice a5 m.tree.length k5) (.int .i64 m.node) (.slice a7 m.insts.length k7) (.int .i64 m.self) (.string o)
        have oM4 := p2 (fun u => OwM q2.heap.size u ⟨.slice a0 m.stack.length k0, .slice a1 m.mem.length k1, (.slice a2 m.words.length k2), .slice a3 m.codes.length k3, .slice a5 m.tree.length k5, .slice a7 m.insts.length k7⟩ m o) (fun u u' kk q => q.kept kk (by decide) (by decide) (by decide) (by decide) (by decide) (by decide) (by decide) (by decide)) oM
        have sw4 := p2 (fun u => Stands u (w.heap.size + 1) #[.string nm, .int .i64 x.2.1, .int .i64 x.2.2.1, .int .u32 x.2.2.2.1, .slice ca x.2.2.2.2.length cq] 51) (fun u u' kk q => stands_kept kk (by decide) q) (KW _ b13)
        have sz4 := (((((((((((KZ _ b13).other (b' := w.heap.size) 0 (.slice a0 m.stack.length k0) (by omega)).other (b' := w.heap.size) 1 (.slice a1 m.mem.length k1) (by omega)).other (b' := w.heap.size) 2 (.slice a2 m.words.length k2) (by omega)).other (b' := w.heap.size) 3 (.slice a3 m.codes.length k3) (by omega)).other (b' := w.heap.size) 4 (.int .u32 m.base) (by omega)).other (b' := w.heap.size) 5 (.slice a5 m.tree.length k5) (by omega)).other (b' := w.heap.size) 6 (.int .i64 m.node) (by omega)).other (b' := w.heap.size) 7 (.slice a7 m.insts.length k7) (by omega)).other (b' := w.heap.size) 8 (.int .i64 m.self) (by omega)).other (b' := w.heap.size) 9 (.string o) (by omega))
        have B4 := (below_set (below_set (below_set (below_set (below_set (below_set (below_set (below_set (below_set (below_set (below_trans bw b13) w.heap.size 0 (.slice a0 m.stack.length k0) (Nat.le_refl _)) w.heap.size 1 (.slice a1 m.mem.length k1) (Nat.le_refl _)) w.heap.size 2 (.slice a2 m.words.length k2) (Nat.le_refl _)) w.heap.size 3 (.slice a3 m.codes.length k3) (Nat.le_refl _)) w.heap.size 4 (.int .u32 m.base) (Nat.le_refl _)) w.heap.size 5 (.slice a5 m.tree.length k5) (Nat.le_refl _)) w.heap.size 6 (.int .i64 m.node) (Nat.le_refl _)) w.heap.size 7 (.slice a7 m.insts.length k7) (Nat.le_refl _)) w.heap.size 8 (.int .i64 m.self) (Nat.le_refl _)) w.heap.size 9 (.string o) (Nat.le_refl _))
        have hq4 : q2.heap.size ≤ ((((((((((q3.setCell ⟨w.heap.size, 0, none⟩ (.slice a0 m.stack.length k0)).setCell ⟨w.heap.size, 1, none⟩ (.slice a1 m.mem.length k1)).setCell ⟨w.heap.size, 2, none⟩ (.slice a2 m.words.length k2)).setCell ⟨w.heap.size, 3, none⟩ (.slice a3 m.codes.length k3)).setCell ⟨w.heap.size, 4, none⟩ (.int .u32 m.base)).setCell ⟨w.heap.size, 5, none⟩ (.slice a5 m.tree.length k5)).setCell ⟨w.heap.size, 6, none⟩ (.int .i64 m.node)).setCell ⟨w.heap.size, 7, none⟩ (.slice a7 m.insts.length k7)).setCell ⟨w.heap.size, 8, none⟩ (.int .i64 m.self)).setCell ⟨w.heap.size, 9, none⟩ (.string o)).heap.size := by have := b3.size; simp only [World.setCell, Array.size_modify]; omega
        have hW0 : w.heap.size + 1 + 1 < W0.heap.size := (Array.getElem?_eq_some_iff.1 s2).1
        have hq2 : W0.heap.size ≤ q2.heap.size := b12.size
        have so := p1
        clear p1 p2 j0 j1 j2 j3 j4 j5 j6 j7 j8 j9 jf sm3
        generalize ((((((((((q3.setCell ⟨w.heap.size, 0, none⟩ (.slice a0 m.stack.length k0)).setCell ⟨w.heap.size, 1, none⟩ (.slice a1 m.mem.length k1)).setCell ⟨w.heap.size, 2, none⟩ (.slice a2 m.words.length k2)).setCell ⟨w.heap.size, 3, none⟩ (.slice a3 m.codes.length k3)).setCell ⟨w.heap.size, 4, none⟩ (.int .u32 m.base)).setCell ⟨w.heap.size, 5, none⟩ (.slice a5 m.tree.length k5)).setCell ⟨w.heap.size, 6, none⟩ (.int .i64 m.node)).setCell ⟨w.heap.size, 7, none⟩ (.slice a7 m.insts.length k7)).setCell ⟨w.heap.size, 8, none⟩ (.int .i64 m.self)).setCell ⟨w.heap.size, 9, none⟩ (.string o)) = q4 at so oM4 sw4 sz4 B4 hq4 ⊢
        have w4_4 := sw4.cell 4 _ rfl
        go_upto_region 8 with (go_at_call 54; refine (co _ B4).mono ?_; rintro e q5 ⟨vO, rfl, oO, b5⟩; obtain ⟨csO, rO⟩ := oO.row; obtain ⟨ao, ko, rfl⟩ := own_form rO; have sw5 := sw4.below b5; have y4 := sw5.cell 4 _ rfl; have yf := sw5.free 4)
        have ab6 : Ab q2.heap.size q5 (q5.setCell ⟨w.heap.size + 1, 4, none⟩ (.slice ao x.2.2.2.2.length ko)) := ab_set _ _ _ _ (by omega)
        have sw6 := sw5.set 4 (.slice ao x.2.2.2.2.length ko)
        have so6 := (so.below b5).other (b' := w.heap.size + 1) 4 (.slice ao x.2.2.2.2.length ko) (by omega)
        have sz6 := (sz4.below b5).other (b' := w.heap.size + 1) 4 (.slice ao x.2.2.2.2.length ko) (by omega)
        have oM6 := (oM4.below b5).ab ab6
        have oO6 := OwO.ab (OwO.le hq4 oO) ab6
        have B6 := below_set (below_trans B4 b5) (w.heap.size + 1) 4 (.slice ao x.2.2.2.2.length ko) (by omega)
        have hq5 : q2.heap.size ≤ (q5.setCell ⟨w.heap.size + 1, 4, none⟩ (.slice ao x.2.2.2.2.length ko)).heap.size := by have := b5.size; simp only [World.setCell, Array.size_modify]; omega
        generalize q5.setCell ⟨w.heap.size + 1, 4, none⟩ (.slice ao x.2.2.2.2.length ko) = q6 at ab6 sw6 so6 sz6 oM6 oO6 B6 hq5 ⊢
        have u2 := so6.cell 2 _ rfl
        have t0 := sw6.cell 0 _ rfl
        have t1 := sw6.cell 1 _ rfl
        have t2 := sw6.cell 2 _ rfl
        have t3 := sw6.cell 3 _ rfl
        have t4 := sw6.cell 4 _ rfl
        have bX := box_below q6 (.cells #[.string nm, .int .i64 x.2.1, .int .i64 x.2.2.1, .int .u32 x.2.2.2.1, .slice ao x.2.2.2.2.length ko] 51)
        obtain ⟨rows, p1, p2, p3, p4⟩ := OwnR.below oM6.words bX (wrdO_below bX)
        have hx : wrdO q2.heap.size (q6.alloc (.cells #[.string nm, .int .i64 x.2.1, .int .i64 x.2.2.1, .int .u32 x.2.2.2.1, .slice ao x.2.2.2.2.length ko] 51)) [Value.string nm, .int .i64 x.2.1, .int .i64 x.2.2.1, .int .u32 x.2.2.2.1, .slice ao x.2.2.2.2.length ko] x := ⟨_, by rw [en], oO6.below bX⟩
        have P1 := hid p1
        have P2 := hid p2
        have P4 := hid p4
        have HX := hid hx
        have OM6 := hid oM6
        obtain ⟨i9, hi9, hz9, hz8, hz7⟩ := info_parts infoWd9
        have one : ∀ r ∈ [[Value.string nm, .int .i64 x.2.1, .int .i64 x.2.2.1, .int .u32 x.2.2.2.1, .slice ao x.2.2.2.2.length ko]], ∀ u ∈ r, u.oneCell' = true := fun r hr u hu => by rw [List.mem_singleton] at hr; subst hr; simp at hu; rcases hu with rfl | rfl | rfl | rfl | rfl <;> rfl
        clear p1 p2 p4 hx oM6 y4 yf oO6 oM4 oM oO
        go_upto_region 9 with (at_builtin; refine wpList_append_rows rfl _ _ 26 rfl q2.heap.size 51 i9 _ 5 64 Try.underlying26 hi9 hz9 hz8 hz7 rfl (by decide) _ m.words.length _ rfl p3 _ [[Value.string nm, .int .i64 x.2.1, .int .i64 x.2.2.1, .int .u32 x.2.2.2.1, .slice ao x.2.2.2.2.length ko]] rfl (slc_one q6 [Value.string nm, .int .i64 x.2.1, .int .i64 x.2.2.1, .int .u32 x.2.2.2.1, .slice ao x.2.2.2.2.length ko] 51 5 rfl) one (by unfold maxLen; simp only [List.length_singleton]; omega) (by simp only [List.length_singleton]; omega) (Nat.le_trans hq5 bX.size) ?_; intro v9 w9 ho9 hg9; obtain ⟨a9, c9, rfl⟩ := own_form ho9; have so9 := Stands.grown (so6.below bX) hg9 (stands_apart (so6.below bX) p3 (by decide)); have y2 := so9.cell 2 _ rfl; have yg := so9.free 2)
        have kW := Kept.own p3 hg9
        have sz9 := (Stands.grown (sz6.below bX) hg9 (stands_apart (sz6.below bX) p3 (by decide))).other (b' := w.heap.size) 2 (.slice a9 (m.words.length + [[Value.string nm, .int .i64 x.2.1, .int .i64 x.2.2.1, .int .u32 x.2.2.2.1, .slice ao x.2.2.2.2.length ko]].length) c9) (by omega)
        have oM9 := OwM.grewW (OM6.out.below bX) kW (OwnR.snoc (e := 51) (wrdO_apt (by decide)) P1.out P2.out p3 P4.out rfl HX.out (by simpa using ho9) hg9)
        have hwq : w.heap.size ≤ q2.heap.size := Nat.le_trans bw.size b12.size
        have oMF := OwM.le hwq (oM9.kept (set_kept so9 2 (.slice a9 (m.words.length + [[Value.string nm, .int .i64 x.2.1, .int .i64 x.2.2.1, .int .u32 x.2.2.2.1, .slice ao x.2.2.2.2.length ko]].length) c9)) (by decide) (by decide) (by decide) (by decide) (by decide) (by decide) (by decide) (by decide))
        have soF := so9.set 2 (.slice a9 (m.words.length + [[Value.string nm, .int .i64 x.2.1, .int .i64 x.2.2.1, .int .u32 x.2.2.2.1, .slice ao x.2.2.2.2.length ko]].length) c9)
        have BF := below_set (below_grown (below_trans B6 bX) hg9 (fun q hq => Nat.le_trans hwq (p3.lt q hq).1)) w.heap.size 2 (.slice a9 (m.words.length + [[Value.string nm, .int .i64 x.2.1, .int .i64 x.2.2.1, .int .u32 x.2.2.2.1, .slice ao x.2.2.2.2.length ko]].length) c9) (Nat.le_refl _)
        generalize w9.setCell ⟨w.heap.size, 2, none⟩ (.slice a9 (m.words.length + [[Value.string nm, .int .i64 x.2.1, .int .i64 x.2.2.1, .int .u32 x.2.2.2.1, .slice ao x.2.2.2.2.length ko]].length) c9) = q9 at sz9 oMF soF BF ⊢
        have soF : Stands q9 w.heap.size #[.slice a0 m.stack.length k0, .slice a1 m.mem.length k1, (.slice a9 (m.words.length + 1) c9), .slice a3 m.codes.length k3, .int .u32 m.base, .slice a5 m.tree.length k5, .int .i64 m.node, .slice a7 m.insts.length k7, .int .i64 m.self, .string o] 32 := soF
        have u0 := soF.cell 0 _ rfl
        have u1 := soF.cell 1 _ rfl
        have u2 := soF.cell 2 _ rfl
        have u3 := soF.cell 3 _ rfl
        have u4 := soF.cell 4 _ rfl
        have u5 := soF.cell 5 _ rfl
        have u6 := soF.cell 6 _ rfl
        have u7 := soF.cell 7 _ rfl
        have u8 := soF.cell 8 _ rfl
        have u9 := soF.cell 9 _ rfl
        have z0 := sz9.cell 0 _ rfl
        have z1 := sz9.cell 1 _ rfl
        have z2 := sz9.cell 2 _ rfl
        have z3 := sz9.cell 3 _ rfl
        have z4 := sz9.cell 4 _ rfl
        have z5 := sz9.cell 5 _ rfl
        have z6 := sz9.cell 6 _ rfl
        have z7 := sz9.cell 7 _ rfl
        have z8 := sz9.cell 8 _ rfl
        have z9 := sz9.cell 9 _ rfl
        have zf := sz9.free
        obtain ⟨g1, g2⟩ := set10 sz9 (.slice a0 m.stack.length k0) (.slice a1 m.mem.length k1) (.slice a9 (m.words.length + 1) c9) (.slice a3 m.codes.length k3) (.int .u32 m.base) (.slice a5 m.tree.length k5) (.int .i64 m.node) (.slice a7 m.insts.length k7) (.int .i64 m.self) (.string o)
        have G1 := hid g1
        have GM := hid (g2 (fun u => OwM w.heap.size u ⟨.slice a0 m.stack.length k0, .slice a1 m.mem.length k1, (.slice a9 (m.words.length + 1) c9), .slice a3 m.codes.length k3, .slice a5 m.tree.length k5, .slice a7 m.insts.length k7⟩ { m with words := m.words ++ [x] } o) (fun u u' kk q => q.kept kk (by decide) (by decide) (by decide) (by decide) (by decide) (by decide) (by decide) (by decide)) oMF)
        have J7 : Hid (Below w.heap.size w _) := below_set (below_set (below_set (below_set (below_set (below_set (below_set (below_set (below_set (below_set (BF) (w.heap.size + 1 + 1) 0 (.slice a0 m.stack.length k0) (by omega)) (w.heap.size + 1 + 1) 1 (.slice a1 m.mem.length k1) (by omega)) (w.heap.size + 1 + 1) 2 (.slice a9 (m.words.length + 1) c9) (by omega)) (w.heap.size + 1 + 1) 3 (.slice a3 m.codes.length k3) (by omega)) (w.heap.size + 1 + 1) 4 (.int .u32 m.base) (by omega)) (w.heap.size + 1 + 1) 5 (.slice a5 m.tree.length k5) (by omega)) (w.heap.size + 1 + 1) 6 (.int .i64 m.node) (by omega)) (w.heap.size + 1 + 1) 7 (.slice a7 m.insts.length k7) (by omega)) (w.heap.size + 1 + 1) 8 (.int .i64 m.self) (by omega)) (w.heap.size + 1 + 1) 9 (.string o) (by omega)
        clear g1 g2 oMF BF KM KW KZ cf cw cc co sz9 soF p3 ho9 hg9 kW oM9 so9 y2 yg
        go_wp2_with fail
        (try simp only [Exit.inBlock, Exit.then])
        refine bodyPost_ret (results_row3 rfl _ _ (w.heap.size + 1 + 1) 32 _ (0, 0) _ rfl G1.out Try.underlying32 rfl (show _ = some 10 by kernel_rfl)) rfl ?_
        exact ⟨⟨.slice a0 m.stack.length k0, .slice a1 m.mem.length k1, (.slice a9 (m.words.length + 1) c9), .slice a3 m.codes.length k3, .slice a5 m.tree.length k5, .slice a7 m.insts.length k7⟩, o, rfl, GM.out, J7.out⟩

end Go.Proofs.Ytfljcfpcokimcaa
