/-
  Texts of one proof, laid one behind the other: Dp2.
-/
import Derived.Test.YtfljcfpcokimcaaB20
namespace Go.Proofs.Ytfljcfpcokimcaa
open Go.ChangeShapes Go.WideShapes Go.ChangeAt Go.RowKit
set_option linter.unusedVariables false
set_option linter.unusedSimpArgs false

/-
  Package dict's newest, Find, Method and Code: what is looked for is asked by closures.
-/
/-- a function value that answers a question about each of these words, in every later world -/
def AskW (w : World) (g : Nat) (lb : Array Value) (p : Wd → Bool) (l : List Wd) : Prop :=
  ∀ (W : World) (nm : ByteArray) (vc : Value) (x : Wd), Below w.heap.size w W → x ∈ l → strOfNums x.1 = nm → RdO W vc x.2.2.2.2 →
    Calls Try.prog g (#[.agg #[.string nm, .int .i64 x.2.1, .int .i64 x.2.2.1, .int .u32 x.2.2.2.1, vc]] ++ lb) W fun e w' => e = .returned (.bool (p x)) ∧ Below W.heap.size W w'

set_option maxHeartbeats 2000000 in
set_option maxRecDepth 100000 in
theorem w_pnewest (v : Value) (l : List Wd) (g : Nat) (lb : Array Value) (p : Wd → Bool) (w : World) (eg : ∀ args w, (callFunc g args).run Try.prog w = .ok (.enter g args) w) (h : RdW w v l) (hp : AskW w g lb p l) :
    Calls Try.prog 36 #[v, .func (.func g) #[] lb] w fun e w' => e = .returned (.tuple #[.int .i64 (fnI (lstF p l)), .bool (lstF p l).isSome]) ∧ Below w.heap.size w w' := by
  have hla := slr_len h uW (P := Try.prog)
  have hm := slr_max h
  unfold maxLen at hm
  obtain ⟨F, hF⟩ : ∃ X, lstF p l = X := ⟨_, rfl⟩
  rw [hF]
  have HF := hid hF
  clear hF
  go_enter Try.func36, Try.ntmps36
  go_wp2_with fail
  go_loopw [6] (fun I wx => ∃ (k : Nat), (k : Int) ≤ l.length ∧ I = .int .i64 ((k : Int) - 1) ∧ Hid (lstF p (l.take k) = F) ∧ Below w.heap.size w wx) (fun I _ => (intOf I + 1).toNat)
  case atStart => exact ⟨l.length, by omega, by go_num, hid (by rw [List.take_length]; exact HF.out), Below.refl _ _⟩
  case round =>
    obtain ⟨k, hk, rfl, ht, hg⟩ := hrel
    cases k with
    | zero =>
      have hFn : F = none := by rw [← ht.out]; rfl
      subst hFn
      have hI : ((0 : Nat) : Int) - 1 = -1 := by omega
      rw [hI]
      clear ht HF
      go_wp2_with fail
      go_ret2
      exact ⟨rfl, hg⟩
    | succ j =>
      have hI : ((j + 1 : Nat) : Int) - 1 = (j : Int) := by omega
      rw [hI]
      have hjl : j < l.length := by omega
      have hj0 : (0 : Int) ≤ (j : Int) := by omega
      obtain ⟨b1, o1, nm, vc, r1, f0, f1, f2, f3, f4, e1, hc1⟩ := wrd_at (RdW.below h hg) j hjl
      have hc := hp wr nm vc l[j] hg (List.getElem_mem hjl) e1 hc1
      obtain ⟨ca, cq, rfl⟩ := slr_slice hc1
      have hit := lst_hit p l j hjl
      have miss := lst_take p l j hjl
      obtain ⟨X1, hX1⟩ : ∃ X, l[j].2.1 = X := ⟨_, rfl⟩
      obtain ⟨X2, hX2⟩ : ∃ X, l[j].2.2.1 = X := ⟨_, rfl⟩
      obtain ⟨X3, hX3⟩ : ∃ X, l[j].2.2.2.1 = X := ⟨_, rfl⟩
      rw [hX1] at f1 hc
      rw [hX2] at f2 hc
      rw [hX3] at f3 hc
      cases hpj : p l[j]
      · have ht2 : Hid (lstF p (l.take j) = F) := by
          show _ = _
          rw [← ht.out]
          exact (miss hpj).symm
        rw [hpj] at hc
        clear hpj ht e1 hit miss hX1 hX2 hX3 hp HF
        go_wp2_with (go_at_fn g; refine hc.mono ?_; rintro e w1 ⟨rfl, d1⟩)
        go_roundw
        case rel => exact ⟨j, by omega, by go_num, ht2, below_trans hg d1⟩
        case measure => simp [intOf]
      · have hFj : F = some j := by
          rw [← ht.out]
          exact hit hpj
        rw [hpj] at hc
        subst hFj
        clear hpj ht e1 hit miss hX1 hX2 hX3 hp HF hI
        go_wp2_with (go_at_fn g; refine hc.mono ?_; rintro e w1 ⟨rfl, d1⟩)
        go_ret2
        exact ⟨rfl, below_trans hg d1⟩

set_option maxHeartbeats 1000000 in
set_option maxRecDepth 100000 in
theorem w_pfind1 (nm s : ByteArray) (vc : Value) (x : Wd) (B : Nat) (W : World) (e0 : strOfNums x.1 = nm) (hb : bytesL x.1) (hc : RdO W vc x.2.2.2.2) (hs : W.cell? ⟨B, 0, none⟩ = some (.string s)) :
    Calls Try.prog 37 #[.agg #[.string nm, .int .i64 x.2.1, .int .i64 x.2.2.1, .int .u32 x.2.2.2.1, vc], .pointer (some ⟨B, 0, none⟩)] W fun e w' => e = .returned (.bool (decide (x.1 = L s))) ∧ Below W.heap.size W w' := by
  have hq := str_eq8 nm s _ (L s) hb (LB_bytes s) e0 (nums_LB s)
  obtain ⟨ca, cq, rfl⟩ := slr_slice hc
  obtain ⟨X1, hX1⟩ : ∃ X, x.2.1 = X := ⟨_, rfl⟩
  obtain ⟨X2, hX2⟩ : ∃ X, x.2.2.1 = X := ⟨_, rfl⟩
  obtain ⟨X3, hX3⟩ : ∃ X, x.2.2.2.1 = X := ⟨_, rfl⟩
  rw [hX1, hX2, hX3]
  have st := stands_new W #[.string nm, .int .i64 X1, .int .i64 X2, .int .u32 X3, .slice ca x.2.2.2.2.length cq] 51
  have bx := box_below W (.cells #[.string nm, .int .i64 X1, .int .i64 X2, .int .u32 X3, .slice ca x.2.2.2.2.length cq] 51)
  have z0 := st.cell 0 _ rfl
  have l0 := below_cell bx hs
  clear hX1 hX2 hX3 e0
  go_enter Try.func37, Try.ntmps37
  go_wp2_with fail
  go_ret
  exact ⟨rfl, bx⟩

set_option maxHeartbeats 1000000 in
set_option maxRecDepth 100000 in
theorem w_pmethod1 (nm s : ByteArray) (vc : Value) (x : Wd) (n : Int) (B B2 : Nat) (W : World) (e0 : strOfNums x.1 = nm) (hb : bytesL x.1) (hc : RdO W vc x.2.2.2.2) (hs : W.cell? ⟨B, 0, none⟩ = some (.int .i64 n)) (hs2 : W.cell? ⟨B2, 0, none⟩ = some (.string s)) :
    Calls Try.prog 59 #[.agg #[.string nm, .int .i64 x.2.1, .int .i64 x.2.2.1, .int .u32 x.2.2.2.1, vc], .pointer (some ⟨B, 0, none⟩), .pointer (some ⟨B2, 0, none⟩)] W fun e w' => e = .returned (.bool (decide (x.1 = L s) && decide (x.2.1 = n))) ∧ Below W.heap.size W w' := by
  have hq := str_eq8 nm s _ (L s) hb (LB_bytes s) e0 (nums_LB s)
  obtain ⟨ca, cq, rfl⟩ := slr_slice hc
  obtain ⟨X1, hX1⟩ : ∃ X, x.2.1 = X := ⟨_, rfl⟩
  obtain ⟨X2, hX2⟩ : ∃ X, x.2.2.1 = X := ⟨_, rfl⟩
  obtain ⟨X3, hX3⟩ : ∃ X, x.2.2.2.1 = X := ⟨_, rfl⟩
  rw [hX1, hX2, hX3]
  have st := stands_new W #[.string nm, .int .i64 X1, .int .i64 X2, .int .u32 X3, .slice ca x.2.2.2.2.length cq] 51
  have bx := box_below W (.cells #[.string nm, .int .i64 X1, .int .i64 X2, .int .u32 X3, .slice ca x.2.2.2.2.length cq] 51)
  have z0 := st.cell 0 _ rfl
  have z1 := st.cell 1 _ rfl
  have l0 := below_cell bx hs
  have l1 := below_cell bx hs2
  by_cases h1 : X1 = n
  · have hq1 : (X1 == n) = true := by simpa using h1
    rw [decide_eq_true h1, Bool.and_true]
    clear hX1 hX2 hX3 e0 h1
    go_enter Try.func59, Try.ntmps59
    go_wp2_with fail
    go_ret
    exact ⟨rfl, bx⟩
  · have hq1 : (X1 == n) = false := by simpa using h1
    rw [decide_eq_false h1, Bool.and_false]
    clear hX1 hX2 hX3 e0 h1
    go_enter Try.func59, Try.ntmps59
    go_wp2_with fail
    go_ret
    exact ⟨rfl, bx⟩

set_option maxHeartbeats 1000000 in
set_option maxRecDepth 100000 in
theorem w_pcode1 (nm : ByteArray) (c n : Int) (B : Nat) (W : World) (hs : W.cell? ⟨B, 0, none⟩ = some (.int .i64 n)) :
    Calls Try.prog 39 #[.agg #[.string nm, .int .i64 c], .pointer (some ⟨B, 0, none⟩)] W fun e w' => e = .returned (.bool (c == n)) ∧ Below W.heap.size W w' := by
  have st := stands_new W #[.string nm, .int .i64 c] 37
  have bx := box_below W (.cells #[.string nm, .int .i64 c] 37)
  have z1 := st.cell 1 _ rfl
  have l0 := below_cell bx hs
  go_enter Try.func39, Try.ntmps39
  go_wp2_with fail
  go_ret
  exact ⟨rfl, bx⟩

set_option maxHeartbeats 2000000 in
set_option maxRecDepth 100000 in
theorem w_p9find' (v : Mv) (m : Mc) (o s : ByteArray) (w : World) (h : RdW w v.vw m.words) (hby : ∀ x ∈ m.words, bytesL x.1) :
    Calls Try.prog 15 #[.agg (v.cs m o), .string s] w fun e w' => e = .returned (.tuple #[.int .i64 (fnI (fndF m.words (L s))), .bool (fndF m.words (L s)).isSome]) ∧ Below w.heap.size w w' := by
  have hmf : ∀ (fn : Fn) (first cap : Array Value) (w : World), (Instr.makeFunc fn first cap).run Try.prog w = .ok (.func fn first cap) w := fun _ _ _ _ => rfl
  have eg : ∀ args w, (callFunc 37 args).run Try.prog w = .ok (.enter 37 args) w := enters_of Try.func37 (by kernel_rfl) rfl
  have b1 := box_below w (.cells (v.cs m o) 32)
  have b2 := box_below (w.alloc (.cells (v.cs m o) 32)) (.cells #[.string s] 9)
  have k2 := ((stands_new w (v.cs m o) 32).below b2).cell 2 v.vw rfl
  have z0 := (stands_new (w.alloc (.cells (v.cs m o) 32)) #[.string s] 9).cell 0 _ rfl
  rw [size_al] at z0
  have bw := below_trans b1 b2
  obtain ⟨F, hF⟩ : ∃ X, fndF m.words (L s) = X := ⟨_, rfl⟩
  rw [hF]
  obtain ⟨wa, wq, hvw⟩ := slr_slice h
  by_cases h0 : s = ⟨#[]⟩
  · have q0 : (s.toList == (⟨#[]⟩ : ByteArray).toList) = true := by subst h0; decide +kernel
    have q1 : s.toList.isEmpty = true := by subst h0; decide +kernel
    have hF2 : F = none := by
      rw [← hF, h0]
      exact fnd_nil _
    subst hF2
    obtain ⟨U, hU⟩ : ∃ X, v.cs m o = X := ⟨_, rfl⟩
    rw [hU] at k2 z0 bw ⊢
    clear h0 hF hU b1 b2
    go_enter Try.func15, Try.ntmps15
    go_wp2_with fail
    go_ret2
    exact ⟨rfl, bw⟩
  · have q1 : (s.toList == (⟨#[]⟩ : ByteArray).toList) = false := by rw [str_beq]; exact decide_eq_false h0
    have q0 : s.toList.isEmpty = false := emp_no h0
    have hn : ¬ L s = [] := fun g => h0 (L_nil g)
    have hF2 : lstF (fun x : Wd => decide (x.1 = L s)) m.words = F := by rw [← hF]; unfold fndF; rw [if_neg hn]
    have ha : AskW ((w.alloc (.cells (v.cs m o) 32)).alloc (.cells #[.string s] 9)) 37 #[.pointer (some ⟨w.heap.size + 1, 0, none⟩)] (fun x => decide (x.1 = L s)) m.words := by
      intro W nm vc x hb hx e0 hc
      exact w_pfind1 nm s vc x _ W e0 (hby x hx) hc (below_cell hb z0)
    have hc := w_pnewest v.vw m.words _ _ _ _ eg (RdW.below h bw) ha
    rw [hF2] at hc
    obtain ⟨U, hU⟩ : ∃ X, v.cs m o = X := ⟨_, rfl⟩
    rw [hU] at k2 z0 bw hc ⊢
    rw [hvw] at k2 hc
    clear h0 hF hF2 hU b1 b2 ha hn
    go_enter Try.func15, Try.ntmps15
    go_wp2_with (go_at_call 36; refine hc.mono ?_; rintro e w1 ⟨rfl, d1⟩)
    go_ret2
    exact ⟨rfl, below_trans bw d1⟩

set_option maxHeartbeats 2000000 in
set_option maxRecDepth 100000 in
theorem w_p9method' (v : Mv) (m : Mc) (o s : ByteArray) (n : Int) (w : World) (h : RdW w v.vw m.words) (hby : ∀ x ∈ m.words, bytesL x.1) :
    Calls Try.prog 25 #[.agg (v.cs m o), .int .i64 n, .string s] w fun e w' => e = .returned (.tuple #[.int .i64 (fnI (mthF m.words n (L s))), .bool (mthF m.words n (L s)).isSome]) ∧ Below w.heap.size w w' := by
  have hmf : ∀ (fn : Fn) (first cap : Array Value) (w : World), (Instr.makeFunc fn first cap).run Try.prog w = .ok (.func fn first cap) w := fun _ _ _ _ => rfl
  have eg : ∀ args w, (callFunc 59 args).run Try.prog w = .ok (.enter 59 args) w := enters_of Try.func59 (by kernel_rfl) rfl
  have b1 := box_below w (.cells (v.cs m o) 32)
  have b2 := box_below (w.alloc (.cells (v.cs m o) 32)) (.cells #[.int .i64 n] 3)
  have b3 := box_below ((w.alloc (.cells (v.cs m o) 32)).alloc (.cells #[.int .i64 n] 3)) (.cells #[.string s] 9)
  have k2 := (((stands_new w (v.cs m o) 32).below b2).below b3).cell 2 v.vw rfl
  have z0 := ((stands_new (w.alloc (.cells (v.cs m o) 32)) #[.int .i64 n] 3).below b3).cell 0 _ rfl
  have z1 := (stands_new ((w.alloc (.cells (v.cs m o) 32)).alloc (.cells #[.int .i64 n] 3)) #[.string s] 9).cell 0 _ rfl
  rw [size_al] at z0
  rw [size_al, size_al] at z1
  have bw := below_trans (below_trans b1 b2) b3
  obtain ⟨F, hF⟩ : ∃ X, mthF m.words n (L s) = X := ⟨_, rfl⟩
  rw [hF]
  obtain ⟨wa, wq, hvw⟩ := slr_slice h
  by_cases h0 : s = ⟨#[]⟩
  · have q0 : (s.toList == (⟨#[]⟩ : ByteArray).toList) = true := by subst h0; decide +kernel
    have q1 : s.toList.isEmpty = true := by subst h0; decide +kernel
    have hF2 : F = none := by
      rw [← hF]
      unfold mthF
      rw [if_pos]
      left
      subst h0
      decide +kernel
    subst hF2
    obtain ⟨U, hU⟩ : ∃ X, v.cs m o = X := ⟨_, rfl⟩
    rw [hU] at k2 z0 z1 bw ⊢
    clear h0 hF hU b1 b2 b3
    go_enter Try.func25, Try.ntmps25
    go_wp2_with fail
    go_ret2
    exact ⟨rfl, bw⟩
  · have q1 : (s.toList == (⟨#[]⟩ : ByteArray).toList) = false := by rw [str_beq]; exact decide_eq_false h0
    have q0 : s.toList.isEmpty = false := emp_no h0
    by_cases hn0 : n < 0
    · have hF2 : F = none := by
        rw [← hF]
        unfold mthF
        rw [if_pos (Or.inr hn0)]
      subst hF2
      have q3 : decide (n < 0) = true := decide_eq_true hn0
      obtain ⟨U, hU⟩ : ∃ X, v.cs m o = X := ⟨_, rfl⟩
      rw [hU] at k2 z0 z1 bw ⊢
      clear h0 hF hU b1 b2 b3
      go_enter Try.func25, Try.ntmps25
      go_wp2_with fail
      go_ret2
      exact ⟨rfl, bw⟩
    · have hn : ¬ (L s = [] ∨ n < 0) := fun g => g.elim (fun g => h0 (L_nil g)) hn0
      have q3 : decide (n < 0) = false := decide_eq_false hn0
      have hF2 : lstF (fun x : Wd => decide (x.1 = L s) && decide (x.2.1 = n)) m.words = F := by rw [← hF]; unfold mthF; rw [if_neg hn]
      have ha : AskW (((w.alloc (.cells (v.cs m o) 32)).alloc (.cells #[.int .i64 n] 3)).alloc (.cells #[.string s] 9)) 59 #[.pointer (some ⟨w.heap.size + 1, 0, none⟩), .pointer (some ⟨w.heap.size + 1 + 1, 0, none⟩)] (fun x => decide (x.1 = L s) && decide (x.2.1 = n)) m.words := by
        intro W nm vc x hb hx e0 hc
        exact w_pmethod1 nm s vc x n _ _ W e0 (hby x hx) hc (below_cell hb z0) (below_cell hb z1)
      have hc := w_pnewest v.vw m.words _ _ _ _ eg (RdW.below h bw) ha
      rw [hF2] at hc
      obtain ⟨U, hU⟩ : ∃ X, v.cs m o = X := ⟨_, rfl⟩
      rw [hU] at k2 z0 z1 bw hc ⊢
      rw [hvw] at k2 hc
      clear h0 hF hF2 hU b1 b2 b3 ha hn
      go_enter Try.func25, Try.ntmps25
      go_wp2_with (go_at_call 36; refine hc.mono ?_; rintro e w1 ⟨rfl, d1⟩)
      go_ret2
      exact ⟨rfl, below_trans bw d1⟩

set_option maxHeartbeats 2000000 in
set_option maxRecDepth 100000 in
theorem w_pindexR (v : Value) (l : List (List Int × Int)) (n : Int) (B : Nat) (w : World) (h : SlR 2 prmR w v l) (hs : w.cell? ⟨B, 0, none⟩ = some (.int .i64 n)) :
    Calls Try.prog 38 #[v, .func (.func 39) #[] #[.pointer (some ⟨B, 0, none⟩)]] w fun e w' => e = .returned (.int .i64 (fdI (l.findIdx? (fun p => decide (p.2 = n))))) ∧ Below w.heap.size w w' := by
  have eg : ∀ args w, (callFunc 39 args).run Try.prog w = .ok (.enter 39 args) w := enters_of Try.func39 (by kernel_rfl) rfl
  have hl := slr_len h uM (P := Try.prog)
  have hm := slr_max h
  unfold maxLen at hm
  obtain ⟨R, hR⟩ : ∃ R, fdI (l.findIdx? (fun p => decide (p.2 = n))) = R := ⟨_, rfl⟩
  rw [hR]
  have HR := hid hR
  clear hR
  go_enter Try.func38, Try.ntmps38
  go_wp2_with fail
  go_loopw [8] (fun I wx => ∃ k : Nat, (k : Int) ≤ l.length ∧ I = .int .i64 k ∧ Hid ((l.take k).findIdx? (fun p => decide (p.2 = n)) = none) ∧ Below w.heap.size w wx) (fun I _ => (l.length - intOf I).toNat)
  case atStart => exact ⟨0, by omega, rfl, hid rfl, Below.refl _ _⟩
  case round =>
    obtain ⟨k, hk, rfl, ht, hg⟩ := hrel
    by_cases hlt : (k : Int) < l.length
    · have hkl : k < l.length := by omega
      obtain ⟨b2, o2, nm, r2, f0, f1, e1⟩ := prm_cell (h.below hg (prmR_below hg)) k hkl
      have hit := fix_hit (fun p : List Int × Int => decide (p.2 = n)) l k hkl ht.out
      have miss := fix_take (fun p : List Int × Int => decide (p.2 = n)) l k hkl ht.out
      obtain ⟨X, hX⟩ : ∃ X, l[k].2 = X := ⟨_, rfl⟩
      rw [hX] at f1 hit miss
      have hc := w_pcode1 nm X n B wr (below_cell hg hs)
      by_cases hx : X = n
      · have q : (X == n) = true := by simp [hx]
        rw [q] at hc
        have hRk : Hid (R = (k : Int)) := by show _ = _; rw [← HR.out, hit (decide_eq_true hx)]; rfl
        clear hx hit miss hX ht e1 HR
        go_wp2_with (go_at_fn 39; refine hc.mono ?_; rintro e w1 ⟨rfl, d1⟩)
        go_ret
        rw [hRk.out]
        exact ⟨rfl, below_trans hg d1⟩
      · have q : (X == n) = false := by simpa using hx
        rw [q] at hc
        have ht2 := hid (miss (decide_eq_false hx))
        clear hx hit miss hX ht e1 HR
        go_wp2_with (go_at_fn 39; refine hc.mono ?_; rintro e w1 ⟨rfl, d1⟩)
        go_roundw
        case rel => exact ⟨k + 1, by omega, by go_num, ht2, below_trans hg d1⟩
        case measure => simp [intOf]; omega
    · have hRn : Hid (R = -1) := by
        show _ = _
        have := ht.out
        rw [List.take_of_length_le (by omega)] at this
        rw [← HR.out, this]
        rfl
      clear ht HR
      go_wp2_with fail
      go_ret
      rw [hRn.out]
      exact ⟨rfl, hg⟩

set_option maxHeartbeats 2000000 in
set_option maxRecDepth 100000 in
theorem w_p9code' (v : Mv) (m : Mc) (o : ByteArray) (n : Int) (w : World) (h : Rd .i64 w v.vc m.codes) (hn : (Lit.int .i64 n).wf = true) :
    Calls Try.prog 16 #[.agg (v.cs m o), .int .i64 n] w fun e w' => e = .returned (.tuple #[.int .i64 (cdI (codF m.codes n)), .bool (codF m.codes n).isSome]) ∧ Below w.heap.size w w' := by
  have hmf : ∀ (fn : Fn) (first cap : Array Value) (w : World), (Instr.makeFunc fn first cap).run Try.prog w = .ok (.func fn first cap) w := fun _ _ _ _ => rfl
  have hn2 : -9223372036854775808 ≤ n ∧ n ≤ 9223372036854775807 := by
    simp [Lit.wf, IntKind.min, IntKind.max, IntKind.bits, IntKind.signed] at hn
    omega
  have b1 := box_below w (.cells (v.cs m o) 32)
  have b2 := box_below (w.alloc (.cells (v.cs m o) 32)) (.cells #[.int .i64 n] 3)
  have k3 := ((stands_new w (v.cs m o) 32).below b2).cell 3 v.vc rfl
  have z0 := (stands_new (w.alloc (.cells (v.cs m o) 32)) #[.int .i64 n] 3).cell 0 _ rfl
  rw [size_al] at z0
  have bw := below_trans b1 b2
  clear b1 b2
  obtain ⟨U, hU⟩ : ∃ X, v.cs m o = X := ⟨_, rfl⟩
  rw [hU] at k3 z0 bw ⊢
  clear hU
  obtain ⟨F, hF⟩ : ∃ X, codF m.codes n = X := ⟨_, rfl⟩
  rw [hF]
  by_cases h0 : 2048 ≤ n
  · have hla := rd_len h uJ (P := Try.prog)
    unfold codF at hF
    rw [if_pos h0] at hF
    by_cases h1 : n - 2048 < (m.codes.length : Int)
    · obtain ⟨ad, r1, hc⟩ := rd_idx (h.below bw) uJ zJ (n - 2048) (by omega) h1
      have hi : (n - 2048).toNat < m.codes.length := by omega
      rw [List.getElem?_eq_getElem hi] at hF
      rw [List.getD_eq_getElem?_getD, List.getElem?_eq_getElem hi, Option.getD_some] at hc
      simp only at hF
      obtain ⟨X, hX⟩ : ∃ X, m.codes[(n - 2048).toNat] = X := ⟨_, rfl⟩
      rw [hX] at hF hc
      by_cases h2 : X = -1
      · rw [if_pos h2] at hF
        subst hF
        have q : (X == -1) = true := by simp [h2]
        clear h2 hX
        go_enter Try.func16, Try.ntmps16
        go_wp2_with fail
        go_ret2
        exact ⟨rfl, bw⟩
      · rw [if_neg h2] at hF
        subst hF
        have q : (X == -1) = false := by simpa using h2
        clear h2 hX
        go_enter Try.func16, Try.ntmps16
        go_wp2_with fail
        go_ret2
        exact ⟨rfl, bw⟩
    · rw [List.getElem?_eq_none (by omega)] at hF
      simp only at hF
      subst hF
      go_enter Try.func16, Try.ntmps16
      go_wp2_with fail
      go_ret2
      exact ⟨rfl, bw⟩
  · unfold codF at hF
    rw [if_neg h0] at hF
    have ci := fun v1 W (q : SlR 2 prmR W v1 prmL) (z : W.cell? ⟨w.heap.size + 1, 0, none⟩ = some (.int .i64 n)) => w_pindexR v1 prmL n (w.heap.size + 1) W q z
    cases hI : prmL.findIdx? (fun p => decide (p.2 = n)) with
    | none =>
      rw [hI] at hF
      simp only [hI] at ci
      have hFn : F = none := hF.symm
      subst hFn
      have e1 : fdI none = -1 := rfl
      rw [e1] at ci
      clear hI hF e1
      go_enter Try.func16, Try.ntmps16
      go_wp2_with (first
        | (go_at_call 13; refine (w_p9primsO _).mono ?_; rintro e q1 ⟨u1, rfl, p1, d1⟩; have y0 := below_cell d1 z0; obtain ⟨cs1, p1r⟩ := p1.row; obtain ⟨a1, c1, rfl⟩ := own_form p1r)
        | (go_at_call 38; refine (ci _ _ (p1.read (R := prmR) (by decide) (fun _ _ q => q)) y0).mono ?_; rintro e q2 ⟨rfl, d2⟩))
      go_ret2
      exact ⟨rfl, below_trans bw (below_trans d1 d2)⟩
    | some k =>
      rw [hI] at hF
      simp only [hI] at ci
      have hFn : F = some (k : Int) := hF.symm
      subst hFn
      have e1 : fdI (some k) = (k : Int) := rfl
      rw [e1] at ci
      have q : ((k : Int) == -1) = false := by rw [beq_eq_false_iff_ne]; omega
      have hk : k < prmL.length := (List.findIdx?_eq_some_iff_getElem.1 hI).1
      rw [prm_len] at hk
      clear hI hF e1
      go_enter Try.func16, Try.ntmps16
      go_wp2_with (first
        | (go_at_call 13; refine (w_p9primsO _).mono ?_; rintro e q1 ⟨u1, rfl, p1, d1⟩; have y0 := below_cell d1 z0; obtain ⟨cs1, p1r⟩ := p1.row; obtain ⟨a1, c1, rfl⟩ := own_form p1r)
        | (go_at_call 38; refine (ci _ _ (p1.read (R := prmR) (by decide) (fun _ _ q => q)) y0).mono ?_; rintro e q2 ⟨rfl, d2⟩))
      go_ret2
      exact ⟨rfl, below_trans bw (below_trans d1 d2)⟩

end Go.Proofs.Ytfljcfpcokimcaa
