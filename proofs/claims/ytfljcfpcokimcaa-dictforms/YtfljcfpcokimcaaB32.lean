/-
  Texts of one proof, laid one behind the other: Rd9.
-/
import Derived.Test.YtfljcfpcokimcaaB31
namespace Go.Proofs.Ytfljcfpcokimcaa
open Go.ChangeShapes Go.WideShapes Go.ChangeAt Go.RowKit
set_option linter.unusedVariables false
set_option linter.unusedSimpArgs false

/-
  instsFormed of the document's answer.
-/
theorem pc_in (l : List Int) (c : Int) : (c ∈ l → pcF l 0 c < l.length) ∧ (¬ c ∈ l → pcF l 0 c = l.length) := by
  unfold pcF
  simp only [List.drop_zero, Nat.zero_add]
  induction l with
  | nil => simp [upTo]
  | cons x r ih =>
    by_cases h : x = c
    · subst h
      simp [upTo]
    · simp only [upTo, if_neg h, List.length_cons, List.mem_cons]
      constructor
      · intro g
        have := ih.1 (g.resolve_left (fun e => h e.symm))
        omega
      · intro g
        have := ih.2 (fun e => g (Or.inr e))
        omega
theorem ins_step {l : List Iz} {t : List Nd} {k : Nat} (h : k < l.length) (ha : (l.take k).all (okI l t) = true) (hx : okI l t l[k] = true) : (l.take (k + 1)).all (okI l t) = true := by
  rw [List.take_succ_eq_append_getElem h, List.all_append, ha]
  simp [hx]
theorem ins_no {l : List Iz} {t : List Nd} {k : Nat} (h : k < l.length) (hx : okI l t l[k] = false) : insF l t = false := by
  unfold insF
  have : l.all (okI l t) = false := by
    rw [List.all_eq_false]
    exact ⟨_, List.getElem_mem h, by simp [hx]⟩
  rw [this]
  simp
theorem chn_no {l : List Iz} {t : List Nd} {k : Nat} (h : k < l.length) (hx : chnF l 17 l[k].2.1 = false) : insF l t = false := by
  unfold insF
  have : l.all (fun x => chnF l 17 x.2.1) = false := by
    rw [List.all_eq_false]
    exact ⟨_, List.getElem_mem h, by simp [hx]⟩
  rw [this]
  simp
theorem chn_step {l : List Iz} {k : Nat} (h : k < l.length) (ha : (l.take k).all (fun x => chnF l 17 x.2.1) = true) (hx : chnF l 17 l[k].2.1 = true) : (l.take (k + 1)).all (fun x => chnF l 17 x.2.1) = true := by
  rw [List.take_succ_eq_append_getElem h, List.all_append, ha]
  simp [hx]
/-- parents that are right lie in the list -/
theorem ok_par {l : List Iz} {t : List Nd} (h : l.all (okI l t) = true) : ∀ x ∈ l, x.2.1 = -1 ∨ 0 ≤ x.2.1 ∧ x.2.1 < (l.length : Int) := by
  intro x hx
  have h1 := List.all_eq_true.1 h x hx
  unfold okI at h1
  split at h1
  · rw [decide_eq_true_eq] at h1
    left
    rw [h1]
  · simp only [Bool.and_eq_true, Bool.or_eq_true, decide_eq_true_eq] at h1
    rcases h1.2.2.2.2 with g | g
    · exact Or.inl g
    · right
      unfold alvF at g
      simp only [Bool.and_eq_true, decide_eq_true_eq] at g
      exact g.1

set_option maxHeartbeats 4000000 in
set_option maxRecDepth 100000 in
theorem w_r9insts (v vt : Value) (l : List Iz) (t : List Nd) (w : World) (h : RdI w v l) (ht : RdT w vt t) (bl : ∀ x ∈ l, bytesL x.2.2.1) (ll : ∀ x ∈ l, x.2.2.1.length ≤ maxLen) :
    Calls Try.prog 47 #[v, vt] w fun e w' => e = .returned (.bool (insF l t)) ∧ Below w.heap.size w w' := by
  have hla := slr_len h uI (P := Try.prog)
  have hlt9 := slr_len ht uN (P := Try.prog)
  by_cases h16 : (l.length : Int) ≤ 16
  · have ca := fun n W (g : Below w.heap.size w W) => w_r9alive v l n W (RdI.below h g)
    go_enter Try.func47, Try.ntmps47
    go_wp2_with fail
    go_loopw [5] (fun I wx => ∃ (k : Nat), (k : Int) ≤ l.length ∧ I = .int .i64 k ∧ Hid ((l.take k).all (okI l t) = true) ∧ Below w.heap.size w wx) (fun I _ => (l.length - intOf I).toNat)
    case atStart => exact ⟨0, by omega, rfl, hid rfl, Below.refl _ _⟩
    case round =>
      obtain ⟨k, hk, rfl, ha, hb⟩ := hrel
      by_cases hlt : (k : Int) < l.length
      · have hkl : k < l.length := by omega
        obtain ⟨b1, o1, ar, vc, r1, f0, f1, f2, f3, e1, hc⟩ := ins_at (RdI.below h hb) k hkl
        obtain ⟨cb, cq, rfl⟩ := rd_slice hc
        have yes := fun hx => hid (ins_step (t := t) hkl ha.out hx)
        have no := fun hx => hid (ins_no (t := t) hkl hx)
        have hok : okI l t l[k] = if l[k].1 = -1 then decide (l[k] = (-1, -1, [], [])) else decide (0 ≤ l[k].1 ∧ l[k].1 < t.length) && (decide (l[k].2.2.2.length = (t.getD l[k].1.toNat ([], [], 0, [], [])).2.2.2.2.length) && (decide (l[k].2.2.1.length ≤ 256) && (decide (¬ (47 : Int) ∈ l[k].2.2.1) && (decide (l[k].2.1 = -1) || alvF l l[k].2.1)))) := rfl
        have hby := bl _ (List.getElem_mem hkl)
        have hll := ll _ (List.getElem_mem hkl)
        have cI : ∀ W, Below wr.heap.size wr W → Calls Try.prog 68 #[.agg #[.int .i64 l[k].1, .int .i64 l[k].2.1, .string ar, .slice cb l[k].2.2.2.length cq], .agg #[.int .i64 (-1), .int .i64 (-1), .string ⟨#[]⟩, .slice none 0 0]] W fun e w' => e = .returned (.bool (eqI l[k] (-1, -1, [], []))) ∧ Below W.heap.size W w' := fun W g => w_r9inst l[k] (-1, -1, [], []) ar ⟨#[]⟩ (.slice cb l[k].2.2.2.length cq) (.slice none 0 0) W e1 (by decide +kernel) (hc.below g) Rd_nil hby (fun x hx => by simp at hx)
        obtain ⟨EI, hEI⟩ : ∃ X, eqI l[k] (-1, -1, [], []) = X := ⟨_, rfl⟩
        simp only [hEI] at cI
        have hLa : L ar = l[k].2.2.1 := by rw [← e1]; exact LB_nums _ hby
        have hsz : ar.size = l[k].2.2.1.length := by rw [← L_len, hLa]
        have cp : ∀ W, Calls Try.prog 81 #[.string ar, .int .i64 0, .int .u8 47] W fun e w' => e = .returned (.int .i64 (pcF (L ar) 0 47)) ∧ w' = W := fun W => w_place ar 0 47 W (by omega) (by omega) (by decide) (by decide)
        have hpc := pc_in (L ar) 47
        rw [L_len] at hpc
        obtain ⟨PC, hPC⟩ : ∃ X, pcF (L ar) 0 47 = X := ⟨_, rfl⟩
        rw [hPC] at hpc
        simp only [hPC] at cp
        rw [← hsz, ← hLa] at hok
        obtain ⟨X, hX⟩ : ∃ X, l[k].1 = X := ⟨_, rfl⟩
        obtain ⟨Y, hY⟩ : ∃ X, l[k].2.1 = X := ⟨_, rfl⟩
        rw [hX, hY] at hok
        rw [hX] at f0
        rw [hY] at f1
        simp only [hX, hY] at cI
        have cA := ca Y
        obtain ⟨D, hD⟩ : ∃ D, alvF l Y = D := ⟨_, rfl⟩
        rw [hD] at hok
        simp only [hD] at cA
        have st := stands_new wr #[.int .i64 X, .int .i64 Y, .string ar, .slice cb l[k].2.2.2.length cq] 83
        have bx := box_below wr (.cells #[.int .i64 X, .int .i64 Y, .string ar, .slice cb l[k].2.2.2.length cq] 83)
        have g0 := st.cell 0 _ rfl
        have g1 := st.cell 1 _ rfl
        have g2 := st.cell 2 _ rfl
        have g3 := st.cell 3 _ rfl
        have hbx := below_trans hb bx
        clear hX hY hD hPC e1 hsz hLa hby hll st ca
        by_cases hX1 : X = -1
        · rw [if_pos hX1] at hok
          have q1 : (X == -1) = true := by simp [hX1]
          cases EI
          · have hf := no (by rw [hok]; exact hEI)
            clear yes no hok hEI ha hX1 cA cp hpc
            go_wp2_with (go_at_call 68; refine (cI _ bx).mono ?_; rintro e r2 ⟨rfl, b2⟩)
            go_ret
            exact ⟨ret_b hf.out.symm, below_trans hbx b2⟩
          · have hf := yes (by rw [hok]; exact hEI)
            clear yes no hok hEI ha hX1 cA cp hpc
            go_wp2_with (go_at_call 68; refine (cI _ bx).mono ?_; rintro e r2 ⟨rfl, b2⟩)
            go_roundw
            case rel => exact ⟨k + 1, by omega, by go_num, hf, below_trans hbx b2⟩
            case measure => simp [intOf]; omega
        · rw [if_neg hX1] at hok
          have q1 : (X == -1) = false := by simpa using hX1
          clear cI hEI hX1
          by_cases c1 : 0 ≤ X
          · by_cases c2 : X < (t.length : Int)
            · rw [decide_eq_true ⟨c1, c2⟩, Bool.true_and] at hok
              obtain ⟨j, rfl⟩ : ∃ j : Nat, X = (j : Int) := ⟨X.toNat, by omega⟩
              have hjt : j < t.length := by omega
              have n1 : decide ((j : Int) < 0) = false := by simp
              have n2 : decide (t.length ≤ j) = false := by simp; omega
              rw [Int.toNat_natCast, List.getD_eq_getElem?_getD, List.getElem?_eq_getElem hjt, Option.getD_some] at hok
              obtain ⟨bn, on, nn, vu, vp, vc2, rn, fn0, fn1, fn2, fn3, fn4, en, hun, hpn, hcn⟩ := nod_at (RdT.below ht hbx) j hjt
              have hlc := rd_len hcn uU (P := Try.prog)
              by_cases c3 : l[k].2.2.2.length = t[j].2.2.2.2.length
              · rw [decide_eq_true c3, Bool.true_and] at hok
                have q3 : ((l[k].2.2.2.length : Int) != (t[j].2.2.2.2.length : Int)) = false := by simp [c3]
                clear c3
                by_cases c4 : ar.size ≤ 256
                · rw [decide_eq_true c4, Bool.true_and] at hok
                  have c4i : (ar.size : Int) ≤ 256 := by omega
                  by_cases c5 : (47 : Int) ∈ L ar
                  · have hf := no (by rw [hok, decide_eq_false (fun g => g c5), Bool.false_and])
                    have q5 : (PC : Int) < (ar.size : Int) := by have := hpc.1 c5; omega
                    clear yes no hok ha hpc
                    go_wp2_with fail
                    go_quiet (first | (go_at_call 81; exact Calls.quiet_of_same (cp _)))
                    go_wp2_with fail
                    go_ret
                    exact ⟨ret_b hf.out.symm, below_drewN hbx _⟩
                  · rw [decide_eq_true c5, Bool.true_and] at hok
                    have q5 := hpc.2 c5
                    subst q5
                    by_cases c6 : Y = -1
                    · have hf := yes (by rw [hok, decide_eq_true c6]; rfl)
                      have q6 : (Y != -1) = false := by simp [c6]
                      clear yes no hok ha hpc c6
                      go_wp2_with fail
                      go_quiet (first | (go_at_call 81; exact Calls.quiet_of_same (cp _)))
                      go_wp2_with fail
                      go_roundw
                      case rel => exact ⟨k + 1, by omega, by go_num, hf, below_drewN hbx _⟩
                      case measure => simp [intOf]; omega
                    · rw [decide_eq_false c6, Bool.false_or] at hok
                      have q6 : (Y != -1) = true := by simpa using c6
                      cases D
                      · have hf := no hok
                        clear yes no hok ha hpc
                        go_wp2_with fail
                        go_quiet (first | (go_at_call 81; exact Calls.quiet_of_same (cp _)))
                        go_wp2_with (go_at_call 48; refine (cA _ (below_drewN hbx _)).mono ?_; rintro e r2 ⟨rfl, hr2⟩; subst r2)
                        go_ret
                        exact ⟨ret_b hf.out.symm, below_drewN hbx _⟩
                      · have hf := yes hok
                        clear yes no hok ha hpc
                        go_wp2_with fail
                        go_quiet (first | (go_at_call 81; exact Calls.quiet_of_same (cp _)))
                        go_wp2_with (go_at_call 48; refine (cA _ (below_drewN hbx _)).mono ?_; rintro e r2 ⟨rfl, hr2⟩; subst r2)
                        go_roundw
                        case rel => exact ⟨k + 1, by omega, by go_num, hf, below_drewN hbx _⟩
                        case measure => simp [intOf]; omega
                · have hf := no (by rw [hok, decide_eq_false c4, Bool.false_and])
                  have c4i : (256 : Int) < (ar.size : Int) := by omega
                  clear yes no hok ha hpc
                  go_wp2_with fail
                  go_quiet (fail)
                  go_wp2_with fail
                  go_ret
                  exact ⟨ret_b hf.out.symm, below_drewN hbx _⟩
              · have hf := no (by rw [hok, decide_eq_false c3, Bool.false_and])
                have q3 : ((l[k].2.2.2.length : Int) != (t[j].2.2.2.2.length : Int)) = true := by simp; omega
                clear c3 yes no hok ha hpc
                go_wp2_with fail
                go_quiet (fail)
                go_wp2_with fail
                go_ret
                exact ⟨ret_b hf.out.symm, below_drewN hbx _⟩
            · have hf := no (by rw [hok, decide_eq_false (fun g => c2 g.2), Bool.false_and])
              have n1 : decide (X < 0) = false := by simp; omega
              have n2 : decide ((t.length : Int) ≤ X) = true := by simp; omega
              clear yes no hok ha hpc
              go_wp2_with fail
              go_quiet (fail)
              go_wp2_with fail
              go_ret
              exact ⟨ret_b hf.out.symm, below_drewN hbx _⟩
          · have hf := no (by rw [hok, decide_eq_false (fun g => c1 g.1), Bool.false_and])
            have n1 : decide (X < 0) = true := by simp; omega
            clear yes no hok ha hpc
            go_wp2_with fail
            go_quiet (fail)
            go_wp2_with fail
            go_ret
            exact ⟨ret_b hf.out.symm, below_drewN hbx _⟩
      · have hall : l.all (okI l t) = true := by
          have := ha.out
          rwa [List.take_of_length_le (by omega)] at this
        have hpar := ok_par hall
        have HA := hid hall
        clear ha hall
        go_wp2_with fail
        go_loopw [7] (fun I wx => ∃ (k : Nat), (k : Int) ≤ l.length ∧ I = .int .i64 k ∧ Hid ((l.take k).all (fun x => chnF l 17 x.2.1) = true) ∧ Below w.heap.size w wx) (fun I _ => (l.length - intOf I).toNat)
        case atStart => exact ⟨0, by omega, rfl, hid rfl, hb⟩
        case round =>
          obtain ⟨i, hi, rfl, hch, hb2⟩ := hrel
          by_cases hli : (i : Int) < l.length
          · have hil : i < l.length := by omega
            obtain ⟨b1, o1, ar, vc, r1, f0, f1, f2, f3, e1, hc⟩ := ins_at (RdI.below h hb2) i hil
            have hp0 := hpar _ (List.getElem_mem hil)
            have yes := fun hx => hid (chn_step hil hch.out hx)
            have no := fun hx => hid (chn_no (t := t) hil hx)
            obtain ⟨Y, hY⟩ : ∃ X, l[i].2.1 = X := ⟨_, rfl⟩
            rw [hY] at f1 hp0 yes no
            clear hY e1 hch
            go_wp2_with fail
            go_loopw [8, 9] (fun A C wx => ∃ (c : Nat) (a : Int), (c : Int) ≤ 17 ∧ C = .int .i64 c ∧ A = .int .i64 a ∧ Hid (a = -1 ∨ 0 ≤ a ∧ a < (l.length : Int)) ∧ Hid (chnF l 17 Y = chnF l (17 - c) a) ∧ Below w.heap.size w wx) (fun _ C _ => (18 - intOf C).toNat)
            case atStart => exact ⟨0, Y, by omega, rfl, rfl, hid hp0, hid rfl, hb2⟩
            case round =>
              obtain ⟨c, a, hc17, rfl, rfl, hin, heq, hb3⟩ := hrel
              by_cases ha0 : 0 ≤ a
              · have hal : a < (l.length : Int) := by have := hin.out; omega
                obtain ⟨k, rfl⟩ : ∃ k : Nat, a = (k : Int) := ⟨a.toNat, by omega⟩
                have hkl : k < l.length := by omega
                by_cases h17 : (16 : Int) < c
                · have hc0 : 17 - c = 0 := by omega
                  have hf := no (by rw [heq.out, hc0]; simp [chnF])
                  clear yes no heq hin
                  go_wp2_with fail
                  go_ret
                  exact ⟨ret_b hf.out.symm, hb3⟩
                · obtain ⟨b4, o4, ar4, vc4, r4, j0, j1, j2, j3, e4, hc4⟩ := ins_at (RdI.below h hb3) k hkl
                  have hp4 := hpar _ (List.getElem_mem hkl)
                  have heq2 : Hid (chnF l 17 Y = chnF l (17 - (c + 1)) l[k].2.1) := by
                    show _ = _
                    rw [heq.out, show 17 - c = (17 - (c + 1)) + 1 by omega, chnF, Int.toNat_natCast, List.getD_eq_getElem?_getD, List.getElem?_eq_getElem hkl, Option.getD_some, decide_eq_false (by omega), Bool.false_or]
                  obtain ⟨Z, hZ⟩ : ∃ X, l[k].2.1 = X := ⟨_, rfl⟩
                  rw [hZ] at j1 hp4 heq2
                  clear yes no heq hin hZ e4
                  go_wp2_with fail
                  go_roundw
                  case rel => exact ⟨c + 1, Z, by omega, by go_num, rfl, hid hp4, heq2, hb3⟩
                  case measure => simp [intOf]; omega
              · have hf := yes (by
                  rw [heq.out]
                  cases 17 - c with
                  | zero => simp [chnF]; omega
                  | succ f => simp [chnF]; omega)
                clear yes no heq hin
                go_wp2_with fail
                go_roundw
                case rel => exact ⟨i + 1, by omega, by go_num, hf, hb3⟩
                case measure => simp [intOf]; omega
          · have hf : Hid (insF l t = true) := by
              show _ = _
              have := hch.out
              rw [List.take_of_length_le (by omega)] at this
              unfold insF
              rw [HA.out, this, decide_eq_true (by omega)]
              rfl
            clear hch HA
            go_wp2_with fail
            go_ret
            exact ⟨ret_b hf.out.symm, hb2⟩
  · have hf : Hid (insF l t = false) := by show _ = _; unfold insF; rw [decide_eq_false (by omega), Bool.false_and]
    go_enter Try.func47, Try.ntmps47
    go_wp2_with fail
    go_ret
    exact ⟨ret_b hf.out.symm, Below.refl _ _⟩

end Go.Proofs.Ytfljcfpcokimcaa
