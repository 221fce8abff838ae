/-
  Texts of one proof, laid one behind the other: Rp5 Ra1 Ra2 Ra3 Stp Pax Rt1 Rt2 Ow2 Plb Plp Tf0.
-/
import Derived.Test.YtkdaimagdmbnfabDoorB1
import Derived.Test.YtkdaimagdmbnfabDoorRows
import Derived.ChangeSame
import Derived.Deep.RegionLaw
import Derived.Lib.Bytealg
import Derived.Lib.BytesEntry
import Derived.Lib.ConvBytes
import Derived.Lib.AtoiErrMem
import Derived.Lib.Slices
import Derived.Laws.Externs
import Derived.Lib.Strings
import Derived.Lib.Walk
import Derived.Lib.BufferWrite
import Derived.Lib.UnsafeStr
import Derived.Lib.Hide
import Derived.Lib.IfaceEq
import Derived.Laws.MakeOwn
import Derived.Laws.Strings3
import Derived.Laws.Closers25
import Derived.Laws.Closers25b
import Derived.BigCall
import Derived.BigGuard
namespace Go.Proofs.YtkdaimagdmbnfabDoor
open Go.ChangeShapes Go.WideShapes Go.ChangeAt Go.RowKit
set_option linter.unusedVariables false
set_option linter.unusedSimpArgs false

/-
  ParseUnit and ShowUnit of the document's answer for properties.
-/
theorem uU : Tryd.prog.underlying 27 = some (.slice (Tryd.prog.elem 27)) := by kernel_rfl
theorem eU : Tryd.prog.elem 27 = 47 := by kernel_rfl
theorem zU (w : World) : (sizeOf (Tryd.prog.elem 27)).run Tryd.prog w = .ok 1 w := by rw [eU]; exact Tryd.sizeOf47 w

/-- the piece that is being read, and the pieces from it on -/
def pcAt (X : List Int) (f k : Nat) : List Int := (X.drop f).take (k - f)
def spR (X : List Int) (f k : Nat) : List (List Int) := if k ≤ X.length then spl 44 (pcAt X f k) (X.drop k) else []
theorem pcAt_len (X : List Int) (f k : Nat) (h1 : f ≤ k) (h2 : k ≤ X.length) : (pcAt X f k).length = k - f := by simp [pcAt]; omega
theorem pcAt_bytes {X : List Int} (h : bytesL X) (f k : Nat) : bytesL (pcAt X f k) := bytes_take (bytes_drop h f) _
theorem spR_on (X : List Int) (f k : Nat) (h1 : f ≤ k) (h2 : k < X.length) (hc : ¬ X[k] = 44) : spR X f (k + 1) = spR X f k := by
  unfold spR
  rw [if_pos (by omega), if_pos (by omega), List.drop_eq_getElem_cons h2, spl, if_neg hc]
  congr 1
  unfold pcAt
  rw [show k + 1 - f = (k - f) + 1 by omega, List.take_succ_eq_append_getElem (by simp; omega)]
  congr 2
  simp
  congr 1
  omega
theorem spR_cut (X : List Int) (f k : Nat) (h1 : f ≤ k) (h2 : k < X.length) (hc : X[k] = 44) : spR X f k = pcAt X f k :: spR X (k + 1) (k + 1) := by
  unfold spR
  rw [if_pos (by omega), if_pos (by omega), List.drop_eq_getElem_cons h2, spl, if_pos hc]
  simp [pcAt]
theorem spR_end (X : List Int) (f k : Nat) (h2 : k = X.length) : spR X f k = pcAt X f k :: spR X (k + 1) (k + 1) := by
  unfold spR
  rw [if_pos (by omega), if_neg (by omega), h2, List.drop_of_length_le (Nat.le_refl _)]
  rfl
theorem pun_bad (X : List Int) (done : List (List Int)) (p : List Int) (r : List (List Int)) (h : spl 44 [] X = done ++ (p :: r)) (hp : pcOk p = false) : punF X = ([], 15) := by
  unfold punF
  rw [if_pos]
  rw [h]
  simp [hp]
theorem pun_many (X : List Int) (done : List (List Int)) (h : spl 44 [] X = done) (ha : done.all pcOk = true) (hl : 4 < done.length) : punF X = ([], 3) := by
  unfold punF
  rw [h, ha, if_neg (by decide), if_pos hl]
theorem pun_ok (X : List Int) (done : List (List Int)) (h : spl 44 [] X = done) (ha : done.all pcOk = true) (hl : ¬ 4 < done.length) : punF X = ((done.take 4).map (num 16), 0) := by
  unfold punF
  rw [h, ha, if_neg (by decide), if_neg hl, List.take_of_length_le (by omega)]
theorem run_part {w : World} (s : ByteArray) (f k : Nat) (h1 : f ≤ k) (h2 : k ≤ s.size) : (Instr.slice 9 (.string s) (some (.int .i64 (f : Int))) (some (.int .i64 (k : Int))) none).run Tryd.prog w = .ok (.string (s.extract f k)) w := by
  simp [Instr.slice, Instr.sliceBounds, run_underlying Tryd.underlying9, run_sliceBound, h1, h2]
theorem L_part (s : ByteArray) (f k : Nat) (h2 : k ≤ s.size) : L (s.extract f k) = pcAt (L s) f k := L_extract s f k h2

/-- a row of cells of the call's own -/
def OwnU (base : Nat) (w : World) (v : Value) (xs : List Int) : Prop := w.ownsRow base 47 1 v xs.length (xs.map (Value.int .u32))

set_option maxHeartbeats 2000000 in
set_option maxRecDepth 100000 in
theorem w_rpunitO (s : ByteArray) (w : World) (hs : s.size ≤ 140737488355328) :
    Calls Tryd.prog 32 #[.string s] w fun e w' => ∃ v1, e = .returned (.tuple #[v1, .int .i64 (punF (L s)).2]) ∧ OwnU w.heap.size w' v1 (punF (L s)).1 ∧ Below w.heap.size w w' := by
  obtain ⟨A, E, hAE⟩ : ∃ A E, punF (L s) = (A, E) := ⟨_, _, rfl⟩
  have HAE := hid hAE
  rw [hAE]
  show Calls _ _ _ _ fun e w' => ∃ v1, e = .returned (.tuple #[v1, .int .i64 E]) ∧ OwnU w.heap.size w' v1 A ∧ _
  clear hAE
  obtain ⟨i0, hi, hz0, hz1, hz2⟩ := info_parts infoU32
  go_enter Tryd.func32, Tryd.ntmps32
  go_wp2_with fail
  go_loopw [4, 5, 6, 7] (fun U F N I wx => ∃ (f k : Nat) (done : List (List Int)) (ys : List Int), (f : Int) ≤ k ∧ (k : Int) ≤ s.size + 1 ∧ F = .int .i64 f ∧ I = .int .i64 k ∧ N = .int .i64 done.length ∧ (done.length : Int) ≤ k ∧ Hid (spl 44 [] (L s) = done ++ spR (L s) f k) ∧ Hid (done.all pcOk = true) ∧ Hid (ys = (done.take 4).map (num 16)) ∧ (ys.length : Int) ≤ 4 ∧ wx.ownsRow w.heap.size 47 1 U ys.length (ys.map (Value.int .u32)) ∧ Below w.heap.size w wx) (fun _ _ _ I _ => (s.size + 1 - intOf I).toNat)
  case atStart => exact ⟨0, 0, [], [], by omega, by omega, rfl, rfl, rfl, by simp, hid (by simp [spR, pcAt]), hid rfl, hid rfl, by simp, World.ownsRow_nil _ _ _ _, Below.refl _ _⟩
  case round =>
    obtain ⟨f, k, done, ys, hfk, hk, rfl, rfl, rfl, hdk, hsp, hall, hys, hyl, ho, hb⟩ := hrel
    by_cases hend : (s.size : Int) < k
    · have e0 : spR (L s) f k = [] := by unfold spR; rw [if_neg (by rw [L_len]; omega)]
      have e1 := hsp.out
      rw [e0, List.append_nil] at e1
      by_cases h4 : (4 : Int) < done.length
      · have e := hid (pun_many (L s) done e1 hall.out (by omega))
        clear e0 e1
        go_wp2_with fail
        go_ret2
        obtain ⟨rfl, rfl⟩ := Prod.mk.inj (HAE.out.symm.trans e.out)
        exact ⟨_, rfl, World.ownsRow_nil _ _ _ _, hb⟩
      · have e := hid (pun_ok (L s) done e1 hall.out (by omega))
        clear e0 e1
        go_wp2_with fail
        go_ret2
        obtain ⟨rfl, rfl⟩ := Prod.mk.inj (HAE.out.symm.trans e.out)
        rw [hys.out] at ho
        exact ⟨_, rfl, ho, hb⟩
    · have hkn : k ≤ s.size := by omega
      have hfkn : f ≤ k := by omega
      by_cases hon : ∃ h : k < s.size, ¬ (s[k].toNat : Int) = 44
      · obtain ⟨hkk, hc⟩ := hon
        have hrun := run_at (w := wr) s k hkk (by unfold maxLen; omega)
        have e1 : Hid (spl 44 [] (L s) = done ++ spR (L s) f (k + 1)) := by
          show _ = _
          rw [spR_on (L s) f k hfkn (by rw [L_len]; exact hkk) (by rw [L_get s k hkk]; exact hc)]
          exact hsp.out
        obtain ⟨c, hcc⟩ : ∃ c, (s[k].toNat : Int) = c := ⟨_, rfl⟩
        rw [hcc] at hrun hc
        have hcb : (c != 44) = true := by simpa using hc
        have hkI : (k : Int) < s.size := by omega
        clear hcc hc
        go_wp2_with fail
        go_roundw
        case rel => exact ⟨f, k + 1, done, ys, by omega, by omega, rfl, by go_num, rfl, by omega, e1, hall, hys, hyl, ho, hb⟩
        case measure => simp [intOf]; omega
      · have hcase : (∃ h : k < s.size, (s[k].toNat : Int) = 44) ∨ k = s.size := by
          rcases Nat.lt_or_ge k s.size with h | h
          · refine Or.inl ⟨h, ?_⟩
            by_cases hq : (s[k].toNat : Int) = 44
            · exact hq
            · exact absurd ⟨h, hq⟩ hon
          · exact Or.inr (by omega)
        have hcut : spR (L s) f k = pcAt (L s) f k :: spR (L s) (k + 1) (k + 1) := by
          rcases hcase with ⟨hkk, hc⟩ | hq
          · exact spR_cut (L s) f k hfkn (by rw [L_len]; exact hkk) (by rw [L_get s k hkk]; exact hc)
          · exact spR_end (L s) f k (by rw [L_len]; exact hq)
        have hrp := run_part (w := wr) s f k hfkn hkn
        have hLp := L_part s f k hkn
        have hpl := pcAt_len (L s) f k hfkn (by rw [L_len]; exact hkn)
        have hpb := pcAt_bytes (LB_bytes s) f k
        have hTs : (s.extract f k).size = k - f := by rw [← L_len, hLp, hpl]
        have e1 := hsp.out
        rw [hcut] at e1
        rw [← L_LB] at hpb
        obtain ⟨p, hp⟩ : ∃ p, pcAt (L s) f k = p := ⟨_, rfl⟩
        obtain ⟨T, hT⟩ : ∃ T, s.extract f k = T := ⟨_, rfl⟩
        rw [hp] at e1 hLp hpl hpb
        rw [hT] at hrp hLp hTs
        have E1 := hid e1
        have hTm : T.size ≤ maxLen := by unfold maxLen; omega
        clear hcut hp hT hon e1
        have hgd : ∃ B1 B2 : Bool, (decide ((k : Int) < s.size) = B1) ∧ (B1 = false ∨ B1 = true ∧ B2 = false) := ⟨_, false, rfl, by cases decide ((k : Int) < s.size) <;> simp⟩
        clear hgd
        by_cases hbad : pcOk p = false
        · have e : Hid (punF (L s) = ([], 15)) := pun_bad (L s) done p _ E1.out hbad
          by_cases q1 : (T.size : Int) < 1
          · rcases hcase with ⟨hkk, hc⟩ | hq
            · have hrun := run_at (w := wr) s k hkk (by unfold maxLen; omega)
              rw [hc] at hrun
              have hkI : (k : Int) < s.size := by omega
              go_wp2_with fail
              go_ret2
              obtain ⟨rfl, rfl⟩ := Prod.mk.inj (HAE.out.symm.trans e.out)
              exact ⟨_, rfl, World.ownsRow_nil _ _ _ _, hb⟩
            · have hkI : ¬ (k : Int) < s.size := by omega
              clear hq
              go_wp2_with fail
              go_ret2
              obtain ⟨rfl, rfl⟩ := Prod.mk.inj (HAE.out.symm.trans e.out)
              exact ⟨_, rfl, World.ownsRow_nil _ _ _ _, hb⟩
          · by_cases q2 : (8 : Int) < T.size
            · rcases hcase with ⟨hkk, hc⟩ | hq
              · have hrun := run_at (w := wr) s k hkk (by unfold maxLen; omega)
                rw [hc] at hrun
                have hkI : (k : Int) < s.size := by omega
                go_wp2_with fail
                go_ret2
                obtain ⟨rfl, rfl⟩ := Prod.mk.inj (HAE.out.symm.trans e.out)
                exact ⟨_, rfl, World.ownsRow_nil _ _ _ _, hb⟩
              · have hkI : ¬ (k : Int) < s.size := by omega
                clear hq
                go_wp2_with fail
                go_ret2
                obtain ⟨rfl, rfl⟩ := Prod.mk.inj (HAE.out.symm.trans e.out)
                exact ⟨_, rfl, World.ownsRow_nil _ _ _ _, hb⟩
            · have hT0 : 0 < T.size := by omega
              have hr0 := fun w => run_at (w := w) T 0 hT0 hTm
              obtain ⟨d, hd⟩ : ∃ d, (T[0].toNat : Int) = d := ⟨_, rfl⟩
              have hdh : p.head? = some d := by
                rw [← hLp, ← hd, List.head?_eq_getElem?, List.getElem?_eq_getElem (by rw [L_len]; exact hT0), L_get T 0 hT0]
              have hdb := L_bd T 0 hT0
              rw [hd] at hr0 hdb
              rw [show ((0 : Nat) : Int) = 0 from rfl] at hr0
              obtain ⟨d0, d1⟩ := hdb
              by_cases q3 : d = 45
              · subst q3
                rcases hcase with ⟨hkk, hc⟩ | hq
                · have hrun := run_at (w := wr) s k hkk (by unfold maxLen; omega)
                  rw [hc] at hrun
                  have hkI : (k : Int) < s.size := by omega
                  clear hd hc
                  go_wp2_with fail
                  go_ret2
                  obtain ⟨rfl, rfl⟩ := Prod.mk.inj (HAE.out.symm.trans e.out)
                  exact ⟨_, rfl, World.ownsRow_nil _ _ _ _, hb⟩
                · have hkI : ¬ (k : Int) < s.size := by omega
                  clear hq hd
                  go_wp2_with fail
                  go_ret2
                  obtain ⟨rfl, rfl⟩ := Prod.mk.inj (HAE.out.symm.trans e.out)
                  exact ⟨_, rfl, World.ownsRow_nil _ _ _ _, hb⟩
              · have hcp := w_rparse T 16 wr hTm (by omega) (by omega)
                rw [hLp, pc_prs p hpb (by omega) (by omega) (by rw [hdh]; simp [q3]), if_neg (by rw [hbad]; decide)] at hcp
                have hdb : (d == 45) = false := by simp [q3]
                rcases hcase with ⟨hkk, hc⟩ | hq
                · have hrun := run_at (w := wr) s k hkk (by unfold maxLen; omega)
                  rw [hc] at hrun
                  have hkI : (k : Int) < s.size := by omega
                  clear hd hc q3
                  go_wp2_with (go_at_call 51; refine hcp.mono ?_; rintro e w1 ⟨rfl, b1⟩)
                  go_ret2
                  obtain ⟨rfl, rfl⟩ := Prod.mk.inj (HAE.out.symm.trans e.out)
                  exact ⟨_, rfl, World.ownsRow_nil _ _ _ _, below_trans hb b1⟩
                · have hkI : ¬ (k : Int) < s.size := by omega
                  clear hq hd q3
                  go_wp2_with (go_at_call 51; refine hcp.mono ?_; rintro e w1 ⟨rfl, b1⟩)
                  go_ret2
                  obtain ⟨rfl, rfl⟩ := Prod.mk.inj (HAE.out.symm.trans e.out)
                  exact ⟨_, rfl, World.ownsRow_nil _ _ _ _, below_trans hb b1⟩
        · have hok : pcOk p = true := by simpa using hbad
          have hok2 := hok
          simp [pcOk] at hok2
          have hT0 : 0 < T.size := by omega
          have q1 : ¬ (T.size : Int) < 1 := by omega
          have q2 : ¬ (8 : Int) < T.size := by omega
          have hr0 := fun w => run_at (w := w) T 0 hT0 hTm
          obtain ⟨d, hd⟩ : ∃ d, (T[0].toNat : Int) = d := ⟨_, rfl⟩
          have hdh : p.head? = some d := by
            rw [← hLp, ← hd, List.head?_eq_getElem?, List.getElem?_eq_getElem (by rw [L_len]; exact hT0), L_get T 0 hT0]
          have hdb := L_bd T 0 hT0
          rw [hd] at hr0 hdb
          rw [show ((0 : Nat) : Int) = 0 from rfl] at hr0
          obtain ⟨d0, d1⟩ := hdb
          have q3 : ¬ d = 45 := by
            intro h
            rw [h] at hdh
            rw [pc_minus p hdh] at hok
            cases hok
          have hdb : (d == 45) = false := by simp [q3]
          have hcp := w_rparse T 16 wr hTm (by omega) (by omega)
          rw [hLp, pc_prs p hpb (by omega) (by omega) (by rw [hdh]; simp [q3]), if_pos hok] at hcp
          have hnb := pc_num p hpb hok
          have E2 : Hid (spl 44 [] (L s) = (done ++ [p]) ++ spR (L s) (k + 1) (k + 1)) := by show _ = _; rw [E1.out]; simp
          have hall2 : Hid ((done ++ [p]).all pcOk = true) := by show _ = _; rw [List.all_append, hall.out]; simp [hok]
          obtain ⟨x, hx⟩ : ∃ x, num 16 p = x := ⟨_, rfl⟩
          have HX := hid hx
          simp only [hx] at hcp hnb
          obtain ⟨x0, x1⟩ := hnb
          have hdl : ((done ++ [p]).length : Int) = done.length + 1 := by simp
          by_cases h4 : (done.length : Int) + 1 ≤ 4
          · have hys2 : Hid (ys ++ [x] = ((done ++ [p]).take 4).map (num 16)) := by
              show _ = _
              rw [hys.out, List.take_of_length_le (by omega), List.take_of_length_le (by simp; omega), List.map_append, ← HX.out]
              rfl
            have hyd : (ys.length : Int) = done.length := by rw [hys.out, List.length_map, List.length_take]; omega
            clear hx hd q3 hbad hok hok2 hdh hLp hpl hpb
            rcases hcase with ⟨hkk, hc⟩ | hq
            · have hrun := run_at (w := wr) s k hkk (by unfold maxLen; omega)
              rw [hc] at hrun
              have hkI : (k : Int) < s.size := by omega
              clear hc
              go_wp2_with (first
                | (go_at_call 51; refine hcp.mono ?_; rintro e w1 ⟨rfl, b1⟩; have ho1 := own_below ho b1; have ho2 := World.ownsRow.alloc ho1 (.cells #[.int .u32 x] 47); have hb1 := below_trans hb b1; have hb2 := hb1.alloc hb1.size (.cells #[.int .u32 x] 47))
                | (at_builtin; refine wpList_append_rd (k := .u32) rfl _ _ 27 rfl w.heap.size 47 i0 4 Tryd.underlying27 hi hz0 hz1 hz2 _ ys rfl ho2 _ [x] rfl (rd_one _ x 47) (by unfold maxLen; simp; omega) (by simp; omega) hb2.size ?_; intro v4 w4 ho4 hg4))
              have hb4 := below_grown hb2 hg4 (fun k hk => (ho2.lt k hk).1)
              go_roundw
              case rel => exact ⟨k + 1, k + 1, done ++ [p], ys ++ [x], by omega, by omega, by go_num, by go_num, by rw [hdl], by omega, E2, hall2, hys2, by simp; omega, ho4, hb4⟩
              case measure => simp [intOf]; omega
            · have hkI : ¬ (k : Int) < s.size := by omega
              clear hq
              go_wp2_with (first
                | (go_at_call 51; refine hcp.mono ?_; rintro e w1 ⟨rfl, b1⟩; have ho1 := own_below ho b1; have ho2 := World.ownsRow.alloc ho1 (.cells #[.int .u32 x] 47); have hb1 := below_trans hb b1; have hb2 := hb1.alloc hb1.size (.cells #[.int .u32 x] 47))
                | (at_builtin; refine wpList_append_rd (k := .u32) rfl _ _ 27 rfl w.heap.size 47 i0 4 Tryd.underlying27 hi hz0 hz1 hz2 _ ys rfl ho2 _ [x] rfl (rd_one _ x 47) (by unfold maxLen; simp; omega) (by simp; omega) hb2.size ?_; intro v4 w4 ho4 hg4))
              have hb4 := below_grown hb2 hg4 (fun k hk => (ho2.lt k hk).1)
              go_roundw
              case rel => exact ⟨k + 1, k + 1, done ++ [p], ys ++ [x], by omega, by omega, by go_num, by go_num, by rw [hdl], by omega, E2, hall2, hys2, by simp; omega, ho4, hb4⟩
              case measure => simp [intOf]; omega
          · have hys2 : Hid (ys = ((done ++ [p]).take 4).map (num 16)) := by
              show _ = _
              rw [hys.out, List.take_append_of_le_length (by omega)]
            clear hx hd q3 hbad hok hok2 hdh hLp hpl hpb
            rcases hcase with ⟨hkk, hc⟩ | hq
            · have hrun := run_at (w := wr) s k hkk (by unfold maxLen; omega)
              rw [hc] at hrun
              have hkI : (k : Int) < s.size := by omega
              clear hc
              go_wp2_with (go_at_call 51; refine hcp.mono ?_; rintro e w1 ⟨rfl, b1⟩)
              go_roundw
              case rel => exact ⟨k + 1, k + 1, done ++ [p], ys, by omega, by omega, by go_num, by go_num, by rw [hdl], by omega, E2, hall2, hys2, hyl, own_below ho b1, below_trans hb b1⟩
              case measure => simp [intOf]; omega
            · have hkI : ¬ (k : Int) < s.size := by omega
              clear hq
              go_wp2_with (go_at_call 51; refine hcp.mono ?_; rintro e w1 ⟨rfl, b1⟩)
              go_roundw
              case rel => exact ⟨k + 1, k + 1, done ++ [p], ys, by omega, by omega, by go_num, by go_num, by rw [hdl], by omega, E2, hall2, hys2, hyl, own_below ho b1, below_trans hb b1⟩
              case measure => simp [intOf]; omega

theorem w_rpunit (s : ByteArray) (w : World) (hs : s.size ≤ 140737488355328) :
    Calls Tryd.prog 32 #[.string s] w fun e w' => ∃ v1, e = .returned (.tuple #[v1, .int .i64 (punF (L s)).2]) ∧ Rd .u32 w' v1 (punF (L s)).1 ∧ Below w.heap.size w w' :=
  (w_rpunitO s w hs).mono (by rintro e w' ⟨v1, h1, h2, h3⟩; exact ⟨v1, h1, (Rd_own h2).1, h3⟩)

/-
  Place and Tail of the document's answer for paths.
-/
/-- the place of the first c from i on -/
def pcF (l : List Int) (i : Nat) (c : Int) : Nat := i + (upTo c (l.drop i)).length
theorem pc_le (l : List Int) (i : Nat) (c : Int) (h : i ≤ l.length) : pcF l i c ≤ l.length := by
  have := upTo_len c (l.drop i)
  rw [List.length_drop] at this
  unfold pcF
  omega
theorem pc_ge (l : List Int) (i : Nat) (c : Int) : i ≤ pcF l i c := by unfold pcF; omega
theorem pc_end (l : List Int) (c : Int) : pcF l l.length c = l.length := by simp [pcF, upTo]
theorem pc_hit (l : List Int) (i : Nat) (c : Int) (r : List Int) (h : l.drop i = c :: r) : pcF l i c = i := by unfold pcF; rw [h]; simp [upTo]
theorem pc_miss (l : List Int) (i : Nat) (c x : Int) (r : List Int) (h : l.drop i = x :: r) (hx : ¬ x = c) : pcF l i c = pcF l (i + 1) c := by
  have e : l.drop (i + 1) = r := by rw [← List.drop_drop, h]; rfl
  unfold pcF
  rw [h, e, upTo, if_neg hx]
  simp
  omega

set_option maxHeartbeats 1000000 in
set_option maxRecDepth 100000 in
theorem w_place (s : ByteArray) (i : Nat) (c : Int) (w : World) (hs : s.size ≤ maxLen) (hi : i ≤ s.size) (c0 : 0 ≤ c) (c1 : c < 256) :
    Calls Tryd.prog 17 #[.string s, .int .i64 i, .int .u8 c] w fun e w' => e = .returned (.int .i64 (pcF (L s) i c)) ∧ w' = w := by
  have hs2 := hs
  unfold maxLen at hs2
  go_enter Tryd.func17, Tryd.ntmps17
  go_wp2_with fail
  go_loopw [1] (fun I wx => ∃ (k : Nat), (k : Int) ≤ s.size ∧ I = .int .i64 k ∧ Hid (pcF (L s) i c = pcF (L s) k c) ∧ wx = w) (fun I _ => (s.size - intOf I).toNat)
  case atStart => exact ⟨i, by omega, rfl, hid rfl, rfl⟩
  case round =>
    obtain ⟨k, hk, rfl, hp, hwx⟩ := hrel
    subst hwx
    by_cases hlt : (k : Int) < s.size
    · have hkk : k < s.size := by omega
      obtain ⟨x, hx⟩ : ∃ x, (s[k].toNat : Int) = x := ⟨_, rfl⟩
      have hrun := run_at (w := wr) s k hkk hs
      have hd := L_drop s k hkk
      rw [hx] at hrun hd
      by_cases hc : x = c
      · subst hc
        have hf : Hid (pcF (L s) i x = k) := by show _ = _; rw [hp.out, pc_hit _ _ _ _ hd]
        have hne : (x != x) = false := by simp
        clear hx hd
        go_wp2_with fail
        go_ret
        exact ⟨ret_i (by rw [hf.out]), rfl⟩
      · have hf : Hid (pcF (L s) i c = pcF (L s) (k + 1) c) := by show _ = _; rw [hp.out, pc_miss _ _ _ _ _ hd hc]
        have hne : (x != c) = true := by simpa using hc
        clear hx hd hc
        go_wp2_with fail
        go_roundw
        case rel => exact ⟨k + 1, by omega, by go_num, hf, by first | rfl | trivial⟩
        case measure => simp [intOf]; omega
    · obtain rfl : k = s.size := by omega
      have hf : Hid (pcF (L s) i c = s.size) := by
        show _ = _
        have := pc_end (L s) c
        rw [L_len] at this
        rw [hp.out, this]
      go_wp2_with fail
      go_ret
      exact ⟨ret_i (by rw [hf.out]), rfl⟩

/-- behind the last bar -/
def frmA (i f : Nat) : List Int → Nat
  | [] => f
  | c :: r => frmA (i + 1) (if c = 47 then i + 1 else f) r
theorem frm_le : ∀ (l : List Int) (i f : Nat), f ≤ i → frmA i f l ≤ i + l.length
  | [], i, f, h => by simpa [frmA] using h
  | c :: r, i, f, h => by
    have := frm_le r (i + 1) (if c = 47 then i + 1 else f) (by split <;> omega)
    simp only [frmA, List.length_cons]
    omega
/-- what Tail answers -/
def tlF (l : List Int) : List Int × List Int := if pcF l (frmA 0 0 l) 58 = l.length then (l, []) else (l.take (pcF l (frmA 0 0 l) 58), l.drop (pcF l (frmA 0 0 l) 58 + 1))

/-
  One step of a path, as the document's answer parses it.
-/
theorem pc0 (l : List Int) (c : Int) : pcF l 0 c = (upTo c l).length := by simp [pcF]
/-- the answer of a step that is taken -/
def stepA (s : ByteArray) (base : Nat) (x : Sp) (e : Ending) (w' : World) : Prop :=
  ∃ v nm ar, e = .returned (.tuple #[.agg #[.string nm, v, .string ar], .bool true]) ∧ L nm = x.1 ∧ L ar = x.2.2 ∧ OwnU base w' v x.2.1

set_option maxHeartbeats 4000000 in
set_option maxRecDepth 100000 in
theorem w_rstep_ok (s : ByteArray) (x : Sp) (w : World) (hs : s.size ≤ 140737488355328) (h : stepF (L s) = some x) :
    Calls Tryd.prog 18 #[.string s] w fun e w' => stepA s w.heap.size x e w' ∧ Below w.heap.size w w' := by
  have hm : s.size ≤ maxLen := by unfold maxLen; omega
  have hk := upTo_len 58 (L s)
  have hL1 := upTo_take 58 (L s)
  have c1 : ∀ w, Calls Tryd.prog 17 #[.string s, .int .i64 0, .int .u8 58] w fun e w' => e = .returned (.int .i64 (pcF (L s) 0 58)) ∧ w' = w := fun w => w_place s 0 58 w hm (by omega) (by decide) (by decide)
  rw [pc0] at c1
  rw [L_len] at hk
  obtain ⟨k, hkk⟩ : ∃ k, (upTo 58 (L s)).length = k := ⟨_, rfl⟩
  rw [hkk] at c1 hk hL1
  have hLp : L (s.extract 0 k) = upTo 58 (L s) := by rw [L_extract s 0 k hk]; simpa using hL1
  have hps : (s.extract 0 k).size = k := by rw [← L_len, hLp, hkk]
  have c2 : ∀ w, Calls Tryd.prog 17 #[.string (s.extract 0 k), .int .i64 0, .int .u8 64] w fun e w' => e = .returned (.int .i64 (pcF (L (s.extract 0 k)) 0 64)) ∧ w' = w := fun w => w_place (s.extract 0 k) 0 64 w (by rw [hps]; unfold maxLen; omega) (by omega) (by decide) (by decide)
  rw [pc0, hLp] at c2
  have ha := upTo_len 64 (upTo 58 (L s))
  have hL2 := upTo_take 64 (upTo 58 (L s))
  unfold stepF at h
  rw [hkk] at h ha
  obtain ⟨a, haa⟩ : ∃ a, (upTo 64 (upTo 58 (L s))).length = a := ⟨_, rfl⟩
  rw [haa] at h ha c2 hL2
  obtain ⟨p, hp⟩ : ∃ p, s.extract 0 k = p := ⟨_, rfl⟩
  rw [hp] at hLp hps c2
  have hLn : L (p.extract 0 a) = upTo 64 (upTo 58 (L s)) := by rw [L_extract p 0 a (by omega), hLp]; simpa using hL2
  have hLu : L (p.extract (a + 1) p.size) = (upTo 58 (L s)).drop (a + 1) := by rw [L_from, hLp]
  have hLa : L (s.extract (k + 1) s.size) = (L s).drop (k + 1) := L_from s (k + 1)
  split at h
  · cases h
  · rename_i h1
    split at h
    · rename_i h2
      have h := (Option.some.inj h).symm
      have hns : (p.extract 0 a).size = a := by rw [← L_len, hLn, haa]
      have hus : (p.extract (a + 1) p.size).size ≤ p.size := by rw [← L_len, L_from, List.length_drop, L_len]; omega
      have cn := fun w => w_rnamed (p.extract 0 a) w (by rw [hns]; unfold maxLen; omega)
      rw [hLn, h2] at cn
      have cu := fun w => w_rpunitO (p.extract (a + 1) p.size) w (by omega)
      rw [hLu] at cu
      obtain ⟨N, hN⟩ : ∃ N, p.extract 0 a = N := ⟨_, rfl⟩
      obtain ⟨R, hR⟩ : ∃ R, s.extract (k + 1) s.size = R := ⟨_, rfl⟩
      rw [hN] at cn hLn
      rw [hR] at hLa
      have z0 : (0 : Int) ≤ k := by omega
      have z1 : (k : Int) ≤ s.size := by omega
      have y0 : (0 : Int) ≤ a := by omega
      have y1 : (a : Int) ≤ p.size := by omega
      have hpI : (p.size : Int) = k := by omega
      by_cases hat : a < k
      · have hE : (punF ((upTo 58 (L s)).drop (a + 1))).2 = 0 := by
          by_cases e : (punF ((upTo 58 (L s)).drop (a + 1))).2 = 0
          · exact e
          · exact absurd ⟨hat, e⟩ h1
        obtain ⟨u, E, hu⟩ : ∃ u E, punF ((upTo 58 (L s)).drop (a + 1)) = (u, E) := ⟨_, _, rfl⟩
        rw [hu] at cu hE
        obtain rfl : E = 0 := hE
        have hx : x = (upTo 64 (upTo 58 (L s)), u, (L s).drop (k + 1)) := by rw [h, if_pos hat, hu]
        have Hx := hid hx
        obtain ⟨U, hU⟩ : ∃ U, p.extract (a + 1) p.size = U := ⟨_, rfl⟩
        rw [hU] at cu
        have y2 : (a : Int) + 1 ≤ p.size := by omega
        have y3 : (0 : Int) ≤ (a : Int) + 1 := by omega
        have y4 : (a : Int) < k := by omega
        clear h h1 h2 hx hu hL1 hL2 hkk haa hLu hLp hps hns hus hat
        by_cases hc : (k : Int) < s.size
        · skip
          have z2 : (k : Int) + 1 ≤ s.size := by omega
          have z3 : (0 : Int) ≤ (k : Int) + 1 := by omega
          go_enter Tryd.func18, Tryd.ntmps18
          go_wp2_with (first
            | (go_at_call_of 17 (Value.string s); refine (c1 _).mono ?_; rintro e w1 ⟨rfl, rfl⟩)
            | (go_at_call_of 17 (Value.string p); refine (c2 _).mono ?_; rintro e w1 ⟨rfl, rfl⟩)
            | (go_at_call 32; refine (cu _).mono ?_; rintro e w2 ⟨v2, rfl, o2, b2⟩; refine Hid.out ?_))
          obtain ⟨ao, cap, rfl⟩ := own_form o2
          have t0 : Stands w2 w.heap.size #[.string ⟨#[]⟩, .slice none 0 0, .string ⟨#[]⟩] 43 := ((stands_new w _ _).below (box_below _ _)).below b2
          have t1 : Stands w2 (w.heap.size + 1) #[.string ⟨#[]⟩, .slice none 0 0, .string R] 43 := by
            have := (stands_new (w.alloc (.cells #[.string ⟨#[]⟩, .slice none 0 0, .string ⟨#[]⟩] 43)) #[.string ⟨#[]⟩, .slice none 0 0, .string R] 43).below b2
            rwa [size_al] at this
          have m0 := t1.cell 0 _ rfl
          have m1 := t1.cell 1 _ rfl
          have m2 := t1.cell 2 _ rfl
          have f1 := t1.free
          have hgb := b2.size
          rw [size_al, size_al] at o2 hgb
          refine hid ?_
          go_wp2_with fail
          obtain ⟨W3, hW3, s1, s0, oW, bW⟩ : ∃ W3, ((w2.setCell ⟨w.heap.size + 1, 1, none⟩ (.slice ao u.length cap)).setCell ⟨w.heap.size + 1, 0, none⟩ (.string N)) = W3 ∧ Stands W3 (w.heap.size + 1) #[.string N, .slice ao u.length cap, .string R] 43 ∧ Stands W3 w.heap.size #[.string ⟨#[]⟩, .slice none 0 0, .string ⟨#[]⟩] 43 ∧ OwnU (w.heap.size + 1 + 1) W3 (.slice ao u.length cap) u ∧ Below w.heap.size w W3 :=
            ⟨_, rfl, (t1.set 1 _).set 0 _, (t0.other 1 _ (by omega)).other 0 _ (by omega), own_other (own_other o2 _ 1 _ (by omega)) _ 0 _ (by omega), below_set (below_set (below_trans (below_trans (box_below w _) (box_below _ _)) b2) _ 1 _ (by omega)) _ 0 _ (by omega)⟩
          rw [hW3]
          clear hW3 t0 t1 m0 m1 m2 f1 o2 b2 hgb
          have q0 := s1.cell 0 _ rfl
          have q1 := s1.cell 1 _ rfl
          have q2 := s1.cell 2 _ rfl
          have r0 := s0.cell 0 _ rfl
          have r1 := s0.cell 1 _ rfl
          have r2 := s0.cell 2 _ rfl
          have g0 := s0.free
          go_region_with (go_at_call 33; refine (cn _).mono ?_; rintro e w4 ⟨rfl, b4⟩; have s1' := (show Stands W3.drew _ _ _ from s1).below b4; have s0' := (show Stands W3.drew _ _ _ from s0).below b4; have q0' := s1'.cell 0 _ rfl; have q1' := s1'.cell 1 _ rfl; have q2' := s1'.cell 2 _ rfl; have r0' := s0'.cell 0 _ rfl; have r1' := s0'.cell 1 _ rfl; have r2' := s0'.cell 2 _ rfl; have g0' := s0'.free)
          all_goals (
            go_wp2_with fail
            obtain ⟨W5, hW5, s5, o5, b5⟩ : ∃ W5, (((w4.setCell ⟨w.heap.size, 0, none⟩ (.string N)).setCell ⟨w.heap.size, 1, none⟩ (.slice ao u.length cap)).setCell ⟨w.heap.size, 2, none⟩ (.string R)) = W5 ∧ Stands W5 w.heap.size #[.string N, .slice ao u.length cap, .string R] 43 ∧ OwnU w.heap.size W5 (.slice ao u.length cap) u ∧ Below w.heap.size w W5 :=
              ⟨_, rfl, ((s0'.set 0 _).set 1 _).set 2 _, own_le (by omega) (own_other (own_other (own_other (own_below (show OwnU (w.heap.size + 1 + 1) W3.drew _ _ from oW) b4) _ 0 _ (by omega)) _ 1 _ (by omega)) _ 2 _ (by omega)), below_set (below_set (below_set (below_trans (show Below w.heap.size w W3.drew from below_drewN bW 1) b4) _ 0 _ (Nat.le_refl _)) _ 1 _ (Nat.le_refl _)) _ 2 _ (Nat.le_refl _)⟩
            rw [hW5]
            have x0 := s5.cell 0 _ rfl
            have x1 := s5.cell 1 _ rfl
            have x2 := s5.cell 2 _ rfl
            refine bodyPost_ret (v := .tuple #[.agg #[.string N, .slice ao u.length cap, .string R], .bool true]) (by simp [results, Tryd.results18, go_sem, x0, x1, x2]) rfl ⟨⟨_, N, R, rfl, ?_, ?_, ?_⟩, b5⟩
            · rw [Hx.out, hLn]
            · rw [Hx.out, hLa]
            · rw [Hx.out]; exact o5)
        · skip
          have hR0 : (L s).drop (k + 1) = [] := List.drop_of_length_le (by rw [L_len]; omega)
          go_enter Tryd.func18, Tryd.ntmps18
          go_wp2_with (first
            | (go_at_call_of 17 (Value.string s); refine (c1 _).mono ?_; rintro e w1 ⟨rfl, rfl⟩)
            | (go_at_call_of 17 (Value.string p); refine (c2 _).mono ?_; rintro e w1 ⟨rfl, rfl⟩)
            | (go_at_call 32; refine (cu _).mono ?_; rintro e w2 ⟨v2, rfl, o2, b2⟩; refine Hid.out ?_))
          obtain ⟨ao, cap, rfl⟩ := own_form o2
          have t0 : Stands w2 w.heap.size #[.string ⟨#[]⟩, .slice none 0 0, .string ⟨#[]⟩] 43 := ((stands_new w _ _).below (box_below _ _)).below b2
          have t1 : Stands w2 (w.heap.size + 1) #[.string ⟨#[]⟩, .slice none 0 0, .string ⟨#[]⟩] 43 := by
            have := (stands_new (w.alloc (.cells #[.string ⟨#[]⟩, .slice none 0 0, .string ⟨#[]⟩] 43)) #[.string ⟨#[]⟩, .slice none 0 0, .string ⟨#[]⟩] 43).below b2
            rwa [size_al] at this
          have m0 := t1.cell 0 _ rfl
          have m1 := t1.cell 1 _ rfl
          have m2 := t1.cell 2 _ rfl
          have f1 := t1.free
          have hgb := b2.size
          rw [size_al, size_al] at o2 hgb
          refine hid ?_
          go_wp2_with fail
          obtain ⟨W3, hW3, s1, s0, oW, bW⟩ : ∃ W3, ((w2.setCell ⟨w.heap.size + 1, 1, none⟩ (.slice ao u.length cap)).setCell ⟨w.heap.size + 1, 0, none⟩ (.string N)) = W3 ∧ Stands W3 (w.heap.size + 1) #[.string N, .slice ao u.length cap, .string ⟨#[]⟩] 43 ∧ Stands W3 w.heap.size #[.string ⟨#[]⟩, .slice none 0 0, .string ⟨#[]⟩] 43 ∧ OwnU (w.heap.size + 1 + 1) W3 (.slice ao u.length cap) u ∧ Below w.heap.size w W3 :=
            ⟨_, rfl, (t1.set 1 _).set 0 _, (t0.other 1 _ (by omega)).other 0 _ (by omega), own_other (own_other o2 _ 1 _ (by omega)) _ 0 _ (by omega), below_set (below_set (below_trans (below_trans (box_below w _) (box_below _ _)) b2) _ 1 _ (by omega)) _ 0 _ (by omega)⟩
          rw [hW3]
          clear hW3 t0 t1 m0 m1 m2 f1 o2 b2 hgb
          have q0 := s1.cell 0 _ rfl
          have q1 := s1.cell 1 _ rfl
          have q2 := s1.cell 2 _ rfl
          have r0 := s0.cell 0 _ rfl
          have r1 := s0.cell 1 _ rfl
          have r2 := s0.cell 2 _ rfl
          have g0 := s0.free
          go_region_with (go_at_call 33; refine (cn _).mono ?_; rintro e w4 ⟨rfl, b4⟩; have s1' := (show Stands W3.drew _ _ _ from s1).below b4; have s0' := (show Stands W3.drew _ _ _ from s0).below b4; have q0' := s1'.cell 0 _ rfl; have q1' := s1'.cell 1 _ rfl; have q2' := s1'.cell 2 _ rfl; have r0' := s0'.cell 0 _ rfl; have r1' := s0'.cell 1 _ rfl; have r2' := s0'.cell 2 _ rfl; have g0' := s0'.free)
          all_goals (
            go_wp2_with fail
            obtain ⟨W5, hW5, s5, o5, b5⟩ : ∃ W5, (((w4.setCell ⟨w.heap.size, 0, none⟩ (.string N)).setCell ⟨w.heap.size, 1, none⟩ (.slice ao u.length cap)).setCell ⟨w.heap.size, 2, none⟩ (.string ⟨#[]⟩)) = W5 ∧ Stands W5 w.heap.size #[.string N, .slice ao u.length cap, .string ⟨#[]⟩] 43 ∧ OwnU w.heap.size W5 (.slice ao u.length cap) u ∧ Below w.heap.size w W5 :=
              ⟨_, rfl, ((s0'.set 0 _).set 1 _).set 2 _, own_le (by omega) (own_other (own_other (own_other (own_below (show OwnU (w.heap.size + 1 + 1) W3.drew _ _ from oW) b4) _ 0 _ (by omega)) _ 1 _ (by omega)) _ 2 _ (by omega)), below_set (below_set (below_set (below_trans (show Below w.heap.size w W3.drew from below_drewN bW 1) b4) _ 0 _ (Nat.le_refl _)) _ 1 _ (Nat.le_refl _)) _ 2 _ (Nat.le_refl _)⟩
            rw [hW5]
            have x0 := s5.cell 0 _ rfl
            have x1 := s5.cell 1 _ rfl
            have x2 := s5.cell 2 _ rfl
            refine bodyPost_ret (v := .tuple #[.agg #[.string N, .slice ao u.length cap, .string ⟨#[]⟩], .bool true]) (by simp [results, Tryd.results18, go_sem, x0, x1, x2]) rfl ⟨⟨_, N, ⟨#[]⟩, rfl, ?_, ?_, ?_⟩, b5⟩
            · rw [Hx.out, hLn]
            · rw [Hx.out]; exact hR0.symm
            · rw [Hx.out]; exact o5)
      · have hx : x = (upTo 64 (upTo 58 (L s)), [], (L s).drop (k + 1)) := by rw [h, if_neg hat]
        have Hx := hid hx
        have y4 : ¬ (a : Int) < k := by omega
        clear h h1 h2 hx hL1 hL2 hkk haa hLu hLp hps hns hus hat cu
        by_cases hc : (k : Int) < s.size
        · skip
          have z2 : (k : Int) + 1 ≤ s.size := by omega
          have z3 : (0 : Int) ≤ (k : Int) + 1 := by omega
          go_enter Tryd.func18, Tryd.ntmps18
          go_wp2_with (first
            | (go_at_call_of 17 (Value.string s); refine (c1 _).mono ?_; rintro e w1 ⟨rfl, rfl⟩)
            | (go_at_call_of 17 (Value.string p); refine (c2 _).mono ?_; rintro e w1 ⟨rfl, rfl⟩))
          obtain ⟨W3, hW3, s1, s0, oW, bW⟩ : ∃ W3, ((w.alloc (.cells #[.string ⟨#[]⟩, .slice none 0 0, .string ⟨#[]⟩] 43)).alloc (.cells #[.string N, .slice none 0 0, .string R] 43)) = W3 ∧ Stands W3 (w.heap.size + 1) #[.string N, .slice none 0 0, .string R] 43 ∧ Stands W3 w.heap.size #[.string ⟨#[]⟩, .slice none 0 0, .string ⟨#[]⟩] 43 ∧ OwnU (w.heap.size + 1 + 1) W3 (.slice none 0 0) [] ∧ Below w.heap.size w W3 :=
            ⟨_, rfl, by have := stands_new (w.alloc (.cells #[.string ⟨#[]⟩, .slice none 0 0, .string ⟨#[]⟩] 43)) #[.string N, .slice none 0 0, .string R] 43; rwa [size_al] at this, (stands_new w _ _).below (box_below _ _), World.ownsRow_nil _ _ _ _, below_trans (box_below w _) (box_below _ _)⟩
          rw [hW3]
          clear hW3
          have q0 := s1.cell 0 _ rfl
          have q1 := s1.cell 1 _ rfl
          have q2 := s1.cell 2 _ rfl
          have r0 := s0.cell 0 _ rfl
          have r1 := s0.cell 1 _ rfl
          have r2 := s0.cell 2 _ rfl
          have g0 := s0.free
          go_region_with (go_at_call 33; refine (cn _).mono ?_; rintro e w4 ⟨rfl, b4⟩; have s1' := (show Stands W3.drew _ _ _ from s1).below b4; have s0' := (show Stands W3.drew _ _ _ from s0).below b4; have q0' := s1'.cell 0 _ rfl; have q1' := s1'.cell 1 _ rfl; have q2' := s1'.cell 2 _ rfl; have r0' := s0'.cell 0 _ rfl; have r1' := s0'.cell 1 _ rfl; have r2' := s0'.cell 2 _ rfl; have g0' := s0'.free)
          all_goals (
            go_wp2_with fail
            obtain ⟨W5, hW5, s5, o5, b5⟩ : ∃ W5, (((w4.setCell ⟨w.heap.size, 0, none⟩ (.string N)).setCell ⟨w.heap.size, 1, none⟩ (.slice none 0 0)).setCell ⟨w.heap.size, 2, none⟩ (.string R)) = W5 ∧ Stands W5 w.heap.size #[.string N, .slice none 0 0, .string R] 43 ∧ OwnU w.heap.size W5 (.slice none 0 0) [] ∧ Below w.heap.size w W5 :=
              ⟨_, rfl, ((s0'.set 0 _).set 1 _).set 2 _, own_le (by omega) (own_other (own_other (own_other (own_below (show OwnU (w.heap.size + 1 + 1) W3.drew _ _ from oW) b4) _ 0 _ (by omega)) _ 1 _ (by omega)) _ 2 _ (by omega)), below_set (below_set (below_set (below_trans (show Below w.heap.size w W3.drew from below_drewN bW 1) b4) _ 0 _ (Nat.le_refl _)) _ 1 _ (Nat.le_refl _)) _ 2 _ (Nat.le_refl _)⟩
            rw [hW5]
            have x0 := s5.cell 0 _ rfl
            have x1 := s5.cell 1 _ rfl
            have x2 := s5.cell 2 _ rfl
            refine bodyPost_ret (v := .tuple #[.agg #[.string N, .slice none 0 0, .string R], .bool true]) (by simp [results, Tryd.results18, go_sem, x0, x1, x2]) rfl ⟨⟨_, N, R, rfl, ?_, ?_, ?_⟩, b5⟩
            · rw [Hx.out, hLn]
            · rw [Hx.out, hLa]
            · rw [Hx.out]; exact o5)
        · skip
          have hR0 : (L s).drop (k + 1) = [] := List.drop_of_length_le (by rw [L_len]; omega)
          go_enter Tryd.func18, Tryd.ntmps18
          go_wp2_with (first
            | (go_at_call_of 17 (Value.string s); refine (c1 _).mono ?_; rintro e w1 ⟨rfl, rfl⟩)
            | (go_at_call_of 17 (Value.string p); refine (c2 _).mono ?_; rintro e w1 ⟨rfl, rfl⟩))
          obtain ⟨W3, hW3, s1, s0, oW, bW⟩ : ∃ W3, ((w.alloc (.cells #[.string ⟨#[]⟩, .slice none 0 0, .string ⟨#[]⟩] 43)).alloc (.cells #[.string N, .slice none 0 0, .string ⟨#[]⟩] 43)) = W3 ∧ Stands W3 (w.heap.size + 1) #[.string N, .slice none 0 0, .string ⟨#[]⟩] 43 ∧ Stands W3 w.heap.size #[.string ⟨#[]⟩, .slice none 0 0, .string ⟨#[]⟩] 43 ∧ OwnU (w.heap.size + 1 + 1) W3 (.slice none 0 0) [] ∧ Below w.heap.size w W3 :=
            ⟨_, rfl, by have := stands_new (w.alloc (.cells #[.string ⟨#[]⟩, .slice none 0 0, .string ⟨#[]⟩] 43)) #[.string N, .slice none 0 0, .string ⟨#[]⟩] 43; rwa [size_al] at this, (stands_new w _ _).below (box_below _ _), World.ownsRow_nil _ _ _ _, below_trans (box_below w _) (box_below _ _)⟩
          rw [hW3]
          clear hW3
          have q0 := s1.cell 0 _ rfl
          have q1 := s1.cell 1 _ rfl
          have q2 := s1.cell 2 _ rfl
          have r0 := s0.cell 0 _ rfl
          have r1 := s0.cell 1 _ rfl
          have r2 := s0.cell 2 _ rfl
          have g0 := s0.free
          go_region_with (go_at_call 33; refine (cn _).mono ?_; rintro e w4 ⟨rfl, b4⟩; have s1' := (show Stands W3.drew _ _ _ from s1).below b4; have s0' := (show Stands W3.drew _ _ _ from s0).below b4; have q0' := s1'.cell 0 _ rfl; have q1' := s1'.cell 1 _ rfl; have q2' := s1'.cell 2 _ rfl; have r0' := s0'.cell 0 _ rfl; have r1' := s0'.cell 1 _ rfl; have r2' := s0'.cell 2 _ rfl; have g0' := s0'.free)
          all_goals (
            go_wp2_with fail
            obtain ⟨W5, hW5, s5, o5, b5⟩ : ∃ W5, (((w4.setCell ⟨w.heap.size, 0, none⟩ (.string N)).setCell ⟨w.heap.size, 1, none⟩ (.slice none 0 0)).setCell ⟨w.heap.size, 2, none⟩ (.string ⟨#[]⟩)) = W5 ∧ Stands W5 w.heap.size #[.string N, .slice none 0 0, .string ⟨#[]⟩] 43 ∧ OwnU w.heap.size W5 (.slice none 0 0) [] ∧ Below w.heap.size w W5 :=
              ⟨_, rfl, ((s0'.set 0 _).set 1 _).set 2 _, own_le (by omega) (own_other (own_other (own_other (own_below (show OwnU (w.heap.size + 1 + 1) W3.drew _ _ from oW) b4) _ 0 _ (by omega)) _ 1 _ (by omega)) _ 2 _ (by omega)), below_set (below_set (below_set (below_trans (show Below w.heap.size w W3.drew from below_drewN bW 1) b4) _ 0 _ (Nat.le_refl _)) _ 1 _ (Nat.le_refl _)) _ 2 _ (Nat.le_refl _)⟩
            rw [hW5]
            have x0 := s5.cell 0 _ rfl
            have x1 := s5.cell 1 _ rfl
            have x2 := s5.cell 2 _ rfl
            refine bodyPost_ret (v := .tuple #[.agg #[.string N, .slice none 0 0, .string ⟨#[]⟩], .bool true]) (by simp [results, Tryd.results18, go_sem, x0, x1, x2]) rfl ⟨⟨_, N, ⟨#[]⟩, rfl, ?_, ?_, ?_⟩, b5⟩
            · rw [Hx.out, hLn]
            · rw [Hx.out]; exact hR0.symm
            · rw [Hx.out]; exact o5)
    · cases h

set_option maxHeartbeats 4000000 in
set_option maxRecDepth 100000 in
theorem w_rstep_no (s : ByteArray) (w : World) (hs : s.size ≤ 140737488355328) (h : stepF (L s) = none) :
    Calls Tryd.prog 18 #[.string s] w fun e w' => (∃ nm ao n cap ar, e = .returned (.tuple #[.agg #[.string nm, .slice ao n cap, .string ar], .bool false])) ∧ Below w.heap.size w w' := by
  have hm : s.size ≤ maxLen := by unfold maxLen; omega
  have hk := upTo_len 58 (L s)
  have hL1 := upTo_take 58 (L s)
  have c1 : ∀ w, Calls Tryd.prog 17 #[.string s, .int .i64 0, .int .u8 58] w fun e w' => e = .returned (.int .i64 (pcF (L s) 0 58)) ∧ w' = w := fun w => w_place s 0 58 w hm (by omega) (by decide) (by decide)
  rw [pc0] at c1
  rw [L_len] at hk
  obtain ⟨k, hkk⟩ : ∃ k, (upTo 58 (L s)).length = k := ⟨_, rfl⟩
  rw [hkk] at c1 hk hL1
  have hLp : L (s.extract 0 k) = upTo 58 (L s) := by rw [L_extract s 0 k hk]; simpa using hL1
  have hps : (s.extract 0 k).size = k := by rw [← L_len, hLp, hkk]
  have c2 : ∀ w, Calls Tryd.prog 17 #[.string (s.extract 0 k), .int .i64 0, .int .u8 64] w fun e w' => e = .returned (.int .i64 (pcF (L (s.extract 0 k)) 0 64)) ∧ w' = w := fun w => w_place (s.extract 0 k) 0 64 w (by rw [hps]; unfold maxLen; omega) (by omega) (by decide) (by decide)
  rw [pc0, hLp] at c2
  have ha := upTo_len 64 (upTo 58 (L s))
  have hL2 := upTo_take 64 (upTo 58 (L s))
  unfold stepF at h
  rw [hkk] at h ha
  obtain ⟨a, haa⟩ : ∃ a, (upTo 64 (upTo 58 (L s))).length = a := ⟨_, rfl⟩
  rw [haa] at h ha c2 hL2
  obtain ⟨p, hp⟩ : ∃ p, s.extract 0 k = p := ⟨_, rfl⟩
  rw [hp] at hLp hps c2
  have hLn : L (p.extract 0 a) = upTo 64 (upTo 58 (L s)) := by rw [L_extract p 0 a (by omega), hLp]; simpa using hL2
  have hLu : L (p.extract (a + 1) p.size) = (upTo 58 (L s)).drop (a + 1) := by rw [L_from, hLp]
  have hLa : L (s.extract (k + 1) s.size) = (L s).drop (k + 1) := L_from s (k + 1)
  have hns : (p.extract 0 a).size = a := by rw [← L_len, hLn, haa]
  have hus : (p.extract (a + 1) p.size).size ≤ p.size := by rw [← L_len, L_from, List.length_drop, L_len]; omega
  have cn := fun w => w_rnamed (p.extract 0 a) w (by rw [hns]; unfold maxLen; omega)
  rw [hLn] at cn
  have cu := fun w => w_rpunitO (p.extract (a + 1) p.size) w (by omega)
  rw [hLu] at cu
  obtain ⟨N, hN⟩ : ∃ N, p.extract 0 a = N := ⟨_, rfl⟩
  obtain ⟨R, hR⟩ : ∃ R, s.extract (k + 1) s.size = R := ⟨_, rfl⟩
  rw [hN] at cn hLn
  rw [hR] at hLa
  have z0 : (0 : Int) ≤ k := by omega
  have z1 : (k : Int) ≤ s.size := by omega
  have y0 : (0 : Int) ≤ a := by omega
  have y1 : (a : Int) ≤ p.size := by omega
  have hpI : (p.size : Int) = k := by omega
  by_cases hbad : a < k ∧ ¬ (punF ((upTo 58 (L s)).drop (a + 1))).2 = 0
  · obtain ⟨hat, hE⟩ := hbad
    obtain ⟨u, E, hu⟩ : ∃ u E, punF ((upTo 58 (L s)).drop (a + 1)) = (u, E) := ⟨_, _, rfl⟩
    rw [hu] at cu hE
    have hEn : (E != 0) = true := by simpa using hE
    obtain ⟨U, hU⟩ : ∃ U, p.extract (a + 1) p.size = U := ⟨_, rfl⟩
    rw [hU] at cu
    have y2 : (a : Int) + 1 ≤ p.size := by omega
    have y3 : (0 : Int) ≤ (a : Int) + 1 := by omega
    have y4 : (a : Int) < k := by omega
    clear h hu hL1 hL2 hkk haa hLu hLp hps hns hus hat cn hE
    by_cases hc : (k : Int) < s.size
    ·
          have z2 : (k : Int) + 1 ≤ s.size := by omega
          have z3 : (0 : Int) ≤ (k : Int) + 1 := by omega
          go_enter Tryd.func18, Tryd.ntmps18
          go_wp2_with (first
            | (go_at_call_of 17 (Value.string s); refine (c1 _).mono ?_; rintro e w1 ⟨rfl, rfl⟩)
            | (go_at_call_of 17 (Value.string p); refine (c2 _).mono ?_; rintro e w1 ⟨rfl, rfl⟩)
            | (go_at_call 32; refine (cu _).mono ?_; rintro e w2 ⟨v2, rfl, o2, b2⟩; refine Hid.out ?_))
          obtain ⟨ao, cap, rfl⟩ := own_form o2
          have t0 : Stands w2 w.heap.size #[.string ⟨#[]⟩, .slice none 0 0, .string ⟨#[]⟩] 43 := ((stands_new w _ _).below (box_below _ _)).below b2
          have m0 := t0.cell 0 _ rfl
          have m1 := t0.cell 1 _ rfl
          have m2 := t0.cell 2 _ rfl
          have f1 := t0.free
          refine hid ?_
          go_wp2_with fail
          obtain ⟨W5, hW5, s5, b5⟩ : ∃ W5, (((w2.setCell ⟨w.heap.size, 0, none⟩ (.string ⟨#[]⟩)).setCell ⟨w.heap.size, 1, none⟩ (.slice none 0 0)).setCell ⟨w.heap.size, 2, none⟩ (.string ⟨#[]⟩)) = W5 ∧ Stands W5 w.heap.size #[.string ⟨#[]⟩, .slice none 0 0, .string ⟨#[]⟩] 43 ∧ Below w.heap.size w W5 :=
            ⟨_, rfl, ((t0.set 0 _).set 1 _).set 2 _, below_set (below_set (below_set (below_trans (below_trans (box_below w _) (box_below _ _)) b2) _ 0 _ (Nat.le_refl _)) _ 1 _ (Nat.le_refl _)) _ 2 _ (Nat.le_refl _)⟩
          rw [hW5]
          have x0 := s5.cell 0 _ rfl
          have x1 := s5.cell 1 _ rfl
          have x2 := s5.cell 2 _ rfl
          exact bodyPost_ret (v := .tuple #[.agg #[.string ⟨#[]⟩, .slice none 0 0, .string ⟨#[]⟩], .bool false]) (by simp [results, Tryd.results18, go_sem, x0, x1, x2]) rfl ⟨⟨_, _, _, _, _, rfl⟩, b5⟩
    ·
          have hR0 : (L s).drop (k + 1) = [] := List.drop_of_length_le (by rw [L_len]; omega)
          go_enter Tryd.func18, Tryd.ntmps18
          go_wp2_with (first
            | (go_at_call_of 17 (Value.string s); refine (c1 _).mono ?_; rintro e w1 ⟨rfl, rfl⟩)
            | (go_at_call_of 17 (Value.string p); refine (c2 _).mono ?_; rintro e w1 ⟨rfl, rfl⟩)
            | (go_at_call 32; refine (cu _).mono ?_; rintro e w2 ⟨v2, rfl, o2, b2⟩; refine Hid.out ?_))
          obtain ⟨ao, cap, rfl⟩ := own_form o2
          have t0 : Stands w2 w.heap.size #[.string ⟨#[]⟩, .slice none 0 0, .string ⟨#[]⟩] 43 := ((stands_new w _ _).below (box_below _ _)).below b2
          have m0 := t0.cell 0 _ rfl
          have m1 := t0.cell 1 _ rfl
          have m2 := t0.cell 2 _ rfl
          have f1 := t0.free
          refine hid ?_
          go_wp2_with fail
          obtain ⟨W5, hW5, s5, b5⟩ : ∃ W5, (((w2.setCell ⟨w.heap.size, 0, none⟩ (.string ⟨#[]⟩)).setCell ⟨w.heap.size, 1, none⟩ (.slice none 0 0)).setCell ⟨w.heap.size, 2, none⟩ (.string ⟨#[]⟩)) = W5 ∧ Stands W5 w.heap.size #[.string ⟨#[]⟩, .slice none 0 0, .string ⟨#[]⟩] 43 ∧ Below w.heap.size w W5 :=
            ⟨_, rfl, ((t0.set 0 _).set 1 _).set 2 _, below_set (below_set (below_set (below_trans (below_trans (box_below w _) (box_below _ _)) b2) _ 0 _ (Nat.le_refl _)) _ 1 _ (Nat.le_refl _)) _ 2 _ (Nat.le_refl _)⟩
          rw [hW5]
          have x0 := s5.cell 0 _ rfl
          have x1 := s5.cell 1 _ rfl
          have x2 := s5.cell 2 _ rfl
          exact bodyPost_ret (v := .tuple #[.agg #[.string ⟨#[]⟩, .slice none 0 0, .string ⟨#[]⟩], .bool false]) (by simp [results, Tryd.results18, go_sem, x0, x1, x2]) rfl ⟨⟨_, _, _, _, _, rfl⟩, b5⟩
  · rw [if_neg hbad] at h
    have h2 : nmF (upTo 64 (upTo 58 (L s))) = false := by
      cases e : nmF (upTo 64 (upTo 58 (L s)))
      · rfl
      · rw [if_pos e] at h; cases h
    rw [h2] at cn
    by_cases hat : a < k
    · have hE : (punF ((upTo 58 (L s)).drop (a + 1))).2 = 0 := by
        by_cases e : (punF ((upTo 58 (L s)).drop (a + 1))).2 = 0
        · exact e
        · exact absurd ⟨hat, e⟩ hbad
      obtain ⟨u, E, hu⟩ : ∃ u E, punF ((upTo 58 (L s)).drop (a + 1)) = (u, E) := ⟨_, _, rfl⟩
      rw [hu] at cu hE
      obtain rfl : E = 0 := hE
      obtain ⟨U, hU⟩ : ∃ U, p.extract (a + 1) p.size = U := ⟨_, rfl⟩
      rw [hU] at cu
      have y2 : (a : Int) + 1 ≤ p.size := by omega
      have y3 : (0 : Int) ≤ (a : Int) + 1 := by omega
      have y4 : (a : Int) < k := by omega
      clear h hbad h2 hu hL1 hL2 hkk haa hLu hLp hps hns hus hat
      by_cases hc : (k : Int) < s.size
      ·
          have z2 : (k : Int) + 1 ≤ s.size := by omega
          have z3 : (0 : Int) ≤ (k : Int) + 1 := by omega
          go_enter Tryd.func18, Tryd.ntmps18
          go_wp2_with (first
            | (go_at_call_of 17 (Value.string s); refine (c1 _).mono ?_; rintro e w1 ⟨rfl, rfl⟩)
            | (go_at_call_of 17 (Value.string p); refine (c2 _).mono ?_; rintro e w1 ⟨rfl, rfl⟩)
            | (go_at_call 32; refine (cu _).mono ?_; rintro e w2 ⟨v2, rfl, o2, b2⟩; refine Hid.out ?_))
          obtain ⟨ao, cap, rfl⟩ := own_form o2
          have t0 : Stands w2 w.heap.size #[.string ⟨#[]⟩, .slice none 0 0, .string ⟨#[]⟩] 43 := ((stands_new w _ _).below (box_below _ _)).below b2
          have t1 : Stands w2 (w.heap.size + 1) #[.string ⟨#[]⟩, .slice none 0 0, .string R] 43 := by
            have := (stands_new (w.alloc (.cells #[.string ⟨#[]⟩, .slice none 0 0, .string ⟨#[]⟩] 43)) #[.string ⟨#[]⟩, .slice none 0 0, .string R] 43).below b2
            rwa [size_al] at this
          have m0 := t1.cell 0 _ rfl
          have m1 := t1.cell 1 _ rfl
          have m2 := t1.cell 2 _ rfl
          have f1 := t1.free
          have hgb := b2.size
          rw [size_al, size_al] at o2 hgb
          refine hid ?_
          go_wp2_with fail
          obtain ⟨W3, hW3, s1, s0, oW, bW⟩ : ∃ W3, ((w2.setCell ⟨w.heap.size + 1, 1, none⟩ (.slice ao u.length cap)).setCell ⟨w.heap.size + 1, 0, none⟩ (.string N)) = W3 ∧ Stands W3 (w.heap.size + 1) #[.string N, .slice ao u.length cap, .string R] 43 ∧ Stands W3 w.heap.size #[.string ⟨#[]⟩, .slice none 0 0, .string ⟨#[]⟩] 43 ∧ OwnU (w.heap.size + 1 + 1) W3 (.slice ao u.length cap) u ∧ Below w.heap.size w W3 :=
            ⟨_, rfl, (t1.set 1 _).set 0 _, (t0.other 1 _ (by omega)).other 0 _ (by omega), own_other (own_other o2 _ 1 _ (by omega)) _ 0 _ (by omega), below_set (below_set (below_trans (below_trans (box_below w _) (box_below _ _)) b2) _ 1 _ (by omega)) _ 0 _ (by omega)⟩
          rw [hW3]
          clear hW3 t0 t1 m0 m1 m2 f1 o2 b2 hgb
          have q0 := s1.cell 0 _ rfl
          have q1 := s1.cell 1 _ rfl
          have q2 := s1.cell 2 _ rfl
          have r0 := s0.cell 0 _ rfl
          have r1 := s0.cell 1 _ rfl
          have r2 := s0.cell 2 _ rfl
          have g0 := s0.free
          go_region_with (go_at_call 33; refine (cn _).mono ?_; rintro e w4 ⟨rfl, b4⟩; have s1' := (show Stands W3.drew _ _ _ from s1).below b4; have s0' := (show Stands W3.drew _ _ _ from s0).below b4; have q0' := s1'.cell 0 _ rfl; have q1' := s1'.cell 1 _ rfl; have q2' := s1'.cell 2 _ rfl; have r0' := s0'.cell 0 _ rfl; have r1' := s0'.cell 1 _ rfl; have r2' := s0'.cell 2 _ rfl; have g0' := s0'.free)
          all_goals (
            go_wp2_with fail
            obtain ⟨W5, hW5, s5, b5⟩ : ∃ W5, (((w4.setCell ⟨w.heap.size, 0, none⟩ (.string N)).setCell ⟨w.heap.size, 1, none⟩ (.slice ao u.length cap)).setCell ⟨w.heap.size, 2, none⟩ (.string R)) = W5 ∧ Stands W5 w.heap.size #[.string N, .slice ao u.length cap, .string R] 43 ∧ Below w.heap.size w W5 :=
              ⟨_, rfl, ((s0'.set 0 _).set 1 _).set 2 _, below_set (below_set (below_set (below_trans (show Below w.heap.size w W3.drew from below_drewN bW 1) b4) _ 0 _ (Nat.le_refl _)) _ 1 _ (Nat.le_refl _)) _ 2 _ (Nat.le_refl _)⟩
            rw [hW5]
            have x0 := s5.cell 0 _ rfl
            have x1 := s5.cell 1 _ rfl
            have x2 := s5.cell 2 _ rfl
            exact bodyPost_ret (v := .tuple #[.agg #[.string N, .slice ao u.length cap, .string R], .bool false]) (by simp [results, Tryd.results18, go_sem, x0, x1, x2]) rfl ⟨⟨_, _, _, _, _, rfl⟩, b5⟩)
      ·
          have hR0 : (L s).drop (k + 1) = [] := List.drop_of_length_le (by rw [L_len]; omega)
          go_enter Tryd.func18, Tryd.ntmps18
          go_wp2_with (first
            | (go_at_call_of 17 (Value.string s); refine (c1 _).mono ?_; rintro e w1 ⟨rfl, rfl⟩)
            | (go_at_call_of 17 (Value.string p); refine (c2 _).mono ?_; rintro e w1 ⟨rfl, rfl⟩)
            | (go_at_call 32; refine (cu _).mono ?_; rintro e w2 ⟨v2, rfl, o2, b2⟩; refine Hid.out ?_))
          obtain ⟨ao, cap, rfl⟩ := own_form o2
          have t0 : Stands w2 w.heap.size #[.string ⟨#[]⟩, .slice none 0 0, .string ⟨#[]⟩] 43 := ((stands_new w _ _).below (box_below _ _)).below b2
          have t1 : Stands w2 (w.heap.size + 1) #[.string ⟨#[]⟩, .slice none 0 0, .string ⟨#[]⟩] 43 := by
            have := (stands_new (w.alloc (.cells #[.string ⟨#[]⟩, .slice none 0 0, .string ⟨#[]⟩] 43)) #[.string ⟨#[]⟩, .slice none 0 0, .string ⟨#[]⟩] 43).below b2
            rwa [size_al] at this
          have m0 := t1.cell 0 _ rfl
          have m1 := t1.cell 1 _ rfl
          have m2 := t1.cell 2 _ rfl
          have f1 := t1.free
          have hgb := b2.size
          rw [size_al, size_al] at o2 hgb
          refine hid ?_
          go_wp2_with fail
          obtain ⟨W3, hW3, s1, s0, oW, bW⟩ : ∃ W3, ((w2.setCell ⟨w.heap.size + 1, 1, none⟩ (.slice ao u.length cap)).setCell ⟨w.heap.size + 1, 0, none⟩ (.string N)) = W3 ∧ Stands W3 (w.heap.size + 1) #[.string N, .slice ao u.length cap, .string ⟨#[]⟩] 43 ∧ Stands W3 w.heap.size #[.string ⟨#[]⟩, .slice none 0 0, .string ⟨#[]⟩] 43 ∧ OwnU (w.heap.size + 1 + 1) W3 (.slice ao u.length cap) u ∧ Below w.heap.size w W3 :=
            ⟨_, rfl, (t1.set 1 _).set 0 _, (t0.other 1 _ (by omega)).other 0 _ (by omega), own_other (own_other o2 _ 1 _ (by omega)) _ 0 _ (by omega), below_set (below_set (below_trans (below_trans (box_below w _) (box_below _ _)) b2) _ 1 _ (by omega)) _ 0 _ (by omega)⟩
          rw [hW3]
          clear hW3 t0 t1 m0 m1 m2 f1 o2 b2 hgb
          have q0 := s1.cell 0 _ rfl
          have q1 := s1.cell 1 _ rfl
          have q2 := s1.cell 2 _ rfl
          have r0 := s0.cell 0 _ rfl
          have r1 := s0.cell 1 _ rfl
          have r2 := s0.cell 2 _ rfl
          have g0 := s0.free
          go_region_with (go_at_call 33; refine (cn _).mono ?_; rintro e w4 ⟨rfl, b4⟩; have s1' := (show Stands W3.drew _ _ _ from s1).below b4; have s0' := (show Stands W3.drew _ _ _ from s0).below b4; have q0' := s1'.cell 0 _ rfl; have q1' := s1'.cell 1 _ rfl; have q2' := s1'.cell 2 _ rfl; have r0' := s0'.cell 0 _ rfl; have r1' := s0'.cell 1 _ rfl; have r2' := s0'.cell 2 _ rfl; have g0' := s0'.free)
          all_goals (
            go_wp2_with fail
            obtain ⟨W5, hW5, s5, b5⟩ : ∃ W5, (((w4.setCell ⟨w.heap.size, 0, none⟩ (.string N)).setCell ⟨w.heap.size, 1, none⟩ (.slice ao u.length cap)).setCell ⟨w.heap.size, 2, none⟩ (.string ⟨#[]⟩)) = W5 ∧ Stands W5 w.heap.size #[.string N, .slice ao u.length cap, .string ⟨#[]⟩] 43 ∧ Below w.heap.size w W5 :=
              ⟨_, rfl, ((s0'.set 0 _).set 1 _).set 2 _, below_set (below_set (below_set (below_trans (show Below w.heap.size w W3.drew from below_drewN bW 1) b4) _ 0 _ (Nat.le_refl _)) _ 1 _ (Nat.le_refl _)) _ 2 _ (Nat.le_refl _)⟩
            rw [hW5]
            have x0 := s5.cell 0 _ rfl
            have x1 := s5.cell 1 _ rfl
            have x2 := s5.cell 2 _ rfl
            exact bodyPost_ret (v := .tuple #[.agg #[.string N, .slice ao u.length cap, .string ⟨#[]⟩], .bool false]) (by simp [results, Tryd.results18, go_sem, x0, x1, x2]) rfl ⟨⟨_, _, _, _, _, rfl⟩, b5⟩)
    · have y4 : ¬ (a : Int) < k := by omega
      clear h hbad h2 hL1 hL2 hkk haa hLu hLp hps hns hus hat cu
      by_cases hc : (k : Int) < s.size
      ·
          have z2 : (k : Int) + 1 ≤ s.size := by omega
          have z3 : (0 : Int) ≤ (k : Int) + 1 := by omega
          go_enter Tryd.func18, Tryd.ntmps18
          go_wp2_with (first
            | (go_at_call_of 17 (Value.string s); refine (c1 _).mono ?_; rintro e w1 ⟨rfl, rfl⟩)
            | (go_at_call_of 17 (Value.string p); refine (c2 _).mono ?_; rintro e w1 ⟨rfl, rfl⟩))
          obtain ⟨W3, hW3, s1, s0, oW, bW⟩ : ∃ W3, ((w.alloc (.cells #[.string ⟨#[]⟩, .slice none 0 0, .string ⟨#[]⟩] 43)).alloc (.cells #[.string N, .slice none 0 0, .string R] 43)) = W3 ∧ Stands W3 (w.heap.size + 1) #[.string N, .slice none 0 0, .string R] 43 ∧ Stands W3 w.heap.size #[.string ⟨#[]⟩, .slice none 0 0, .string ⟨#[]⟩] 43 ∧ OwnU (w.heap.size + 1 + 1) W3 (.slice none 0 0) [] ∧ Below w.heap.size w W3 :=
            ⟨_, rfl, by have := stands_new (w.alloc (.cells #[.string ⟨#[]⟩, .slice none 0 0, .string ⟨#[]⟩] 43)) #[.string N, .slice none 0 0, .string R] 43; rwa [size_al] at this, (stands_new w _ _).below (box_below _ _), World.ownsRow_nil _ _ _ _, below_trans (box_below w _) (box_below _ _)⟩
          rw [hW3]
          clear hW3
          have q0 := s1.cell 0 _ rfl
          have q1 := s1.cell 1 _ rfl
          have q2 := s1.cell 2 _ rfl
          have r0 := s0.cell 0 _ rfl
          have r1 := s0.cell 1 _ rfl
          have r2 := s0.cell 2 _ rfl
          have g0 := s0.free
          go_region_with (go_at_call 33; refine (cn _).mono ?_; rintro e w4 ⟨rfl, b4⟩; have s1' := (show Stands W3.drew _ _ _ from s1).below b4; have s0' := (show Stands W3.drew _ _ _ from s0).below b4; have q0' := s1'.cell 0 _ rfl; have q1' := s1'.cell 1 _ rfl; have q2' := s1'.cell 2 _ rfl; have r0' := s0'.cell 0 _ rfl; have r1' := s0'.cell 1 _ rfl; have r2' := s0'.cell 2 _ rfl; have g0' := s0'.free)
          all_goals (
            go_wp2_with fail
            obtain ⟨W5, hW5, s5, b5⟩ : ∃ W5, (((w4.setCell ⟨w.heap.size, 0, none⟩ (.string N)).setCell ⟨w.heap.size, 1, none⟩ (.slice none 0 0)).setCell ⟨w.heap.size, 2, none⟩ (.string R)) = W5 ∧ Stands W5 w.heap.size #[.string N, .slice none 0 0, .string R] 43 ∧ Below w.heap.size w W5 :=
              ⟨_, rfl, ((s0'.set 0 _).set 1 _).set 2 _, below_set (below_set (below_set (below_trans (show Below w.heap.size w W3.drew from below_drewN bW 1) b4) _ 0 _ (Nat.le_refl _)) _ 1 _ (Nat.le_refl _)) _ 2 _ (Nat.le_refl _)⟩
            rw [hW5]
            have x0 := s5.cell 0 _ rfl
            have x1 := s5.cell 1 _ rfl
            have x2 := s5.cell 2 _ rfl
            exact bodyPost_ret (v := .tuple #[.agg #[.string N, .slice none 0 0, .string R], .bool false]) (by simp [results, Tryd.results18, go_sem, x0, x1, x2]) rfl ⟨⟨_, _, _, _, _, rfl⟩, b5⟩)
      ·
          have hR0 : (L s).drop (k + 1) = [] := List.drop_of_length_le (by rw [L_len]; omega)
          go_enter Tryd.func18, Tryd.ntmps18
          go_wp2_with (first
            | (go_at_call_of 17 (Value.string s); refine (c1 _).mono ?_; rintro e w1 ⟨rfl, rfl⟩)
            | (go_at_call_of 17 (Value.string p); refine (c2 _).mono ?_; rintro e w1 ⟨rfl, rfl⟩))
          obtain ⟨W3, hW3, s1, s0, oW, bW⟩ : ∃ W3, ((w.alloc (.cells #[.string ⟨#[]⟩, .slice none 0 0, .string ⟨#[]⟩] 43)).alloc (.cells #[.string N, .slice none 0 0, .string ⟨#[]⟩] 43)) = W3 ∧ Stands W3 (w.heap.size + 1) #[.string N, .slice none 0 0, .string ⟨#[]⟩] 43 ∧ Stands W3 w.heap.size #[.string ⟨#[]⟩, .slice none 0 0, .string ⟨#[]⟩] 43 ∧ OwnU (w.heap.size + 1 + 1) W3 (.slice none 0 0) [] ∧ Below w.heap.size w W3 :=
            ⟨_, rfl, by have := stands_new (w.alloc (.cells #[.string ⟨#[]⟩, .slice none 0 0, .string ⟨#[]⟩] 43)) #[.string N, .slice none 0 0, .string ⟨#[]⟩] 43; rwa [size_al] at this, (stands_new w _ _).below (box_below _ _), World.ownsRow_nil _ _ _ _, below_trans (box_below w _) (box_below _ _)⟩
          rw [hW3]
          clear hW3
          have q0 := s1.cell 0 _ rfl
          have q1 := s1.cell 1 _ rfl
          have q2 := s1.cell 2 _ rfl
          have r0 := s0.cell 0 _ rfl
          have r1 := s0.cell 1 _ rfl
          have r2 := s0.cell 2 _ rfl
          have g0 := s0.free
          go_region_with (go_at_call 33; refine (cn _).mono ?_; rintro e w4 ⟨rfl, b4⟩; have s1' := (show Stands W3.drew _ _ _ from s1).below b4; have s0' := (show Stands W3.drew _ _ _ from s0).below b4; have q0' := s1'.cell 0 _ rfl; have q1' := s1'.cell 1 _ rfl; have q2' := s1'.cell 2 _ rfl; have r0' := s0'.cell 0 _ rfl; have r1' := s0'.cell 1 _ rfl; have r2' := s0'.cell 2 _ rfl; have g0' := s0'.free)
          all_goals (
            go_wp2_with fail
            obtain ⟨W5, hW5, s5, b5⟩ : ∃ W5, (((w4.setCell ⟨w.heap.size, 0, none⟩ (.string N)).setCell ⟨w.heap.size, 1, none⟩ (.slice none 0 0)).setCell ⟨w.heap.size, 2, none⟩ (.string ⟨#[]⟩)) = W5 ∧ Stands W5 w.heap.size #[.string N, .slice none 0 0, .string ⟨#[]⟩] 43 ∧ Below w.heap.size w W5 :=
              ⟨_, rfl, ((s0'.set 0 _).set 1 _).set 2 _, below_set (below_set (below_set (below_trans (show Below w.heap.size w W3.drew from below_drewN bW 1) b4) _ 0 _ (Nat.le_refl _)) _ 1 _ (Nat.le_refl _)) _ 2 _ (Nat.le_refl _)⟩
            rw [hW5]
            have x0 := s5.cell 0 _ rfl
            have x1 := s5.cell 1 _ rfl
            have x2 := s5.cell 2 _ rfl
            exact bodyPost_ret (v := .tuple #[.agg #[.string N, .slice none 0 0, .string ⟨#[]⟩], .bool false]) (by simp [results, Tryd.results18, go_sem, x0, x1, x2]) rfl ⟨⟨_, _, _, _, _, rfl⟩, b5⟩)

/-
  Parse of the document's answer for paths.
-/
/-- a step's cells -/
def stpR (w : World) (cs : List Value) (x : Sp) : Prop := ∃ v, cs = [.string (strOfNums x.1), v, .string (strOfNums x.2.2)] ∧ Rd .u32 w v x.2.1
theorem stpR_below {w w' : World} (g : Below w.heap.size w w') (cs : List Value) (x : Sp) (h : stpR w cs x) : stpR w' cs x := by
  obtain ⟨v, h1, h2⟩ := h
  exact ⟨v, h1, h2.below g⟩
/-- the same of what the call has built: the unit address is a row of the call's own -/
def stpO (base : Nat) (w : World) (cs : List Value) (x : Sp) : Prop := ∃ v, cs = [.string (strOfNums x.1), v, .string (strOfNums x.2.2)] ∧ OwnU base w v x.2.1
theorem stpO_R {base : Nat} {w : World} {cs : List Value} {x : Sp} (h : stpO base w cs x) : stpR w cs x := by
  obtain ⟨v, h1, h2⟩ := h
  exact ⟨v, h1, (Rd_own h2).1⟩
theorem stpO_below {base : Nat} {w w' : World} (g : Below w.heap.size w w') {cs : List Value} {x : Sp} (h : stpO base w cs x) : stpO base w' cs x := by
  obtain ⟨v, h1, h2⟩ := h
  exact ⟨v, h1, own_below h2 g⟩
/-- two rows of unlike kinds lie apart: what grows one leaves the other -/
theorem own_grown {w w' : World} {b b' : Nat} {e e' : TypeId} {sz : Nat} {v v' : Value} {n n' : Nat} {cs cs' : List Value} (o : w.ownsRow b e 1 v n cs) (o' : w.ownsRow b' e' sz v' n' cs') (hne : e ≠ e') (g : w.grownBy w' v'.ownBlock) : w'.ownsRow b e 1 v n cs := by
  obtain ⟨hl, o⟩ := o
  refine ⟨hl, ?_⟩
  rcases o with o | ⟨k, cap, cur, rfl, hb, h1, o⟩
  · exact Or.inl o
  · refine Or.inr ⟨k, cap, cur, rfl, hb, ?_, o⟩
    have hk : k < w.heap.size := (Array.getElem?_eq_some_iff.1 h1).1
    have hap : v'.ownBlock ≠ some k := by
      obtain ⟨_, o'⟩ := o'
      rcases o' with ⟨rfl, _⟩ | ⟨k', cap', cur', rfl, _, h2, _⟩
      · simp [Value.ownBlock]
      · intro e0
        simp [Value.ownBlock] at e0
        subst e0
        rw [h1] at h2
        simp at h2
        exact hne h2.2
    rw [g.block k hk (Ne.symm hap)]
    exact h1
theorem stpO_grown {base b' : Nat} {w w' : World} {sz : Nat} {v' : Value} {n' : Nat} {cs' : List Value} (o' : w.ownsRow b' 43 sz v' n' cs') (g : w.grownBy w' v'.ownBlock) {cs : List Value} {x : Sp} (h : stpO base w cs x) : stpO base w' cs x := by
  obtain ⟨v, h1, h2⟩ := h
  exact ⟨v, h1, own_grown h2 o' (by decide) g⟩
/-- steps that the call has built: their rows, one behind the other -/
def OwnP (base : Nat) (w : World) (v : Value) (xs : List Sp) : Prop := ∃ rows : List (List Value), rows.length = xs.length ∧ (∀ r ∈ rows, r.length = 3) ∧ w.ownsRow base 43 3 v xs.length rows.flatten ∧ ∀ i (h : i < xs.length), stpO base w (rows.getD i []) xs[i]
theorem ownP_read {base : Nat} {w : World} {v : Value} {xs : List Sp} (h : OwnP base w v xs) : SlR 3 stpR w v xs := by
  obtain ⟨rows, h1, h2, h3, h4⟩ := h
  have h5 : SlR 3 (fun _ cs (r : List Value) => cs = r) w v rows := slr_rows (n := xs.length) (e := 43) (base := base) id h2 (by decide) (by simpa [List.flatMap_id] using h3) (fun _ _ => rfl)
  obtain ⟨rows', k1, k2, k3⟩ := h5
  have e : rows' = rows := by
    apply List.ext_getElem k2
    intro i hi hj
    have := k3 i hj
    rw [List.getD_eq_getElem?_getD, List.getElem?_eq_getElem hi] at this
    simpa using this
  subst e
  exact ⟨rows', k1, h1, fun i hi => stpO_R (h4 i hi)⟩
theorem ownP_below {base : Nat} {w w' : World} {v : Value} {xs : List Sp} (h : OwnP base w v xs) (g : Below w.heap.size w w') : OwnP base w' v xs := by
  obtain ⟨rows, h1, h2, ⟨hl, h3⟩, h4⟩ := h
  refine ⟨rows, h1, h2, ⟨hl, ?_⟩, fun i hi => stpO_below g (h4 i hi)⟩
  rcases h3 with h | ⟨b, cap, cur, rfl, hb, hg, hc⟩
  · exact Or.inl h
  · refine Or.inr ⟨b, cap, cur, rfl, hb, ?_, hc⟩
    rw [g.block b (Array.getElem?_eq_some_iff.1 hg).1]
    exact hg
theorem ownP_nil (base : Nat) (w : World) : OwnP base w (.slice none 0 0) [] := ⟨[], rfl, by simp, World.ownsRow_nil _ _ _ _, fun i hi => by simp at hi⟩

theorem spl_up (d : Int) (l : List Int) : spl d [] l = upTo d l :: (if (upTo d l).length < l.length then spl d [] (l.drop ((upTo d l).length + 1)) else []) := by
  by_cases h : (upTo d l).length < l.length
  · rw [if_pos h]
    conv => lhs; rw [upTo_split d l h]
    rw [spl_skip d _ _ (upTo_free d l), List.nil_append, spl, if_pos rfl]
  · rw [if_neg h]
    have e : upTo d l = l := by
      have h1 := upTo_take d l
      rw [List.take_of_length_le (by omega)] at h1
      exact h1.symm
    have h2 := spl_skip d l [] (by rw [← e]; exact upTo_free d l) []
    rw [List.append_nil, List.nil_append] at h2
    rw [h2, e]
    rfl
/-- the pieces that are left at place k (a bar, or the end) -/
def remL (l : List Int) (k : Nat) : List (List Int) := if k < l.length then spl 47 [] (l.drop (k + 1)) else []
theorem rem_step (l : List Int) (k : Nat) (h : k < l.length) : remL l k = upTo 47 (l.drop (k + 1)) :: remL l (pcF l (k + 1) 47) := by
  have hl := upTo_len 47 (l.drop (k + 1))
  rw [List.length_drop] at hl
  unfold remL
  rw [if_pos h, spl_up 47 (l.drop (k + 1))]
  congr 1
  unfold pcF
  by_cases h2 : (upTo 47 (l.drop (k + 1))).length < (l.drop (k + 1)).length
  · rw [if_pos h2, if_pos (by rw [List.length_drop] at h2; omega), List.drop_drop]
    congr 2
  · rw [if_neg h2, if_neg (by rw [List.length_drop] at h2; omega)]
theorem stepL_cons_none (p : List Int) (r : List (List Int)) (h : stepF p = none) : stepL (p :: r) = none := by rw [stepL, h]
theorem stepL_cons_some (p : List Int) (r : List (List Int)) (x : Sp) (h : stepF p = some x) : stepL (p :: r) = (stepL r).map (x :: ·) := by
  rw [stepL, h]
  cases stepL r <;> rfl
theorem infoStep : (Tryd.prog.info? 43).map (fun i => (i.zero, i.size, i.bytes)) = some (some (.agg #[.string ⟨#[]⟩, .slice none 0 0, .string ⟨#[]⟩]), 3, 56) := by kernel_rfl
theorem ownP_snoc {base : Nat} {w w' : World} {U v' : Value} {xs : List Sp} {x : Sp} {row : List Value} {rows : List (List Value)} (h1 : rows.length = xs.length) (h2 : ∀ r ∈ rows, r.length = 3) (h3 : w.ownsRow base 43 3 U xs.length rows.flatten) (h4 : ∀ i (h : i < xs.length), stpO base w (rows.getD i []) xs[i])
    (hr : row.length = 3) (hx : stpO base w row x) (o : w'.ownsRow base 43 3 v' (xs.length + 1) (rows.flatten ++ row)) (g : w.grownBy w' U.ownBlock) : OwnP base w' v' (xs ++ [x]) := by
  refine ⟨rows ++ [row], by simp [h1], fun r hm => ?_, by simpa using o, fun i hi => ?_⟩
  · rcases List.mem_append.1 hm with hm | hm
    · exact h2 r hm
    · simp at hm; subst hm; exact hr
  · by_cases hlt : i < xs.length
    · rw [List.getD_eq_getElem?_getD, List.getElem?_append_left (by omega), List.getElem_append_left hlt, ← List.getD_eq_getElem?_getD]
      exact stpO_grown h3 g (h4 i hlt)
    · have hi2 : i = xs.length := by simp at hi; omega
      subst hi2
      rw [List.getD_eq_getElem?_getD, List.getElem?_append_right (by omega), h1]
      simp
      exact stpO_grown h3 g hx

set_option maxHeartbeats 4000000 in
set_option maxRecDepth 100000 in
theorem w_rpath (s : ByteArray) (w : World) (hs : s.size ≤ maxLen) :
    Calls Tryd.prog 8 #[.string s] w fun e w' => ∃ v, e = .returned (.tuple #[v, .int .i64 (parF (L s)).2]) ∧ SlR 3 stpR w' v (parF (L s)).1 ∧ Below w.heap.size w w' := by
  have hs2 := hs
  unfold maxLen at hs2
  by_cases hlong : (256 : Int) < s.size
  · have e : parF (L s) = ([], 3) := by unfold parF; rw [if_pos (by rw [L_len]; omega)]
    rw [e]
    clear e
    go_enter Tryd.func8, Tryd.ntmps8
    go_wp2_with fail
    go_ret2
    exact ⟨_, rfl, SlR.nil, Below.refl _ _⟩
  · by_cases h1 : L s = [47]
    · have hse : s = ⟨#[47]⟩ := by rw [← nums_LB s, ← L_LB, h1]; decide +kernel
      subst hse
      have e : parF (L ⟨#[47]⟩) = ([], 0) := by decide +kernel
      rw [e]
      clear e h1
      go_enter Tryd.func8, Tryd.ntmps8
      go_wp2_with fail
      go_ret2
      exact ⟨_, rfl, SlR.nil, Below.refl _ _⟩
    · have hne : (s.toList == [47]) = false := by
        rw [beq_eq_false_iff_ne]
        intro e
        apply h1
        rw [ByteArray.toList_eq] at e
        simp [L, e]
      by_cases h0 : s.size = 0
      · have hs : s = ⟨#[]⟩ := by
          apply ByteArray.ext
          exact Array.eq_empty_of_size_eq_zero h0
        subst hs
        have e : parF (L ⟨#[]⟩) = ([], 15) := by decide +kernel
        rw [e]
        clear e h1 hne
        go_enter Tryd.func8, Tryd.ntmps8
        go_wp2_with fail
        go_ret2
        exact ⟨_, rfl, SlR.nil, Below.refl _ _⟩
      · have hemp : s.toList.isEmpty = false := by
          rw [← decide_eq_emptyBytes]
          exact decide_eq_false (fun h => h0 (by rw [h]; rfl))
        have hd := L_drop s 0 (by omega)
        rw [List.drop_zero] at hd
        obtain ⟨c, hc⟩ : ∃ c, (s[0].toNat : Int) = c := ⟨_, rfl⟩
        have hrun := fun w => run_at (w := w) s 0 (by omega) hs
        rw [hc] at hrun hd
        rw [show (((0 : Nat)) : Int) = 0 from rfl] at hrun
        by_cases h47 : c = 47
        · subst h47
          obtain ⟨i0, hi0, hz0, hz1, hz2⟩ := info_parts infoStep
          have hpar : parF (L s) = match stepL (remL (L s) 0) with | some x => (x, 0) | none => ([], 15) := by
            unfold parF remL
            rw [if_neg (by rw [L_len]; omega), if_neg h1, if_pos (by rw [L_len]; omega), hd]
            rfl
          obtain ⟨A, E, hAE⟩ : ∃ A E, parF (L s) = (A, E) := ⟨_, _, rfl⟩
          have HAE := hid hAE
          have Hp := hid (hAE.symm.trans hpar)
          rw [hAE]
          show Calls _ _ _ _ fun e w' => ∃ v, e = .returned (.tuple #[v, .int .i64 E]) ∧ SlR 3 stpR w' v A ∧ _
          clear hAE hpar h1 hc hd
          go_enter Tryd.func8, Tryd.ntmps8
          go_wp2_with fail
          go_loopw [4, 5] (fun U I wx => ∃ (k : Nat) (xs : List Sp), (k : Int) ≤ s.size ∧ I = .int .i64 k ∧ Hid (stepL (remL (L s) 0) = (stepL (remL (L s) k)).map (xs ++ ·)) ∧ (xs.length : Int) ≤ k ∧ OwnP w.heap.size wx U xs ∧ Below w.heap.size w wx) (fun _ I _ => (s.size - intOf I).toNat)
          case atStart => exact ⟨0, [], by omega, rfl, hid (by cases stepL (remL (L s) 0) <;> simp), by simp, ownP_nil _ _, Below.refl _ _⟩
          case round =>
            obtain ⟨k, xs, hk, rfl, hin, hxl, ho, hb⟩ := hrel
            by_cases hlt : (k : Int) < s.size
            · have hrs := rem_step (L s) k (by rw [L_len]; omega)
              have hk2 := pc_le (L s) (k + 1) 47 (by rw [L_len]; omega)
              have hk3 := pc_ge (L s) (k + 1) 47
              have cp := fun w => w_place s (k + 1) 47 w hs (by omega) (by decide) (by decide)
              rw [L_len] at hk2
              have hpl : pcF (L s) (k + 1) 47 = k + 1 + (upTo 47 ((L s).drop (k + 1))).length := rfl
              have hLx : L (s.extract (k + 1) (pcF (L s) (k + 1) 47)) = upTo 47 ((L s).drop (k + 1)) := by
                rw [L_extract s _ _ hk2, hpl, Nat.add_sub_cancel_left]
                exact upTo_take 47 _
              obtain ⟨q, hq⟩ : ∃ q, pcF (L s) (k + 1) 47 = q := ⟨_, rfl⟩
              rw [hq] at hrs hk2 hk3 cp hLx
              have hps : (s.extract (k + 1) q).size ≤ s.size := by rw [← L_len, L_extract s _ _ hk2, List.length_take, List.length_drop, L_len]; omega
              obtain ⟨P, hP⟩ : ∃ P, s.extract (k + 1) q = P := ⟨_, rfl⟩
              rw [hP] at hLx hps
              have z0 : (0 : Int) ≤ (k : Int) + 1 := by omega
              have z1 : (k : Int) + 1 ≤ q := by omega
              have z2 : (q : Int) ≤ s.size := by omega
              cases hst : stepF (upTo 47 ((L s).drop (k + 1))) with
              | none =>
                have cs := fun w => w_rstep_no P w (by omega) (by rw [hLx]; exact hst)
                have e : Hid ((A, E) = ([], 15)) := by
                  show _ = _
                  rw [Hp.out, hin.out, hrs, stepL_cons_none _ _ hst]
                  rfl
                clear hst hLx hrs hpl hq hps
                go_wp2_with (first
                  | (go_at_call 17; refine (cp _).mono ?_; rintro e w1 ⟨rfl, rfl⟩)
                  | (go_at_call 18; refine (cs _).mono ?_; rintro e w2 ⟨⟨nm, ao, n, cap, ar, rfl⟩, b2⟩))
                go_ret2
                obtain ⟨rfl, rfl⟩ := Prod.mk.inj e.out
                exact ⟨_, rfl, SlR.nil, below_trans hb (below_trans b2 (box_below _ _))⟩
              | some x =>
                have cs := fun w => w_rstep_ok P x w (by omega) (by rw [hLx]; exact hst)
                have hin2 : Hid (stepL (remL (L s) 0) = (stepL (remL (L s) q)).map ((xs ++ [x]) ++ ·)) := by
                  show _ = _
                  rw [hin.out, hrs, stepL_cons_some _ _ _ hst]
                  cases stepL (remL (L s) q) <;> simp
                clear hst hLx hrs hpl hq hps
                go_wp2_with (first
                  | (go_at_call 17; refine (cp _).mono ?_; rintro e w1 ⟨rfl, rfl⟩)
                  | (go_at_call 18; refine (cs _).mono ?_; rintro e w2 ⟨⟨v, nm, ar, rfl, e1, e2, ov⟩, b2⟩; refine Hid.out ?_))
                obtain ⟨ao, cap, rfl⟩ := own_form ov
                have hnm : strOfNums x.1 = nm := by rw [← e1]; exact nums_LB nm
                have har : strOfNums x.2.2 = ar := by rw [← e2]; exact nums_LB ar
                have hb2 := below_trans hb b2
                have ov2 : OwnU w.heap.size w2 _ _ := own_le hb.size ov
                obtain ⟨rows, h1, h2, h3, h4⟩ := ownP_below ho b2
                have bx := below_trans (box_below w2 (.cells #[.string nm, .slice ao x.2.1.length cap, .string ar] 43)) (box_below _ (.cells #[.string nm, .slice ao x.2.1.length cap, .string ar] 43))
                have h3' := World.ownsRow.alloc (World.ownsRow.alloc h3 (.cells #[.string nm, .slice ao x.2.1.length cap, .string ar] 43)) (.cells #[.string nm, .slice ao x.2.1.length cap, .string ar] 43)
                have hx : stpO w.heap.size ((w2.alloc (.cells #[.string nm, .slice ao x.2.1.length cap, .string ar] 43)).alloc (.cells #[.string nm, .slice ao x.2.1.length cap, .string ar] 43)) [.string nm, .slice ao x.2.1.length cap, .string ar] x := ⟨_, by rw [hnm, har], own_below ov2 bx⟩
                have h4' := fun i h => stpO_below bx (h4 i h)
                have hb3 := below_trans hb2 bx
                have hone : ∀ u ∈ [Value.string nm, .slice ao x.2.1.length cap, .string ar], u.oneCell' = true := by
                  intro u hu
                  simp at hu
                  rcases hu with rfl | rfl | rfl <;> rfl
                have hcl : ∀ j u, [Value.string nm, .slice ao x.2.1.length cap, .string ar][j]? = some u → ((w2.alloc (.cells #[.string nm, .slice ao x.2.1.length cap, .string ar] 43)).alloc (.cells #[.string nm, .slice ao x.2.1.length cap, .string ar] 43)).cell? ⟨w2.heap.size + 1, j, none⟩ = some u := by
                  intro j u hj
                  have := alloc_row (w2.alloc (.cells #[.string nm, .slice ao x.2.1.length cap, .string ar] 43)) [Value.string nm, .slice ao x.2.1.length cap, .string ar] 43 j u hj
                  rwa [size_al] at this
                refine hid ?_
                go_wp2_with (at_builtin; refine wpList_append_row rfl _ _ 36 rfl w.heap.size 43 i0 _ 3 56 Tryd.underlying36 hi0 hz0 hz1 hz2 rfl (by decide) _ xs.length _ rfl h3' _ [.string nm, .slice ao x.2.1.length cap, .string ar] rfl rfl hcl hone (by unfold maxLen; omega) (by omega) hb3.size ?_; intro v4 w4 ho4 hg4)
                have hb4 := below_grown hb3 hg4 (fun k hk => (h3'.lt k hk).1)
                go_roundw
                case rel => exact ⟨q, xs ++ [x], by omega, by go_num, hin2, by simp; omega, ownP_snoc h1 h2 h3' h4' rfl hx ho4 hg4, hb4⟩
                case measure => simp [intOf]; omega
            · have e : Hid ((A, E) = (xs, 0)) := by
                show _ = _
                have : remL (L s) k = [] := by unfold remL; rw [if_neg (by rw [L_len]; omega)]
                rw [Hp.out, hin.out, this]
                simp [stepL]
              go_wp2_with fail
              go_ret2
              obtain ⟨rfl, rfl⟩ := Prod.mk.inj e.out
              exact ⟨_, rfl, ownP_read ho, hb⟩
        · have e : parF (L s) = ([], 15) := by
            unfold parF
            rw [if_neg (by rw [L_len]; omega), if_neg h1, hd]
            split
            · rename_i r' he
              have := (List.cons.inj he).1
              exact absurd this h47
            · rfl
          rw [e]
          have hn : (c != 47) = true := by simpa using h47
          clear e h1 hd h47
          go_enter Tryd.func8, Tryd.ntmps8
          go_wp2_with fail
          go_ret2
          exact ⟨_, rfl, SlR.nil, Below.refl _ _⟩

/-
  Slices of steps that came in: what they read as, and how much they hold.
-/
theorem wf7 {n : Int} (h : (Lit.int .u32 n).wf = true) : 0 ≤ n ∧ n < 4294967296 := by
  simp [Lit.wf, IntKind.min, IntKind.max, IntKind.bits, IntKind.signed] at h
  omega
/-- how much steps hold -/
def wtS : List Sp → Nat
  | [] => 0
  | x :: r => x.1.length + x.2.1.length + x.2.2.length + 1 + wtS r
theorem wtS_mem {x : Sp} : ∀ {l : List Sp}, x ∈ l → x.1.length + x.2.1.length + x.2.2.length + 1 ≤ wtS l
  | y :: r, h => by
    simp only [wtS]
    rcases List.mem_cons.1 h with rfl | h
    · omega
    · have := wtS_mem h
      omega
theorem wtS_bulk {H : Type} : ∀ (xs : List Sp) (ds : List (DataW H)), xs.length = ds.length → (∀ i (h : i < xs.length) (g : i < ds.length), xs[i].1.length + xs[i].2.1.length + xs[i].2.2.length + 1 ≤ Rows.uptoBulk ds[i]) → wtS xs ≤ Rows.uptoBulkAll ds
  | [], _, _, _ => by simp [wtS]
  | x :: xs, [], h, _ => by simp at h
  | x :: xs, d :: ds, h, hb => by
    have h1 := hb 0 (by simp) (by simp)
    have h2 := wtS_bulk xs ds (by simpa using h) (fun i hi hg => hb (i + 1) (by simpa using hi) (by simpa using hg))
    simp at h1
    simp only [wtS, Rows.uptoBulkAll]
    omega
theorem stp_str : Tryd.prog.underlying 43 = some (.struct (Tryd.prog.fieldsOf 43)) := by kernel_rfl
theorem stpF0 : (Tryd.prog.fieldsOf 43)[0]?.map (fun f => (f.type, f.offset)) = some (9, 0) := by kernel_rfl
theorem stpF1 : (Tryd.prog.fieldsOf 43)[1]?.map (fun f => (f.type, f.offset)) = some (27, 1) := by kernel_rfl
theorem stpF2 : (Tryd.prog.fieldsOf 43)[2]?.map (fun f => (f.type, f.offset)) = some (9, 2) := by kernel_rfl
theorem stpFs : (Tryd.prog.fieldsOf 43).size = 3 := by kernel_rfl
set_option maxRecDepth 100000 in
/-- one step's cells -/
theorem stp_trod {H : Type} {enc : TypeId × Value → H} {W : World} {fuel : Nat} {cs : List Value} {y : DataW H × List MemPlace} (h : DataW.trod enc Tryd.prog W 0 (fun _ => true) true fuel 43 cs = some y) :
    ∃ x : Sp, stpR W cs x ∧ bytesL x.1 ∧ bytesL x.2.2 ∧ (∀ n ∈ x.2.1, (Lit.int .u32 n).wf = true) ∧ x.1.length ≤ maxLen ∧ x.2.2.length ≤ maxLen ∧ x.1.length + x.2.1.length + x.2.2.length + 1 ≤ Rows.uptoBulk y.1 := by
  obtain ⟨xs, n, _, rfl, hl, hlen, hf⟩ := DataW.trod_struct stp_str h
  rw [show Tryd.prog.cellsOf 43 = 3 by kernel_rfl] at hl
  rw [stpFs] at hlen
  match cs, hl with
  | [c0, c1, c2], _ =>
    match xs, hlen with
    | [y0, y1, y2], _ =>
      obtain ⟨f0, g0, e0⟩ := Option.map_eq_some_iff.1 stpF0
      obtain ⟨f1, g1, e1⟩ := Option.map_eq_some_iff.1 stpF1
      obtain ⟨f2, g2, e2⟩ := Option.map_eq_some_iff.1 stpF2
      obtain ⟨a0, b0⟩ := Prod.mk.inj e0
      obtain ⟨a1, b1⟩ := Prod.mk.inj e1
      obtain ⟨a2, b2⟩ := Prod.mk.inj e2
      have h0 := hf 0 f0 g0
      have h1 := hf 1 f1 g1
      have h2 := hf 2 f2 g2
      rw [a0, b0, show Tryd.prog.cellsOf 9 = 1 by kernel_rfl] at h0
      rw [a1, b1, show Tryd.prog.cellsOf 27 = 1 by kernel_rfl] at h1
      rw [a2, b2, show Tryd.prog.cellsOf 9 = 1 by kernel_rfl] at h2
      simp at h0 h1 h2
      obtain ⟨k, k1, k2, k3⟩ := DataW.trod_string Tryd.underlying9 h0
      obtain ⟨p, p1, p2, p3⟩ := DataW.trod_string Tryd.underlying9 h2
      have g' : ∃ x l c, c1 = .slice x l c := by
        rcases DataW.trod_slice Tryd.underlying27 h1 with ⟨h0, _⟩ | ⟨x, l, c, _, _, _, _, h0, _⟩
        · simp at h0; exact ⟨none, 0, 0, h0⟩
        · simp at h0; exact ⟨some x, l, c, h0⟩
      obtain ⟨x, l, c, rfl⟩ := g'
      obtain ⟨u, hu, hw, hd⟩ := rd_open (k := .u32) (d := y1.1) (ps := y1.2) Tryd.underlying27 Tryd.underlying47 (by kernel_rfl) ⟨_, h1⟩
      simp at k1 p1
      subst k1 p1 k2 p2
      refine ⟨(LB k, u, LB p), ⟨_, by simp [nums_LB], hu⟩, LB_bytes k, LB_bytes p, hw, by rw [LB_len]; exact k3, by rw [LB_len]; exact p3, ?_⟩
      have e1 : k.data.toList.length = k.size := by simp
      have e2 : p.data.toList.length = p.size := by simp
      have e3 : u.length ≤ Rows.uptoBulk y1.1 := by
        rcases hd with rfl | ⟨ys, zs, hd, hle⟩
        · simp
        · rw [hd]
          exact Nat.le_trans hle (bk_slice ys zs)
      simp only [List.map_cons, List.map_nil, Rows.uptoBulk, Rows.uptoBulkAll, LB_len]
      omega
theorem stp_open {H : Type} {enc : TypeId × Value → H} {W : World} {a : Option Addr} {len cap : Nat} {d : DataW H} {ps : List MemPlace} (h : DataW.Trod enc Tryd.prog W 0 (fun _ => true) true 36 (.slice a len cap) d ps) :
    ∃ xs : List Sp, SlR 3 stpR W (.slice a len cap) xs ∧ (∀ x ∈ xs, bytesL x.1 ∧ bytesL x.2.2) ∧ (∀ x ∈ xs, cells x.2.1) ∧ (∀ x ∈ xs, x.1.length ≤ maxLen ∧ x.2.2.length ≤ maxLen) ∧ wtS xs ≤ Rows.uptoBulk d := by
  obtain ⟨fuel, hf⟩ := h
  obtain ⟨rows, h1, h2, h3⟩ := slc_open (e := 43) Tryd.underlying36 (show Tryd.prog.cellsOf 43 = 3 by kernel_rfl) (by omega) (show DataW.trod enc Tryd.prog W 0 (fun _ => true) true fuel 36 [.slice a len cap] = some (d, ps) from hf)
  rcases h3 with ⟨rfl, rfl⟩ | ⟨ds, zs, rfl, hl, h3⟩
  · exact ⟨[], ⟨[], h1, rfl, fun i hi => by simp at hi⟩, fun x hx => by simp at hx, fun x hx => by simp at hx, fun x hx => by simp at hx, by simp [wtS]⟩
  · obtain ⟨xs, hx1, hx2⟩ := choose_list (rows.zip ds) (fun (r : List Value × DataW H) (x : Sp) => stpR W r.1 x ∧ (bytesL x.1 ∧ bytesL x.2.2) ∧ (∀ n ∈ x.2.1, (Lit.int .u32 n).wf = true) ∧ (x.1.length ≤ maxLen ∧ x.2.2.length ≤ maxLen) ∧ x.1.length + x.2.1.length + x.2.2.length + 1 ≤ Rows.uptoBulk r.2) (fun r hr => by
      obtain ⟨i, hi, rfl⟩ := List.getElem_of_mem hr
      have hi2 : i < rows.length := by simp at hi; omega
      obtain ⟨n, y, g, g2⟩ := h3 i hi2
      rw [List.getD_eq_getElem?_getD, List.getElem?_eq_getElem hi2] at g
      rw [List.getElem?_eq_getElem (by omega)] at g2
      obtain ⟨x, k1, k2, k3, k4, k5, k6, k7⟩ := stp_trod g
      refine ⟨x, ?_, ⟨k2, k3⟩, k4, ⟨k5, k6⟩, ?_⟩
      · rw [List.getElem_zip]; exact k1
      · rw [List.getElem_zip]
        have := Option.some.inj g2
        rw [this]
        exact k7)
    have hzl : (rows.zip ds).length = rows.length := by simp [hl]
    refine ⟨xs, ⟨rows, h1, by omega, fun i hi => ?_⟩, fun x hx => ?_, fun x hx => ?_, fun x hx => ?_, ?_⟩
    · have := (hx2 i (by omega) hi).1
      rw [List.getElem_zip] at this
      rw [List.getD_eq_getElem?_getD, List.getElem?_eq_getElem (by omega)]
      exact this
    · obtain ⟨i, hi, rfl⟩ := List.getElem_of_mem hx
      exact (hx2 i (by omega) hi).2.1
    · obtain ⟨i, hi, rfl⟩ := List.getElem_of_mem hx
      exact fun n hn => wf7 ((hx2 i (by omega) hi).2.2.1 n hn)
    · obtain ⟨i, hi, rfl⟩ := List.getElem_of_mem hx
      exact (hx2 i (by omega) hi).2.2.2.1
    · have := wtS_bulk xs ds (by omega) (fun i hi hg => by
        have := (hx2 i (by omega) hi).2.2.2.2
        rw [List.getElem_zip] at this
        exact this)
      simp only [Rows.uptoBulk]
      omega

/-
  What the statements of layer 7 want of paths. No Go text in sight.
-/
theorem par_bytes (X : List Int) (hb : bytesL X) : ∀ x ∈ (parF X).1, bytesL x.1 ∧ bytesL x.2.2 := by
  intro x hx
  by_cases h : (parF X).2 = 0
  · obtain ⟨_, _, h1, h2⟩ := (par_ok X hb h).1 x hx
    exact ⟨h1, h2⟩
  · rw [par_err X h] at hx
    simp at hx
theorem shoF_len (l : List Int) (h : cells l) : (shoF l).length ≤ 9 * l.length := by
  have := shoT_len l h
  unfold shoF
  rw [List.length_drop]
  omega
theorem shp_wt (l : List Sp) (hc : ∀ x ∈ l, cells x.2.1) : (shpT l).length ≤ 10 * wtS l := by
  induction l with
  | nil => simp [shpT, wtS]
  | cons x l ih =>
    have h1 := ih (fun y hy => hc y (by simp [hy]))
    have h2 := shoF_len x.2.1 (hc x (by simp))
    have h3 : (bodT x).length ≤ x.1.length + (1 + 9 * x.2.1.length) + (1 + x.2.2.length) := by
      unfold bodT
      simp only [List.length_append]
      split <;> split <;> simp <;> omega
    simp only [shpT, wtS, List.length_cons, List.length_append]
    omega
/-- what is shown is parsed as the same steps -/
theorem shp_back (l : List Sp) (hc : ∀ x ∈ l, cells x.2.1) (h : (shpF l).2 = 0) : parF (shpF l).1 = (l, 0) := by
  unfold shpF at h ⊢
  split at h
  · simp at h
  · rename_i h1
    split at h
    · rename_i h2
      rw [if_neg h1, if_pos h2, h2]
      rfl
    · rename_i h2
      split at h
      · simp at h
      · rename_i h3
        rw [if_neg h1, if_neg h2, if_neg h3]
        exact par_back l (by simpa using h1) hc (by omega) h2
theorem shp_err (l : List Sp) : (shpF l).2 = 0 ∨ (shpF l).1 = [] ∧ ((shpF l).2 = 1 ∨ (shpF l).2 = 3) := by
  unfold shpF
  split
  · right; simp
  · split
    · left; rfl
    · split
      · right; simp
      · left; rfl
theorem shp_bytes (l : List Sp) (hb : ∀ x ∈ l, bytesL x.1 ∧ bytesL x.2.2) (hc : ∀ x ∈ l, cells x.2.1) : bytesL (shpF l).1 := by
  have key : ∀ l : List Sp, (∀ x ∈ l, bytesL x.1 ∧ bytesL x.2.2) → (∀ x ∈ l, cells x.2.1) → bytesL (shpT l) := by
    intro l
    induction l with
    | nil => intro _ _ x hx; simp [shpT] at hx
    | cons y l ih =>
      intro hb hc x hx
      have h1 := hb y (by simp)
      simp only [shpT, List.mem_cons, List.mem_append, bodT] at hx
      rcases hx with rfl | (hx | hx | hx) | hx
      · omega
      · exact h1.1 x hx
      · split at hx
        · simp at hx
        · simp only [List.mem_cons] at hx
          rcases hx with rfl | hx
          · omega
          · exact shoF_bytes y.2.1 (hc y (by simp)) x hx
      · split at hx
        · simp at hx
        · simp only [List.mem_cons] at hx
          rcases hx with rfl | hx
          · omega
          · exact h1.2 x hx
      · exact ih (fun z hz => hb z (by simp [hz])) (fun z hz => hc z (by simp [hz])) x hx
  unfold shpF
  split
  · intro x hx; simp at hx
  · split
    · intro x hx; simp at hx; omega
    · split
      · intro x hx; simp at hx
      · exact key l hb hc
/-- what is parsed is shown in no more bytes -/
theorem par_shp (X : List Int) (hb : bytesL X) (h : (parF X).2 = 0) : (shpF (parF X).1).2 = 0 ∧ (shpF (parF X).1).1.length ≤ X.length := by
  obtain ⟨h1, h2, h3, h4⟩ := par_ok X hb h
  have hall : ¬ (parF X).1.all okS = false := by
    have : (parF X).1.all okS = true := by
      rw [List.all_eq_true]
      intro x hx
      exact (h1 x hx).1
    rw [this]
    decide
  unfold shpF
  rw [if_neg hall]
  split
  · rename_i h5
    rw [h4 h5]
    simp
  · rw [if_neg (by omega)]
    exact ⟨rfl, h2⟩

/-
  SameNode and Same of the document's answer for trees.
-/
/-- two devices, two trees are one -/
def decN (x y : Nd) : Decidable (x = y) := @instDecidableEqProd _ _ _ (@instDecidableEqProd _ _ _ inferInstance) x y
def eqN (x y : Nd) : Bool := @decide (x = y) (decN x y)
theorem eqN_of {x y : Nd} (h : x = y) : eqN x y = true := @decide_eq_true _ (decN x y) h
theorem eqN_not {x y : Nd} (h : ¬ x = y) : eqN x y = false := @decide_eq_false _ (decN x y) h
def decT (a b : List Nd) : Decidable (a = b) := letI := decN; inferInstance
def eqT (a b : List Nd) : Bool := @decide (a = b) (decT a b)
theorem eqT_of {a b : List Nd} (h : a = b) : eqT a b = true := @decide_eq_true _ (decT a b) h
theorem eqT_not {a b : List Nd} (h : ¬ a = b) : eqT a b = false := @decide_eq_false _ (decT a b) h
theorem two_boxes (w : World) (a b : Array Value) (T : TypeId) : Stands ((w.alloc (.cells a T)).alloc (.cells b T)) w.heap.size a T ∧ Stands ((w.alloc (.cells a T)).alloc (.cells b T)) (w.heap.size + 1) b T ∧ Below w.heap.size w ((w.alloc (.cells a T)).alloc (.cells b T)) := by
  refine ⟨(stands_new w a T).below (box_below _ _), ?_, below_trans (box_below w _) (box_below _ _)⟩
  have := stands_new (w.alloc (.cells a T)) b T
  rwa [size_al] at this
theorem str_eq8 (A B : ByteArray) (a b : List Int) (ha : bytesL a) (hb : bytesL b) (h1 : strOfNums a = A) (h2 : strOfNums b = B) : (A.toList == B.toList) = decide (a = b) := by
  rw [str_beq, ← h1, ← h2]
  simp only [nums_eq a b ha hb]
theorem nd_ext (x y : Nd) (h1 : x.1 = y.1) (h2 : x.2.1 = y.2.1) (h3 : x.2.2.1 = y.2.2.1) (h4 : x.2.2.2.1 = y.2.2.2.1) (h5 : x.2.2.2.2 = y.2.2.2.2) : x = y := Prod.ext h1 (Prod.ext h2 (Prod.ext h3 (Prod.ext h4 h5)))

/-
  Same, find and twin of the document's answer for trees.
-/
/-- the number of a property, or -1 -/
def fdI (o : Option Nat) : Int := match o with
  | none => -1
  | some k => (k : Nat)

/-
  Slices of rows appended to rows of the call's own. No Go text in sight.
-/
theorem flat_get {α : Type} : ∀ (rows : List (List α)) (sz i j : Nat), (∀ r ∈ rows, r.length = sz) → i < rows.length → j < sz → rows.flatten[i * sz + j]? = (rows.getD i [])[j]?
  | [], sz, i, j, _, hi, _ => by simp at hi
  | r :: rows, sz, 0, j, h, hi, hj => by
    have hr := h r (by simp)
    simp only [List.flatten_cons, Nat.zero_mul, Nat.zero_add, List.getD_cons_zero]
    rw [List.getElem?_append_left (by omega)]
  | r :: rows, sz, i + 1, j, h, hi, hj => by
    have hr := h r (by simp)
    have ih := flat_get rows sz i j (fun x hx => h x (by simp [hx])) (by simpa using hi) hj
    simp only [List.flatten_cons, List.getD_cons_succ]
    rw [List.getElem?_append_right (by rw [hr, Nat.add_mul]; omega), hr, show (i + 1) * sz + j - sz = i * sz + j by rw [Nat.add_mul]; omega, ih]
theorem flat_len {α : Type} (rows : List (List α)) (sz : Nat) (h : ∀ r ∈ rows, r.length = sz) : rows.flatten.length = rows.length * sz := by
  induction rows with
  | nil => simp
  | cons r rows ih =>
    rw [List.flatten_cons, List.length_append, ih (fun x hx => h x (by simp [hx])), h r (by simp), List.length_cons, Nat.add_mul]
    omega
/-- append of a slice of rows onto a row of the call's own -/
theorem wp_append_rows {P : Program} {w : World} {o : Oper} {a : Act} {K : Act → World → Prop} {Q : Exit → Act → World → Prop} (s x : Operand) (t : TypeId)
    (ho : o.op = .call { callee := .builtin .append, args := #[s, x], argTypes := #[t, t] })
    (base : Nat) (e : TypeId) (i : TypeInfo) (z : Value) (sz bytes : Nat) (ht : P.underlying t = some (.slice e)) (hi : P.info? e = some i) (hz : i.zero = some z) (hsize : i.size = sz) (hby : i.bytes = bytes) (hzs : z.cells.size = sz) (hsz : 0 < sz)
    (v : Value) (n : Nat) (cs : List Value) (hs : a.eval s = v) (hown : w.ownsRow base e sz v n cs)
    (vx : Value) (rows : List (List Value)) (hx : a.eval x = vx) (hr : SlC sz w vx rows) (h1 : ∀ r ∈ rows, ∀ u ∈ r, u.oneCell' = true)
    (h63 : n + rows.length ≤ maxLen) (hbytes : (n + rows.length) * bytes ≤ 140737488355328) (hbase : base ≤ w.heap.size)
    (h : ∀ v' w', w'.ownsRow base e sz v' (n + rows.length) (cs ++ rows.flatten) → w.grownBy w' v.ownBlock → K (a.put o.dst v') w') : o.wp P a w K Q := by
  rcases hr with ⟨ao, cap, rfl, hn, rfl⟩ | ⟨b, off, cap, rfl, h0, hc1, hc2, hc⟩
  · cases ao with
    | none =>
      obtain rfl := hn rfl
      have hrun := run_append_owned_none (P := P) (w := w) base t o.type e i sz ht hi v n cs hown
      unfold Oper.wp
      simp [execOp, ho, resolve, invoke, builtin, hs, hx, hrun, Result.andThen]
      exact h v w (by simpa using hown) ⟨rfl, rfl, rfl, Nat.le_refl _, fun _ _ _ => rfl⟩
    | some ad =>
      refine wp_append_own w s x t ho base e i z sz bytes ht hi hz hsize hby hzs hsz v n _ hs hown ad 0 cap [] hx (by simp) (by simp) (by simp) (by simpa using h63) (by simpa using hbytes) hbase ?_
      intro v' w' h2 h3 _
      exact h v' w' (by simpa using h2) h3
  · have hlen : ∀ r ∈ rows, r.length = sz := by
      intro r hr
      obtain ⟨k, hk, rfl⟩ := List.getElem_of_mem hr
      have := (hc k hk).1
      rwa [List.getD_eq_getElem?_getD, List.getElem?_eq_getElem hk] at this
    refine wp_append_own w s x t ho base e i z sz bytes ht hi hz hsize hby hzs hsz v n _ hs hown ⟨b, off, none⟩ rows.length cap rows.flatten hx (flat_len rows sz hlen) ?_ (fun u hu => ?_) h63 hbytes hbase ?_
    · intro j u hj
      have hjl : j < rows.length * sz := by
        rw [← flat_len rows sz hlen]
        rcases Nat.lt_or_ge j rows.flatten.length with g | g
        · exact g
        · rw [List.getElem?_eq_none g] at hj; cases hj
      have hdm := Nat.div_add_mod j sz
      have hq : j / sz < rows.length := (Nat.div_lt_iff_lt_mul hsz).2 hjl
      have hm := Nat.mod_lt j hsz
      have e1 := flat_get rows sz (j / sz) (j % sz) hlen hq hm
      have e2 : j / sz * sz + j % sz = j := by rw [Nat.mul_comm]; exact hdm
      rw [e2, hj] at e1
      have e3 := (hc (j / sz) hq).2 (j % sz) hm
      rw [← e1, Nat.add_assoc, e2] at e3
      by_cases hz : j = 0
      · subst hz; simpa [Addr.add] using e3
      · simpa [Addr.add, hz] using e3
    · rw [List.mem_flatten] at hu
      obtain ⟨r, hr, hu⟩ := hu
      exact h1 r hr u hu
    · intro v' w' h2 h3 _
      exact h v' w' h2 h3
theorem wpList_append_rows {P : Program} {w : World} {ops : Array Oper} {rest : List Oper} {o : Oper} {a : Act} {Q : Exit → Act → World → Prop} (hgd : o.guard = none) (s x : Operand) (t : TypeId)
    (ho : o.op = .call { callee := .builtin .append, args := #[s, x], argTypes := #[t, t] })
    (base : Nat) (e : TypeId) (i : TypeInfo) (z : Value) (sz bytes : Nat) (ht : P.underlying t = some (.slice e)) (hi : P.info? e = some i) (hz : i.zero = some z) (hsize : i.size = sz) (hby : i.bytes = bytes) (hzs : z.cells.size = sz) (hsz : 0 < sz)
    (v : Value) (n : Nat) (cs : List Value) (hs : a.eval s = v) (hown : w.ownsRow base e sz v n cs)
    (vx : Value) (rows : List (List Value)) (hx : a.eval x = vx) (hr : SlC sz w vx rows) (h1 : ∀ r ∈ rows, ∀ u ∈ r, u.oneCell' = true)
    (h63 : n + rows.length ≤ maxLen) (hbytes : (n + rows.length) * bytes ≤ 140737488355328) (hbase : base ≤ w.heap.size)
    (h : ∀ v' w', w'.ownsRow base e sz v' (n + rows.length) (cs ++ rows.flatten) → w.grownBy w' v.ownBlock → wpList P ops Q rest (a.put o.dst v') w') : wpList P ops Q (o :: rest) a w :=
  wpList_plain hgd fun _ hK => wp_append_rows s x t ho base e i z sz bytes ht hi hz hsize hby hzs hsz v n cs hs hown vx rows hx hr h1 h63 hbytes hbase fun v' w' h2 h3 => hK _ _ (h v' w' h2 h3)
/-- the same as one step of a region that draws its order -/
theorem step_append_rows {P : Program} {ops : Array Oper} {w : World} {o : Oper} {a : Act} {K : Act → World → Prop} {Q : Exit → Act → World → Prop} {E : Prop} (hgd : o.guard = none) (s x : Operand) (t : TypeId)
    (ho : o.op = .call { callee := .builtin .append, args := #[s, x], argTypes := #[t, t] })
    (base : Nat) (e : TypeId) (i : TypeInfo) (z : Value) (sz bytes : Nat) (ht : P.underlying t = some (.slice e)) (hi : P.info? e = some i) (hz : i.zero = some z) (hsize : i.size = sz) (hby : i.bytes = bytes) (hzs : z.cells.size = sz) (hsz : 0 < sz)
    (v : Value) (n : Nat) (cs : List Value) (hs : a.eval s = v) (hown : w.ownsRow base e sz v n cs)
    (vx : Value) (rows : List (List Value)) (hx : a.eval x = vx) (hr : SlC sz w vx rows) (h1 : ∀ r ∈ rows, ∀ u ∈ r, u.oneCell' = true)
    (h63 : n + rows.length ≤ maxLen) (hbytes : (n + rows.length) * bytes ≤ 140737488355328) (hbase : base ≤ w.heap.size)
    (h : ∀ v' w', w'.ownsRow base e sz v' (n + rows.length) (cs ++ rows.flatten) → w.grownBy w' v.ownBlock → K (a.put o.dst v') w') :
    if Region.wanted o (yielded ops a.tmps) = true then Oper.wp P o a w K Q else E := by
  rw [if_pos (by simp [Region.wanted, hgd])]
  exact wp_append_rows s x t ho base e i z sz bytes ht hi hz hsize hby hzs hsz v n cs hs hown vx rows hx hr h1 h63 hbytes hbase h
/-- one row that was laid, as a slice of rows -/
theorem slc_one (w : World) (row : List Value) (T : TypeId) (sz : Nat) (h : row.length = sz) : SlC sz (w.alloc (.cells row.toArray T)) (.slice (some ⟨w.heap.size, 0, none⟩) 1 1) [row] := by
  refine Or.inr ⟨w.heap.size, 0, 1, rfl, by simp, by simp, by decide, fun i hi => ?_⟩
  have : i = 0 := by simp at hi; omega
  subst this
  refine ⟨by simpa using h, fun j hj => ?_⟩
  rw [World.cell?_alloc_new]
  simp

/-
  The library's functions that package prop leans on, as plain functions of lists of numbers: IndexByte, Clone, Cut at a comma.
-/
/-- where c stands first: -1, or the place -/
def AtB (l : List Int) (c i : Int) : Prop := (i = -1 ∧ ∀ x ∈ l, ¬ x = c) ∨ ∃ k : Nat, i = k ∧ k < l.length ∧ l = l.take k ++ c :: l.drop (k + 1) ∧ ∀ x ∈ l.take k, ¬ x = c
theorem atB_index (u : UInt8) : ∀ l : List UInt8, AtB (l.map fun c => (c.toNat : Int)) u.toNat (Lib.indexByte l u)
  | [] => Or.inl ⟨rfl, fun x hx => by simp at hx⟩
  | b :: l => by
    unfold Lib.indexByte
    by_cases hb : b = u
    · subst hb
      simp only [beq_self_eq_true, if_true]
      exact Or.inr ⟨0, rfl, by simp, by simp, fun x hx => by simp at hx⟩
    · have hne : (b == u) = false := by simpa using hb
      have hni : ¬ (b.toNat : Int) = u.toNat := by
        intro h
        exact hb (UInt8.toNat_inj.1 (by omega))
      rw [hne]
      simp only [Bool.false_eq_true, if_false]
      rcases atB_index u l with ⟨h1, h2⟩ | ⟨k, h1, h2, h3, h4⟩
      · rw [h1]
        refine Or.inl ⟨rfl, fun x hx => ?_⟩
        simp only [List.map_cons, List.mem_cons] at hx
        rcases hx with rfl | hx
        · exact hni
        · exact h2 x hx
      · rw [h1]
        have : ((k : Int) == -1) = false := by rw [beq_eq_false_iff_ne]; omega
        rw [this]
        simp only [Bool.false_eq_true, if_false]
        refine Or.inr ⟨k + 1, by simp, by simp only [List.map_cons, List.length_cons]; omega, ?_, fun x hx => ?_⟩
        · simp only [List.map_cons, List.take_succ_cons, List.drop_succ_cons, List.cons_append]
          rw [← h3]
        · simp only [List.map_cons, List.take_succ_cons, List.mem_cons] at hx
          rcases hx with rfl | hx
          · exact hni
          · exact h4 x hx
theorem byte_of {c : Int} (h0 : 0 ≤ c) (h1 : c < 256) : ((c.toNat.toUInt8).toNat : Int) = c := by
  rw [UInt8.toNat_ofNat']
  omega
theorem bytes_map {xs : List Int} (hB : bytesL xs) : (Lib.bytesOf xs).map (fun c => (c.toNat : Int)) = xs := by
  unfold Lib.bytesOf
  rw [List.map_map]
  conv => rhs; rw [← List.map_id xs]
  apply List.map_congr_left
  intro x hx
  have := hB x hx
  simp only [Function.comp, id]
  exact byte_of this.1 this.2

set_option maxHeartbeats 1000000 in
set_option maxRecDepth 100000 in
theorem w_slib (s : ByteArray) (c : Int) (w : World) (h0 : 0 ≤ c) (h1 : c < 256) :
    Calls Tryd.prog 61 #[.string s, .int .u8 c] w fun e w' => ∃ i, e = .returned (.int .i64 i) ∧ AtB (L s) c i ∧ w' = w := by
  go_enter Tryd.func61, Tryd.ntmps61
  go_wp2
  rw [run_callFunc_extern Tryd.func69 (by kernel_rfl) (by kernel_rfl) (by kernel_rfl) (e := Extern.BytealgIndexByte.indexByte) (by kernel_rfl), Lib.run_indexByteString]
  simp only [Result.andThen]
  rw [Oper.upon_value]
  go_wp2
  go_ret
  refine ⟨_, rfl, ?_, rfl⟩
  have := atB_index c.toNat.toUInt8 s.data.toList
  rw [byte_of h0 h1] at this
  exact this

set_option maxHeartbeats 1000000 in
set_option maxRecDepth 100000 in
theorem w_sib (s : ByteArray) (c : Int) (w : World) (h0 : 0 ≤ c) (h1 : c < 256) :
    Calls Tryd.prog 57 #[.string s, .int .u8 c] w fun e w' => ∃ i, e = .returned (.int .i64 i) ∧ AtB (L s) c i ∧ w' = w := by
  go_enter Tryd.func57, Tryd.ntmps57
  go_wp2_with (go_at_call 61; refine (w_slib s c _ h0 h1).mono ?_; rintro e w1 ⟨i, rfl, hi, rfl⟩)
  go_ret
  exact ⟨i, rfl, hi, rfl⟩

theorem bib_run (v : Value) (xs : List Int) (c : Int) (w : World) (h : Rd .u8 w v xs) (hB : bytesL xs) (h0 : 0 ≤ c) (h1 : c < 256) : ∃ i, AtB xs c i ∧ (Extern.BytealgIndexByte.indexByte #[v, .int .u8 c]).run Tryd.prog w = .ok (.int .i64 i) w := by
  rcases h with ⟨ao, cap, rfl, hn, rfl⟩ | ⟨b, off, cap, rfl, hp, hc1, hc2, hc⟩
  · refine ⟨-1, Or.inl ⟨rfl, fun x hx => by simp at hx⟩, ?_⟩
    cases ao with
    | none => exact Lib.run_indexByteNil (P := Tryd.prog) (w := w) 0 cap c
    | some a => exact Lib.run_indexByteString (P := Tryd.prog) .empty c w
  · refine ⟨Lib.indexByte (Lib.bytesOf xs) c.toNat.toUInt8, ?_, Lib.run_indexByteSlice w b off xs.length cap xs rfl hc c⟩
    have := atB_index c.toNat.toUInt8 (Lib.bytesOf xs)
    rw [byte_of h0 h1, bytes_map hB] at this
    exact this

set_option maxHeartbeats 1000000 in
set_option maxRecDepth 100000 in
theorem w_bcl (v : Value) (xs : List Int) (w : World) (h : Rd .u8 w v xs) (hz : xs.length ≤ 140737488355328) :
    Calls Tryd.prog 45 #[v] w fun e w' => ∃ v', e = .returned v' ∧ Rd .u8 w' v' xs ∧ Below w.heap.size w w' := by
  obtain ⟨i0, hi, hz0, hz1, hz2⟩ := info_parts infoU8
  obtain ⟨ao, cap, rfl, hc, hn, hx⟩ := rd_form h
  cases ao with
  | none =>
    have hc0 := hn rfl
    have hl : xs = [] := List.eq_nil_of_length_eq_zero (by omega)
    subst hl
    subst hc0
    show Calls _ _ #[.slice none 0 0] _ _
    have q := Lib.run_eql_slice_nil (P := Tryd.prog) w 31 5 none 0 0 0 0 Tryd.underlying31
    go_enter Tryd.func45, Tryd.ntmps45
    go_wp2_with fail
    go_ret
    exact ⟨_, rfl, Rd_nil, Below.refl _ _⟩
  | some a =>
    have q := Lib.run_eql_slice_nil (P := Tryd.prog) w 31 5 (some a) xs.length cap 0 0 Tryd.underlying31
    have ha := h.below (box_below w (.cells #[] 5))
    go_enter Tryd.func45, Tryd.ntmps45
    go_wp2_with (at_builtin; refine wpList_append_rd (k := .u8) rfl _ _ 31 rfl w.heap.size 5 i0 1 Tryd.underlying31 hi hz0 hz1 hz2 _ [] rfl (World.ownsRow_made w #[] 0 (Nat.le_refl _) (Nat.zero_le _) rfl) _ xs rfl ha (by unfold maxLen; simp; omega) (by simp; omega) (by simp) ?_; intro v5 w5 ho5 hg5)
    go_ret
    refine ⟨v5, rfl, (Rd_own (by simpa using ho5)).1, below_grown (box_below w _) hg5 (fun k hk => by simp [Value.ownBlock, Act.eval] at hk; omega)⟩

set_option maxHeartbeats 1000000 in
set_option maxRecDepth 100000 in
theorem w_slix (s : ByteArray) (w : World) :
    Calls Tryd.prog 58 #[.string s, .string ⟨#[44]⟩] w fun e w' => ∃ i, e = .returned (.int .i64 i) ∧ AtB (L s) 44 i ∧ w' = w := by
  go_enter Tryd.func58, Tryd.ntmps58
  go_wp2_with (go_at_call 61; refine (w_slib s 44 _ (by decide) (by decide)).mono ?_; rintro e w1 ⟨i, rfl, hi, rfl⟩)
  · have h : ([44] == s.toList) = true := by assumption
    go_ret
    have e : s.data.toList = [44] := by rw [← ByteArray.toList_eq]; exact (beq_iff_eq.1 h).symm
    refine ⟨_, rfl, Or.inr ⟨0, rfl, ?_, ?_, fun x hx => by simp at hx⟩, rfl⟩
    · simp [L, e]
    · simp [L, e]
  · go_ret
    exact ⟨i, rfl, hi, rfl⟩

/-- what Cut at a comma answers -/
def CutC (l : List Int) (A B : ByteArray) (f : Bool) : Prop := (f = false ∧ L A = l ∧ ∀ x ∈ l, ¬ x = 44) ∨ (f = true ∧ l = L A ++ 44 :: L B ∧ ∀ x ∈ L A, ¬ x = 44)

/-
  What the walks of layer 8's landed package lean on of the listed variables: one cell of a table of math/bits.
-/
/-- what the walks lean on of the listed variables: one cell of a table of math/bits -/
def Tab (w : World) : Prop := True ∧ w.cell? ⟨3, 15, none⟩ = some (.int .u8 4)
theorem Tab.below {w w' : World} (h : Tab w) (g : Below w.heap.size w w') : Tab w' := ⟨trivial, below_cell g h.2⟩
theorem Tab.on {w w' : World} {B : Nat} (h : Tab w) (g : Below B w w') (hB : 100 ≤ B ∨ (3 < B ∧ 3 < B)) : Tab w' := by
  refine ⟨trivial, (g.cell (p := ⟨3, 15, none⟩) ?_).trans h.2⟩
  show 3 < B
  omega
theorem Tab.lt {w : World} (h : Tab w) : 3 < w.heap.size ∧ 3 < w.heap.size :=
  ⟨World.block_lt_of_cell? w _ h.2, World.block_lt_of_cell? w _ h.2⟩

theorem L_getD (s : ByteArray) (k : Nat) (h : k < s.size) : ((s.data.toList.getD k 0).toNat : Int) = (s[k].toNat : Int) := by
  rw [List.getD_eq_getElem?_getD, List.getElem?_eq_getElem (by simpa using h)]
  rfl
theorem pc_bad (l : List Int) (h : allD 16 l = false) : pcOk l = false := by simp [pcOk, h]
theorem pc_mid (l m : List Int) (c : Int) (h : isD c 16 = false) : pcOk (l ++ c :: m) = false := pc_bad _ (allD_mid 16 l m c h)

/-
  The library's Clone and Equal that package tree calls: what they return, in new memory.
-/
set_option maxHeartbeats 1000000 in
theorem w_pclone32 (v : Value) (xs : List Int) (w : World) (h : Rd .u32 w v xs) (hb : xs.length * 4 ≤ 140737488355328) :
    Calls Tryd.prog 24 #[v] w fun e w' => ∃ v', e = .returned v' ∧ w'.ownsRow w.heap.size 47 1 v' xs.length (xs.map (Value.int .u32)) ∧ Below w.heap.size w w' := by
  obtain ⟨i0, hi, hz0, hz1, hz2⟩ := info_parts infoU32
  obtain ⟨ao, cap, rfl, hc, hn, hx⟩ := rd_form h
  cases ao with
  | none =>
    have hc0 := hn rfl
    have hl : xs = [] := List.eq_nil_of_length_eq_zero (by omega)
    subst hl
    subst hc0
    show Calls _ _ #[.slice none 0 0] _ _
    have q := Lib.run_eql_slice_nil (P := Tryd.prog) w 27 47 none 0 0 0 0 Tryd.underlying27
    go_enter Tryd.func24, Tryd.ntmps24
    go_wp2_with fail
    go_ret
    exact ⟨_, rfl, World.ownsRow_nil _ _ _ _, Below.refl _ _⟩
  | some a =>
    have q := Lib.run_eql_slice_nil (P := Tryd.prog) w 27 47 (some a) xs.length cap 0 0 Tryd.underlying27
    have ha := h.below (box_below w (.cells #[] 47))
    go_enter Tryd.func24, Tryd.ntmps24
    go_wp2_with (at_builtin; refine wpList_append_rd (k := .u32) rfl _ _ 27 rfl w.heap.size 47 i0 4 Tryd.underlying27 hi hz0 hz1 hz2 _ [] rfl (World.ownsRow_made w #[] 0 (Nat.le_refl _) (Nat.zero_le _) rfl) _ xs rfl ha (by unfold maxLen; simp; omega) (by simp; omega) (by simp) ?_; intro v5 w5 ho5 hg5)
    go_ret
    exact ⟨v5, rfl, by simpa using ho5, below_grown (box_below w _) hg5 (fun k hk => by simp [Value.ownBlock, Act.eval] at hk; omega)⟩

set_option maxHeartbeats 1000000 in
theorem w_pclone8 (v : Value) (xs : List Int) (w : World) (h : Rd .u8 w v xs) (hz : xs.length ≤ 140737488355328) :
    Calls Tryd.prog 45 #[v] w fun e w' => ∃ v', e = .returned v' ∧ w'.ownsRow w.heap.size 5 1 v' xs.length (xs.map (Value.int .u8)) ∧ Below w.heap.size w w' := by
  obtain ⟨i0, hi, hz0, hz1, hz2⟩ := info_parts infoU8
  obtain ⟨ao, cap, rfl, hc, hn, hx⟩ := rd_form h
  cases ao with
  | none =>
    have hc0 := hn rfl
    have hl : xs = [] := List.eq_nil_of_length_eq_zero (by omega)
    subst hl
    subst hc0
    show Calls _ _ #[.slice none 0 0] _ _
    have q := Lib.run_eql_slice_nil (P := Tryd.prog) w 31 5 none 0 0 0 0 Tryd.underlying31
    go_enter Tryd.func45, Tryd.ntmps45
    go_wp2_with fail
    go_ret
    exact ⟨_, rfl, World.ownsRow_nil _ _ _ _, Below.refl _ _⟩
  | some a =>
    have q := Lib.run_eql_slice_nil (P := Tryd.prog) w 31 5 (some a) xs.length cap 0 0 Tryd.underlying31
    have ha := h.below (box_below w (.cells #[] 5))
    go_enter Tryd.func45, Tryd.ntmps45
    go_wp2_with (at_builtin; refine wpList_append_rd (k := .u8) rfl _ _ 31 rfl w.heap.size 5 i0 1 Tryd.underlying31 hi hz0 hz1 hz2 _ [] rfl (World.ownsRow_made w #[] 0 (Nat.le_refl _) (Nat.zero_le _) rfl) _ xs rfl ha (by unfold maxLen; simp; omega) (by simp; omega) (by simp) ?_; intro v5 w5 ho5 hg5)
    go_ret
    exact ⟨v5, rfl, by simpa using ho5, below_grown (box_below w _) hg5 (fun k hk => by simp [Value.ownBlock, Act.eval] at hk; omega)⟩

theorem infoNod8 : (Tryd.prog.info? 30).map (fun i => (i.zero, i.size, i.bytes)) = some (some (.agg #[.string ⟨#[]⟩, .slice none 0 0, .int .i64 0, .slice none 0 0, .slice none 0 0]), 5, 96) := by kernel_rfl
theorem infoPrp8 : (Tryd.prog.info? 33).map (fun i => (i.zero, i.size, i.bytes)) = some (some (.agg #[.string ⟨#[]⟩, .slice none 0 0]), 2, 40) := by kernel_rfl

set_option maxHeartbeats 1000000 in
theorem w_pcloneN (v : Value) (rows : List (List Value)) (w : World) (h : SlC 5 w v rows) (h1 : ∀ r ∈ rows, ∀ u ∈ r, u.oneCell' = true) (hb : rows.length * 96 ≤ 140737488355328) :
    Calls Tryd.prog 43 #[v] w fun e w' => ∃ v', e = .returned v' ∧ w'.ownsRow w.heap.size 30 5 v' rows.length rows.flatten ∧ Below w.heap.size w w' := by
  obtain ⟨i0, hi, hz0, hz1, hz2⟩ := info_parts infoNod8
  obtain ⟨ao, cap, rfl, hc, hn, hx⟩ := h.form
  cases ao with
  | none =>
    have hc0 := hn rfl
    have hl : rows = [] := List.eq_nil_of_length_eq_zero (by omega)
    subst hl
    subst hc0
    show Calls _ _ #[.slice none 0 0] _ _
    have q := Lib.run_eql_slice_nil (P := Tryd.prog) w 22 30 none 0 0 0 0 Tryd.underlying22
    go_enter Tryd.func43, Tryd.ntmps43
    go_wp2_with fail
    go_ret
    exact ⟨_, rfl, World.ownsRow_nil _ _ _ _, Below.refl _ _⟩
  | some a =>
    have q := Lib.run_eql_slice_nil (P := Tryd.prog) w 22 30 (some a) rows.length cap 0 0 Tryd.underlying22
    have ha := h.below (box_below w (.cells #[] 30))
    go_enter Tryd.func43, Tryd.ntmps43
    go_wp2_with (at_builtin; refine wpList_append_rows rfl _ _ 22 rfl w.heap.size 30 i0 _ 5 96 Tryd.underlying22 hi hz0 hz1 hz2 rfl (by decide) _ 0 [] rfl (World.ownsRow_made w #[] 0 (Nat.le_refl _) (Nat.zero_le _) rfl) _ rows rfl ha h1 (by unfold maxLen; omega) (by omega) (by simp) ?_; intro v5 w5 ho5 hg5)
    go_ret
    exact ⟨v5, rfl, by simpa using ho5, below_grown (box_below w _) hg5 (fun k hk => by simp [Value.ownBlock, Act.eval] at hk; omega)⟩

set_option maxHeartbeats 1000000 in
theorem w_pcloneP (v : Value) (rows : List (List Value)) (w : World) (h : SlC 2 w v rows) (h1 : ∀ r ∈ rows, ∀ u ∈ r, u.oneCell' = true) (hb : rows.length * 40 ≤ 140737488355328) :
    Calls Tryd.prog 44 #[v] w fun e w' => ∃ v', e = .returned v' ∧ w'.ownsRow w.heap.size 33 2 v' rows.length rows.flatten ∧ Below w.heap.size w w' := by
  obtain ⟨i0, hi, hz0, hz1, hz2⟩ := info_parts infoPrp8
  obtain ⟨ao, cap, rfl, hc, hn, hx⟩ := h.form
  cases ao with
  | none =>
    have hc0 := hn rfl
    have hl : rows = [] := List.eq_nil_of_length_eq_zero (by omega)
    subst hl
    subst hc0
    show Calls _ _ #[.slice none 0 0] _ _
    have q := Lib.run_eql_slice_nil (P := Tryd.prog) w 28 33 none 0 0 0 0 Tryd.underlying28
    go_enter Tryd.func44, Tryd.ntmps44
    go_wp2_with fail
    go_ret
    exact ⟨_, rfl, World.ownsRow_nil _ _ _ _, Below.refl _ _⟩
  | some a =>
    have q := Lib.run_eql_slice_nil (P := Tryd.prog) w 28 33 (some a) rows.length cap 0 0 Tryd.underlying28
    have ha := h.below (box_below w (.cells #[] 33))
    go_enter Tryd.func44, Tryd.ntmps44
    go_wp2_with (at_builtin; refine wpList_append_rows rfl _ _ 28 rfl w.heap.size 33 i0 _ 2 40 Tryd.underlying28 hi hz0 hz1 hz2 rfl (by decide) _ 0 [] rfl (World.ownsRow_made w #[] 0 (Nat.le_refl _) (Nat.zero_le _) rfl) _ rows rfl ha h1 (by unfold maxLen; omega) (by omega) (by simp) ?_; intro v5 w5 ho5 hg5)
    go_ret
    exact ⟨v5, rfl, by simpa using ho5, below_grown (box_below w _) hg5 (fun k hk => by simp [Value.ownBlock, Act.eval] at hk; omega)⟩

set_option maxHeartbeats 1000000 in
theorem w_pequal (va vb : Value) (xs ys : List Int) (w : World) (ha : Rd .u32 w va xs) (hb : Rd .u32 w vb ys) :
    Calls Tryd.prog 42 #[va, vb] w fun e w' => e = .returned (.bool (decide (xs = ys))) ∧ Dr w w' := by
  have hla := rd_len ha uU (P := Tryd.prog)
  have hlb := rd_len hb uU (P := Tryd.prog)
  by_cases hl : xs.length = ys.length
  · have hn : ((xs.length : Int) != (ys.length : Int)) = false := by simp [hl]
    have hm : xs.length ≤ maxLen := by
      rcases ha with ⟨_, _, _, _, rfl⟩ | ⟨_, _, _, _, _, g1, g2, _⟩
      · simp
      · omega
    unfold maxLen at hm
    have Hl := hid hl
    have HA := hid ha
    have HB := hid hb
    clear hl ha hb
    go_enter Tryd.func42, Tryd.ntmps42
    go_wp2_with fail
    go_loopw [13] (fun i wx => ∃ k : Nat, (k : Int) ≤ xs.length ∧ i = .int .i64 k ∧ Hid (xs.take k = ys.take k) ∧ Dr w wx) (fun i _ => (xs.length - intOf i).toNat)
    case atStart => exact ⟨0, by omega, rfl, hid (by simp), dr_refl _⟩
    case round =>
      obtain ⟨k, hk, rfl, ht, hg⟩ := hrel
      by_cases hlt : (k : Int) < xs.length
      · have hlt2 : (k : Int) < (ys.length : Int) := by have := Hl.out; omega
        obtain ⟨a1, i1, c1⟩ := rd_idx (HA.out.below (dr_below hg)) uU zU k (by omega) hlt
        obtain ⟨a2, i2, c2⟩ := rd_idx (HB.out.below (dr_below hg)) uU zU k (by omega) hlt2
        simp only [Int.toNat_natCast] at c1 c2
        obtain ⟨x, hx⟩ : ∃ x, xs.getD k 0 = x := ⟨_, rfl⟩
        obtain ⟨y, hy⟩ : ∃ y, ys.getD k 0 = y := ⟨_, rfl⟩
        rw [hx] at c1
        rw [hy] at c2
        by_cases hxy : x = y
        · have ht2 : Hid (xs.take (k + 1) = ys.take (k + 1)) := same_take xs ys k (by omega) (by omega) ht.out (by rw [hx, hy, hxy])
          have hb : (x != y) = false := by simp [hxy]
          clear hx hy hxy
          go_wp2_with fail
          go_quiet (fail)
          go_wp2_with fail
          go_roundw
          case rel => exact ⟨k + 1, by omega, by go_num, ht2, dr_more hg _⟩
          case measure => simp [intOf]; omega
        · have hf : Hid (decide (xs = ys) = false) := by show _ = _; simp; exact ne_at xs ys k (by rw [hx, hy]; exact hxy)
          have hb : (x != y) = true := by simp [hxy]
          clear hx hy hxy
          go_wp2_with fail
          go_quiet (fail)
          go_wp2_with fail
          go_ret
          exact ⟨ret_b hf.out.symm, dr_more hg _⟩
      · have hf : Hid (decide (xs = ys) = true) := by
          show _ = _
          have h1 : xs.take k = xs := List.take_of_length_le (by omega)
          have h2 : ys.take k = ys := List.take_of_length_le (by have := Hl.out; omega)
          have := ht.out
          rw [h1, h2] at this
          simp [this]
        go_wp2_with fail
        go_ret
        exact ⟨ret_b hf.out.symm, hg⟩
  · have hf : Hid (decide (xs = ys) = false) := by show _ = _; simp; intro h; exact hl (by rw [h])
    have hn : ((xs.length : Int) != (ys.length : Int)) = true := by simp; omega
    clear hl
    go_enter Tryd.func42, Tryd.ntmps42
    go_wp2_with fail
    go_ret
    exact ⟨ret_b hf.out.symm, dr_refl _⟩

end Go.Proofs.YtkdaimagdmbnfabDoor
