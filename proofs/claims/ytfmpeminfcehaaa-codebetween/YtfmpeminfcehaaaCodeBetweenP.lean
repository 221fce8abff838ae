/-
  What is complete by itself and built in between lies in between, its branches shifted, and changes nothing of what is open.
-/
import Derived.Test.YtfmpeminfcehaaaRows
import Derived.WalkKit
import Derived.ProofKit
import Derived.OpenShut
import Derived.ShutString
import Derived.ChangeOld
import Derived.Below
import Derived.Carry
import Derived.SizedLaws
import Derived.Test.YtfmpeminfcehaaaSl
import Derived.Test.YtfmpeminfcehaaaCkc
import Derived.Test.YtfmpeminfcehaaaDfp
import Derived.Test.YtfmpeminfcehaaaRk1
namespace Go.Proofs.Ytfmpeminfcehaaa.codeBetween
open Go.ChangeShapes Go.WideShapes Go.ChangeAt Go.RowKit
open Go.ChangeMaps (open_string shut_string)
set_option linter.unusedVariables false
set_option linter.unusedSimpArgs false

theorem own : ownKnob Try.prog.godebug = none := by kernel_rfl
theorem laidOut : laidOutB Try.prog = true := by kernel_rfl

set_option maxHeartbeats 4000000 in
set_option maxRecDepth 100000 in
theorem walk (v0 : Value) (x0 : List (Int × Opd)) (v1 : Value) (x1 : List (Int × Opd)) (w : World) (r0 : RdE w v0 x0) (g0 : ∀ x ∈ x0, gE x) (z0 : x0.length * 24 ≤ 140737488351232) (r1 : RdE w v1 x1) (g1 : ∀ x ∈ x1, gE x) (z1 : x1.length * 24 ≤ 140737488351232) :
    Calls Try.prog 7 #[v0, v1] w fun e w' => e = .returned (.bool true) ∧ Below w.heap.size w w' := by
  have hz0 := bld_sz lng_nil x0 (by omega) (by omega)
  have hz1 := bld_sz lng_nil x1 (by omega) (by omega)
  have cb0 := fun W (b : Below w.heap.size w W) => w_build ⟨.slice none 0 0, .slice none 0 0, .slice none 0 0, .slice none 0 0, .slice none 0 0⟩ nilD v0 x0 W (OwQ.nil W).read (r0.below b) hz0
  have cb1 := fun W (b : Below w.heap.size w W) => w_build ⟨.slice none 0 0, .slice none 0 0, .slice none 0 0, .slice none 0 0, .slice none 0 0⟩ nilD v1 x1 W (OwQ.nil W).read (r1.below b) hz1
  have hln0 : Lng x0.length x0.length (bldD nilD x0).1 := by have := bld_lng x0 lng_nil; simpa using this
  have hln1 : Lng x1.length x1.length (bldD nilD x1).1 := by have := bld_lng x1 lng_nil; simpa using this
  have hf0 := bld_formed x0 nilD frm_nil
  have hf1 := bld_formed x1 nilD frm_nil
  have hs1 := bld_sound x1 nilD nil_sound
  have hbt := fun a b c => between (d := (bldD nilD x0).1) (l := x1) hf0 a b c
  have hbz := fun a b c => between_sz hln0 hf0 x1 a b c (by omega) (by omega)
  have cf := fun W u (r : RdD W u (bldD nilD x1).1) => w_p10finishA u (bldD nilD x1).1 W r (hln1.sz (by omega) (by omega)).1
  have cb2 := fun W u (b : Below w.heap.size w W) (r : RdD W u (bldD nilD x0).1) hz => w_build u (bldD nilD x0).1 v1 x1 W r (r1.below b) hz
  have cc := fun W u (r : RdD W u (bldD nilD x0).1) => w_r10copy u (bldD nilD x0).1 W r (hln0.sz (by omega) (by omega)).1
  have hfc : (finD (bldD nilD x1).1).1.length ≤ 256 ∧ ((finD (bldD nilD x1).1).2 = 0 → (finD (bldD nilD x1).1).1 = (bldD nilD x1).1.code) := by
    have h6 := ((frm_iff _).1 hf1).len
    unfold finD
    rw [if_neg (by rw [hf1]; simp)]
    split
    · exact ⟨by simp, fun h => by simp at h⟩
    · exact ⟨h6, fun _ => rfl⟩
  obtain ⟨D, hD⟩ : ∃ D, (bldD nilD x0).1 = D := ⟨_, rfl⟩
  obtain ⟨M0, hM0⟩ : ∃ D, (bldD nilD x0).2.1 = D := ⟨_, rfl⟩
  obtain ⟨E, hE⟩ : ∃ D, (bldD nilD x0).2.2 = D := ⟨_, rfl⟩
  obtain ⟨X, hX⟩ : ∃ D, (bldD nilD x1).1 = D := ⟨_, rfl⟩
  obtain ⟨M1, hM1⟩ : ∃ D, (bldD nilD x1).2.1 = D := ⟨_, rfl⟩
  obtain ⟨G, hG⟩ : ∃ D, (bldD nilD x1).2.2 = D := ⟨_, rfl⟩
  simp only [hD, hM0, hE, hX, hM1, hG] at cb0 cb1 cf cb2 cc hbt hbz hf0 hf1 hs1 hln0 hln1 hfc
  obtain ⟨C, hC⟩ : ∃ D1, (finD X).1 = D1 := ⟨_, rfl⟩
  obtain ⟨H, hH⟩ : ∃ D1, (finD X).2 = D1 := ⟨_, rfl⟩
  simp only [hC, hH] at cf hbt hbz hfc
  simp only [Dv.cs] at cb0 cb1
  have Qcb0 := hid cb0
  have Qcb1 := hid cb1
  have Qcb2 := hid cb2
  have Qcf := hid cf
  have Qcc := hid cc
  have Qhbt := hid hbt
  have Qhbz := hid hbz
  have Qhs1 := hid hs1
  have Qhfc := hid hfc
  have Qhf0 := hid hf0
  have hC256 : (C.length : Int) ≤ 256 := by have := hfc.1; omega
  have hD256 : (D.code.length : Int) ≤ 256 := by have := hln0.code; omega
  clear hz0 hz1 cb0 cb1 cb2 cf cc hbt hbz hs1 hfc hf0 hf1 hln0 hln1 hD hM0 hE hX hM1 hG hC hH r0 r1 g0 g1 z0 z1
  go_enter Try.func7, Try.ntmps7
  go_upto_region 4 with (first | (go_at_call 8; refine (w_alive10 _).mono ?_; rintro e q1 ⟨rfl, b1⟩) | (go_at_call 20; refine (Qcb0.out _ b1).mono ?_; rintro e q2 ⟨u2, rfl, r2, b2⟩; obtain ⟨da0, dc0, da1, dc1, da2, dc2, da3, dc3, da4, dc4, rfl⟩ := rdD_forms r2))
  have bx3 := box_below q2 (.cells #[.slice da0 D.code.length dc0, .slice da1 D.origs.length dc1, .slice da2 D.dests.length dc2, .slice da3 D.loops.length dc3, .slice da4 D.cases.length dc4] 26)
  have sx3 := stands_new q2 #[.slice da0 D.code.length dc0, .slice da1 D.origs.length dc1, .slice da2 D.dests.length dc2, .slice da3 D.loops.length dc3, .slice da4 D.cases.length dc4] 26
  have rx3 : RdD _ ⟨.slice da0 D.code.length dc0, .slice da1 D.origs.length dc1, .slice da2 D.dests.length dc2, .slice da3 D.loops.length dc3, .slice da4 D.cases.length dc4⟩ D := r2.below bx3
  obtain ⟨X3, hX3⟩ : ∃ X, q2.heap.size = X := ⟨_, rfl⟩
  rw [hX3] at sx3
  (try simp only [hX3])
  generalize q2.alloc (.cells #[.slice da0 D.code.length dc0, .slice da1 D.origs.length dc1, .slice da2 D.dests.length dc2, .slice da3 D.loops.length dc3, .slice da4 D.cases.length dc4] 26) = w3 at bx3 sx3 rx3 ⊢
  clear hX3
  have BW := below_trans (below_trans b1 b2) bx3
  clear b1 b2 bx3 r2
  go_upto_region 5 with (go_at_call 20; refine (Qcb1.out _ BW).mono ?_; rintro e q4 ⟨u4, rfl, r4, b4⟩; obtain ⟨xa0, xc0, xa1, xc1, xa2, xc2, xa3, xc3, xa4, xc4, rfl⟩ := rdD_forms r4)
  have bx5 := box_below q4 (.cells #[.slice xa0 X.code.length xc0, .slice xa1 X.origs.length xc1, .slice xa2 X.dests.length xc2, .slice xa3 X.loops.length xc3, .slice xa4 X.cases.length xc4] 26)
  have sx5 := stands_new q4 #[.slice xa0 X.code.length xc0, .slice xa1 X.origs.length xc1, .slice xa2 X.dests.length xc2, .slice xa3 X.loops.length xc3, .slice xa4 X.cases.length xc4] 26
  have rx5 : RdD _ ⟨.slice xa0 X.code.length xc0, .slice xa1 X.origs.length xc1, .slice xa2 X.dests.length xc2, .slice xa3 X.loops.length xc3, .slice xa4 X.cases.length xc4⟩ X := r4.below bx5
  obtain ⟨X5, hX5⟩ : ∃ X, q4.heap.size = X := ⟨_, rfl⟩
  rw [hX5] at sx5
  (try simp only [hX5])
  generalize q4.alloc (.cells #[.slice xa0 X.code.length xc0, .slice xa1 X.origs.length xc1, .slice xa2 X.dests.length xc2, .slice xa3 X.loops.length xc3, .slice xa4 X.cases.length xc4] 26) = w5 at bx5 sx5 rx5 ⊢
  clear hX5
  have b5 := below_trans b4 bx5
  have sx3 := sx3.below b5
  have rx3 := rx3.below b5
  have BW := below_trans BW b5
  clear b4 bx5 b5 r4
  have cf := Qcf.out w5 ⟨.slice xa0 X.code.length xc0, .slice xa1 X.origs.length xc1, .slice xa2 X.dests.length xc2, .slice xa3 X.loops.length xc3, .slice xa4 X.cases.length xc4⟩ rx5
  simp only [Dv.cs] at cf
  have f0 := sx5.cell 0 _ rfl
  have f1 := sx5.cell 1 _ rfl
  have f2 := sx5.cell 2 _ rfl
  have f3 := sx5.cell 3 _ rfl
  have f4 := sx5.cell 4 _ rfl
  go_upto_region 6 with (go_at_call 17; refine cf.mono ?_; rintro e q6 ⟨vc, rfl, rc, b6⟩)
  have sx3 := sx3.below b6
  have rx3 := rx3.below b6
  have BW := below_trans BW b6
  have hlc := slr_len rc uO (P := Try.prog)
  clear b6 cf f0 f1 f2 f3 f4 sx5 rx5
  have f0 := sx3.cell 0 _ rfl
  by_cases hE : E = 0
  · have jE : (E != 0) = false := by simp [hE]
    have PE := hid hE
    clear hE
    by_cases hG : G = 0
    · have jG : (G != 0) = false := by simp [hG]
      have PG := hid hG
      clear hG
      by_cases hH : H = 0
      · have jH : (H != 0) = false := by simp [hH]
        have PH := hid hH
        clear hH
        by_cases hL : (256 : Int) - C.length < D.code.length
        · have jL : decide ((256 : Int) - C.length < D.code.length) = true := decide_eq_true hL
          go_wp2_with fail
          go_ret
          exact ⟨rfl, BW⟩
        · have jL : decide ((256 : Int) - C.length < D.code.length) = false := decide_eq_false hL
          have hN : D.code.length + C.length ≤ 256 := by omega
          obtain ⟨bt1, bt2⟩ := Qhbt.out PG.out PH.out hN
          have HCX := hid (Qhfc.out.2 PH.out)
          have c8 := Qcb2.out q6 ⟨.slice da0 D.code.length dc0, .slice da1 D.origs.length dc1, .slice da2 D.dests.length dc2, .slice da3 D.loops.length dc3, .slice da4 D.cases.length dc4⟩ BW rx3 (Qhbz.out PG.out PH.out hN)
          obtain ⟨M2, hM2⟩ : ∃ x, (bldD D x1).2.1 = x := ⟨_, rfl⟩
          rw [bt1, bt2, hM2] at c8
          obtain ⟨Y, hY⟩ : ∃ x, ({ D with code := D.code ++ C.map (shN (D.code.length : Int)) } : Dft) = x := ⟨_, rfl⟩
          rw [hY] at c8
          simp only [Dv.cs] at c8
          have HY := hid hY
          clear bt1 bt2 hM2 hL hY
          have f1 := sx3.cell 1 _ rfl
          have f2 := sx3.cell 2 _ rfl
          have f3 := sx3.cell 3 _ rfl
          have f4 := sx3.cell 4 _ rfl
          go_upto_region 11 with (go_at_call 20; refine c8.mono ?_; rintro e q8 ⟨u8, rfl, r8, b8⟩; obtain ⟨ya0, yc0, ya1, yc1, ya2, yc2, ya3, yc3, ya4, yc4, rfl⟩ := rdD_forms r8)
          have bx9 := box_below q8 (.cells #[.slice ya0 Y.code.length yc0, .slice ya1 Y.origs.length yc1, .slice ya2 Y.dests.length yc2, .slice ya3 Y.loops.length yc3, .slice ya4 Y.cases.length yc4] 26)
          have sx9 := stands_new q8 #[.slice ya0 Y.code.length yc0, .slice ya1 Y.origs.length yc1, .slice ya2 Y.dests.length yc2, .slice ya3 Y.loops.length yc3, .slice ya4 Y.cases.length yc4] 26
          have rx9 : RdD _ ⟨.slice ya0 Y.code.length yc0, .slice ya1 Y.origs.length yc1, .slice ya2 Y.dests.length yc2, .slice ya3 Y.loops.length yc3, .slice ya4 Y.cases.length yc4⟩ Y := r8.below bx9
          obtain ⟨X9, hX9⟩ : ∃ X, q8.heap.size = X := ⟨_, rfl⟩
          rw [hX9] at sx9
          (try simp only [hX9])
          generalize q8.alloc (.cells #[.slice ya0 Y.code.length yc0, .slice ya1 Y.origs.length yc1, .slice ya2 Y.dests.length yc2, .slice ya3 Y.loops.length yc3, .slice ya4 Y.cases.length yc4] 26) = w9 at bx9 sx9 rx9 ⊢
          clear hX9
          have b9 := below_trans b8 bx9
          have sx3 := sx3.below b9
          have rx3 := rx3.below b9
          have rc := RdO.below rc b9
          have BW := below_trans BW b9
          clear b8 bx9 b9 r8 c8 f0 f1 f2 f3 f4
          have f0 := sx3.cell 0 _ rfl
          have f1 := sx3.cell 1 _ rfl
          have f2 := sx3.cell 2 _ rfl
          have f3 := sx3.cell 3 _ rfl
          have f4 := sx3.cell 4 _ rfl
          have c10 := Qcc.out w9 ⟨.slice da0 D.code.length dc0, .slice da1 D.origs.length dc1, .slice da2 D.dests.length dc2, .slice da3 D.loops.length dc3, .slice da4 D.cases.length dc4⟩ rx3
          simp only [Dv.cs] at c10
          go_upto_region 12 with (go_at_call 9; refine c10.mono ?_; rintro e q10 ⟨u10, y1, y2, y3, rfl, o10, b10⟩; obtain ⟨za0, zc0, za1, zc1, za2, zc2, za3, zc3, za4, zc4, rfl⟩ := rdD_forms o10.read)
          have bx11 := box_below q10 (.cells #[.slice za0 D.code.length zc0, .slice za1 D.origs.length zc1, .slice za2 D.dests.length zc2, .slice za3 D.loops.length zc3, .slice za4 D.cases.length zc4] 26)
          have sx11 := stands_new q10 #[.slice za0 D.code.length zc0, .slice za1 D.origs.length zc1, .slice za2 D.dests.length zc2, .slice za3 D.loops.length zc3, .slice za4 D.cases.length zc4] 26
          have oz : OwE w9.heap.size _ ⟨.slice za0 D.code.length zc0, .slice za1 D.origs.length zc1, .slice za2 D.dests.length zc2, .slice za3 D.loops.length zc3, .slice za4 D.cases.length zc4⟩ D := (o10.below bx11).owe
          have b11 := below_trans b10 bx11
          obtain ⟨XZ, hXZ⟩ : ∃ X, q10.heap.size = X := ⟨_, rfl⟩
          have hXb : w9.heap.size ≤ XZ := by rw [← hXZ]; exact b10.size
          rw [hXZ] at sx11
          (try simp only [hXZ])
          generalize q10.alloc (.cells #[.slice za0 D.code.length zc0, .slice za1 D.origs.length zc1, .slice za2 D.dests.length zc2, .slice za3 D.loops.length zc3, .slice za4 D.cases.length zc4] 26) = w11 at sx11 oz b11 ⊢
          clear hXZ bx11 b10 o10 c10 f0 f1 f2 f3 f4
          have SX3 := hid sx3
          have RC := hid rc
          have RX9 := hid rx9
          have SX9 := hid sx9
          have hm := slr_max rc
          unfold maxLen at hm
          clear sx3 rc rx9 sx9 rx3
          go_wp2_with fail
          go_loopw [17] (fun I wx => ∃ (k : Nat) (ao : Option Addr) (cp : Nat), (k : Int) ≤ C.length ∧ I = .int .i64 k ∧ Stands wx XZ #[.slice ao (D.code.length + k) cp, .slice za1 D.origs.length zc1, .slice za2 D.dests.length zc2, .slice za3 D.loops.length zc3, .slice za4 D.cases.length zc4] 26 ∧ OwE w9.heap.size wx ⟨.slice ao (D.code.length + k) cp, .slice za1 D.origs.length zc1, .slice za2 D.dests.length zc2, .slice za3 D.loops.length zc3, .slice za4 D.cases.length zc4⟩ { D with code := D.code ++ (C.take k).map (shN (D.code.length : Int)) } ∧ Below w9.heap.size w9 wx) (fun I _ => (C.length - intOf I).toNat)
          case atStart => exact ⟨0, za0, zc0, by omega, rfl, sx11, by simpa using oz, b11⟩
          case round =>
            clear sx11 oz b11
            obtain ⟨k, ao, cp, hk, rfl, sz, oz, bz⟩ := hrel
            have hbs : w9.heap.size ≤ wr.heap.size := bz.size
            by_cases hlt : (k : Int) < C.length
            · have hkl : k < C.length := by omega
              obtain ⟨p5, i5, ix, k0, k1⟩ := op_at (RdO.below RC.out bz) k hkl
              have hsd := Qhs1.out C[k] (by rw [← HCX.out]; exact List.getElem_mem hkl)
              rw [← HCX.out] at hsd
              have hsh : shN (D.code.length : Int) C[k] = if 3 ≤ C[k].1 ∧ C[k].1 ≤ 10 then (C[k].1, C[k].2 + D.code.length) else (C[k].1, C[k].2) := rfl
              have htk : (C.take (k + 1)).map (shN (D.code.length : Int)) = (C.take k).map (shN (D.code.length : Int)) ++ [shN (D.code.length : Int) C[k]] := by rw [List.take_succ_eq_append_getElem hkl, List.map_append]; rfl
              unfold BrO at hsd
              obtain ⟨A, hA⟩ : ∃ A, C[k].1 = A := ⟨_, rfl⟩
              obtain ⟨B, hB⟩ : ∃ A, C[k].2 = A := ⟨_, rfl⟩
              rw [hA] at k0 hsd hsh
              rw [hB] at k1 hsd hsh
              rw [hsh] at htk
              clear hA hB hsh
              go_upto_region 16 with fail
              have bo := box_below wr (.cells #[.int .i64 A, .int .u32 B] 37)
              have so := stands_new wr #[.int .i64 A, .int .u32 B] 37
              have szo := sz.below bo
              have ozo := oz.kept (T := 35) (Kept.below bo) (by decide) (by decide) (by decide)
              have bzo := below_trans bz bo
              have hXO9 : ∀ q, (Value.slice ao (D.code.length + k) cp).ownBlock = some q → ¬ q = wr.heap.size := fun q hq e0 => by obtain ⟨cs9, r9⟩ := OwnR.row oz.code; have := (r9.lt q hq).2; omega
              obtain ⟨XO, hXO⟩ : ∃ X, wr.heap.size = X := ⟨_, rfl⟩
              rw [hXO] at so hbs hXO9
              (try simp only [hXO])
              generalize wr.alloc (.cells #[.int .i64 A, .int .u32 B] 37) = wo at bo so szo ozo bzo ⊢
              have hwo : w9.heap.size ≤ wo.heap.size := bzo.size
              clear bo hXO sz oz
              have g0 := so.cell 0 _ rfl
              have g1 := so.cell 1 _ rfl
              have hlD : (D.code ++ (C.take k).map (shN (D.code.length : Int))).length = D.code.length + k := by simp; omega
              by_cases hbr : 3 ≤ A ∧ A ≤ 10
              · obtain ⟨hs1, hs2⟩ := hsd hbr
                have j3 : decide (3 ≤ A) = true := decide_eq_true hbr.1
                have j10 : decide (A ≤ 10) = true := decide_eq_true hbr.2
                have sd := (SX3.out.below bzo).cell 0 _ rfl
                have jw1 := wrap32 (D.code.length : Int) (by omega) (by omega)
                have jw2 := wrap32 (B + D.code.length) (by omega) (by omega)
                have yf := so.free 1
                have HB := hid hbr
                clear hsd hbr
                go_upto_region 18 with fail
                have kO := set_kept so 1 (.int .u32 (B + D.code.length))
                have so : Stands (wo.setCell ⟨XO, 1, none⟩ (.int .u32 (B + D.code.length))) XO #[.int .i64 A, .int .u32 (B + D.code.length)] 37 := so.set 1 (.int .u32 (B + D.code.length))
                have szo := stands_kept kO (by decide) szo
                have hwo : w9.heap.size ≤ (wo.setCell ⟨XO, 1, none⟩ (.int .u32 (B + D.code.length))).heap.size := by simpa [World.setCell] using hwo
                have bzo := below_set bzo XO 1 (.int .u32 (B + D.code.length)) hbs
                have ozo := OwE.apartO (b := XO) ozo kO (gb_set (gb_refl wo _) 1 _) hXO9
                generalize wo.setCell ⟨XO, 1, none⟩ (.int .u32 (B + D.code.length)) = wp at so szo hwo bzo ozo ⊢
                clear g0 g1 sd yf kO
                have y0 := so.cell 0 _ rfl
                have y1 := so.cell 1 _ rfl
                have c0 := szo.cell 0 _ rfl
                have bX := box_below wp (.cells #[.int .i64 A, .int .u32 (B + D.code.length)] 37)
                have szX := szo.below bX
                have ozX := ozo.kept (T := 35) (Kept.below bX) (by decide) (by decide) (by decide)
                have c0b := szX.cell 0 _ rfl
                obtain ⟨rows, p1, p2, p3, p4⟩ := ozX.code
                dsimp only at p1 p3 p4
                rw [hlD] at p3
                have one : ∀ r ∈ [[Value.int .i64 A, .int .u32 (B + D.code.length)]], ∀ u ∈ r, u.oneCell' = true := fun r hr u hu => by rw [List.mem_singleton] at hr; subst hr; simp at hu; rcases hu with rfl | rfl <;> rfl
                obtain ⟨i9, hi9, hz9, hz8, hz7⟩ := info_parts infoOp10
                have hsX := Nat.le_trans hwo bX.size
                have P1 := hid p1
                have P2 := hid p2
                have P4 := hid p4
                have OZX := hid ozX
                clear p1 p2 p4 ozX
                go_wp2_with (at_builtin; refine wpList_append_rows rfl _ _ 22 rfl w9.heap.size 37 i9 _ 2 16 Try.underlying22 hi9 hz9 hz8 hz7 rfl (by decide) _ (D.code.length + k) _ rfl p3 _ [[Value.int .i64 A, .int .u32 (B + D.code.length)]] rfl (slc_one wp [Value.int .i64 A, .int .u32 (B + D.code.length)] 37 2 rfl) one (by unfold maxLen; simp only [List.length_singleton]; omega) (by simp only [List.length_singleton]; omega) hsX ?_; intro v9 wn ho9 hg9; have ho9 : wn.ownsRow w9.heap.size 37 2 v9 (D.code.length + (k + 1)) (rows.flatten ++ [Value.int .i64 A, .int .u32 (B + D.code.length)]) := (by simpa [Nat.add_assoc] using ho9); obtain ⟨a7, c7, rfl⟩ := own_form ho9; have so9 := Stands.grown szX hg9 (stands_apart szX p3 (by decide)); have yg := so9.free 0; have yc := so9.cell 0 _ rfl; have HO := hid ho9; clear ho9)
                have kW := Kept.own p3 hg9
                have kS := set_kept so9 0 (.slice a7 (D.code.length + (k + 1)) c7)
                have sZ : Stands _ XZ #[.slice a7 (D.code.length + (k + 1)) c7, .slice za1 D.origs.length zc1, .slice za2 D.dests.length zc2, .slice za3 D.loops.length zc3, .slice za4 D.cases.length zc4] 26 := so9.set 0 (.slice a7 (D.code.length + (k + 1)) c7)
                have oC : OwC w9.heap.size wn (.slice a7 (D.code.length + (k + 1)) c7) ((D.code ++ (C.take k).map (shN (D.code.length : Int))) ++ [(A, (B + D.code.length))]) := OwnR.snoc (e := 37) (O := opR) opR_apt10 P1.out P2.out (by rw [hlD]; exact p3) P4.out rfl (x := (A, (B + D.code.length))) rfl (by rw [hlD]; simpa [Nat.add_assoc] using HO.out) hg9
                have oN := OZX.out.kept2 kW oC
                have oZ := oN.kept kS (by decide) (by decide) (by decide)
                have bN := below_set (below_grown (below_trans bzo bX) hg9 (fun q hq => (p3.lt q hq).1)) XZ 0 (.slice a7 (D.code.length + (k + 1)) c7) hXb
                go_roundw
                case rel => exact ⟨k + 1, a7, c7, by omega, by go_num, sZ, by rw [htk, if_pos HB.out, ← List.append_assoc]; exact oZ, bN⟩
                case measure => simp [intOf]; omega
              · have HB := hid hbr
                obtain ⟨wp, hwp⟩ : ∃ x, x = wo := ⟨_, rfl⟩
                subst hwp
                by_cases ha : 3 ≤ A
                · have j3 : decide (3 ≤ A) = true := decide_eq_true ha
                  have j10 : decide (A ≤ 10) = false := decide_eq_false (by omega)
                  clear hsd hbr ha
                  go_upto_region 18 with fail
                  have y0 := so.cell 0 _ rfl
                  have y1 := so.cell 1 _ rfl
                  have c0 := szo.cell 0 _ rfl
                  have bX := box_below wp (.cells #[.int .i64 A, .int .u32 B] 37)
                  have szX := szo.below bX
                  have ozX := ozo.kept (T := 35) (Kept.below bX) (by decide) (by decide) (by decide)
                  have c0b := szX.cell 0 _ rfl
                  obtain ⟨rows, p1, p2, p3, p4⟩ := ozX.code
                  dsimp only at p1 p3 p4
                  rw [hlD] at p3
                  have one : ∀ r ∈ [[Value.int .i64 A, .int .u32 B]], ∀ u ∈ r, u.oneCell' = true := fun r hr u hu => by rw [List.mem_singleton] at hr; subst hr; simp at hu; rcases hu with rfl | rfl <;> rfl
                  obtain ⟨i9, hi9, hz9, hz8, hz7⟩ := info_parts infoOp10
                  have hsX := Nat.le_trans hwo bX.size
                  have P1 := hid p1
                  have P2 := hid p2
                  have P4 := hid p4
                  have OZX := hid ozX
                  clear p1 p2 p4 ozX
                  go_wp2_with (at_builtin; refine wpList_append_rows rfl _ _ 22 rfl w9.heap.size 37 i9 _ 2 16 Try.underlying22 hi9 hz9 hz8 hz7 rfl (by decide) _ (D.code.length + k) _ rfl p3 _ [[Value.int .i64 A, .int .u32 B]] rfl (slc_one wp [Value.int .i64 A, .int .u32 B] 37 2 rfl) one (by unfold maxLen; simp only [List.length_singleton]; omega) (by simp only [List.length_singleton]; omega) hsX ?_; intro v9 wn ho9 hg9; have ho9 : wn.ownsRow w9.heap.size 37 2 v9 (D.code.length + (k + 1)) (rows.flatten ++ [Value.int .i64 A, .int .u32 B]) := (by simpa [Nat.add_assoc] using ho9); obtain ⟨a7, c7, rfl⟩ := own_form ho9; have so9 := Stands.grown szX hg9 (stands_apart szX p3 (by decide)); have yg := so9.free 0; have yc := so9.cell 0 _ rfl; have HO := hid ho9; clear ho9)
                  have kW := Kept.own p3 hg9
                  have kS := set_kept so9 0 (.slice a7 (D.code.length + (k + 1)) c7)
                  have sZ : Stands _ XZ #[.slice a7 (D.code.length + (k + 1)) c7, .slice za1 D.origs.length zc1, .slice za2 D.dests.length zc2, .slice za3 D.loops.length zc3, .slice za4 D.cases.length zc4] 26 := so9.set 0 (.slice a7 (D.code.length + (k + 1)) c7)
                  have oC : OwC w9.heap.size wn (.slice a7 (D.code.length + (k + 1)) c7) ((D.code ++ (C.take k).map (shN (D.code.length : Int))) ++ [(A, B)]) := OwnR.snoc (e := 37) (O := opR) opR_apt10 P1.out P2.out (by rw [hlD]; exact p3) P4.out rfl (x := (A, B)) rfl (by rw [hlD]; simpa [Nat.add_assoc] using HO.out) hg9
                  have oN := OZX.out.kept2 kW oC
                  have oZ := oN.kept kS (by decide) (by decide) (by decide)
                  have bN := below_set (below_grown (below_trans bzo bX) hg9 (fun q hq => (p3.lt q hq).1)) XZ 0 (.slice a7 (D.code.length + (k + 1)) c7) hXb
                  go_roundw
                  case rel => exact ⟨k + 1, a7, c7, by omega, by go_num, sZ, by rw [htk, if_neg HB.out, ← List.append_assoc]; exact oZ, bN⟩
                  case measure => simp [intOf]; omega
                · have j3 : decide (3 ≤ A) = false := decide_eq_false ha
                  clear hsd hbr ha
                  go_upto_region 18 with fail
                  have y0 := so.cell 0 _ rfl
                  have y1 := so.cell 1 _ rfl
                  have c0 := szo.cell 0 _ rfl
                  have bX := box_below wp (.cells #[.int .i64 A, .int .u32 B] 37)
                  have szX := szo.below bX
                  have ozX := ozo.kept (T := 35) (Kept.below bX) (by decide) (by decide) (by decide)
                  have c0b := szX.cell 0 _ rfl
                  obtain ⟨rows, p1, p2, p3, p4⟩ := ozX.code
                  dsimp only at p1 p3 p4
                  rw [hlD] at p3
                  have one : ∀ r ∈ [[Value.int .i64 A, .int .u32 B]], ∀ u ∈ r, u.oneCell' = true := fun r hr u hu => by rw [List.mem_singleton] at hr; subst hr; simp at hu; rcases hu with rfl | rfl <;> rfl
                  obtain ⟨i9, hi9, hz9, hz8, hz7⟩ := info_parts infoOp10
                  have hsX := Nat.le_trans hwo bX.size
                  have P1 := hid p1
                  have P2 := hid p2
                  have P4 := hid p4
                  have OZX := hid ozX
                  clear p1 p2 p4 ozX
                  go_wp2_with (at_builtin; refine wpList_append_rows rfl _ _ 22 rfl w9.heap.size 37 i9 _ 2 16 Try.underlying22 hi9 hz9 hz8 hz7 rfl (by decide) _ (D.code.length + k) _ rfl p3 _ [[Value.int .i64 A, .int .u32 B]] rfl (slc_one wp [Value.int .i64 A, .int .u32 B] 37 2 rfl) one (by unfold maxLen; simp only [List.length_singleton]; omega) (by simp only [List.length_singleton]; omega) hsX ?_; intro v9 wn ho9 hg9; have ho9 : wn.ownsRow w9.heap.size 37 2 v9 (D.code.length + (k + 1)) (rows.flatten ++ [Value.int .i64 A, .int .u32 B]) := (by simpa [Nat.add_assoc] using ho9); obtain ⟨a7, c7, rfl⟩ := own_form ho9; have so9 := Stands.grown szX hg9 (stands_apart szX p3 (by decide)); have yg := so9.free 0; have yc := so9.cell 0 _ rfl; have HO := hid ho9; clear ho9)
                  have kW := Kept.own p3 hg9
                  have kS := set_kept so9 0 (.slice a7 (D.code.length + (k + 1)) c7)
                  have sZ : Stands _ XZ #[.slice a7 (D.code.length + (k + 1)) c7, .slice za1 D.origs.length zc1, .slice za2 D.dests.length zc2, .slice za3 D.loops.length zc3, .slice za4 D.cases.length zc4] 26 := so9.set 0 (.slice a7 (D.code.length + (k + 1)) c7)
                  have oC : OwC w9.heap.size wn (.slice a7 (D.code.length + (k + 1)) c7) ((D.code ++ (C.take k).map (shN (D.code.length : Int))) ++ [(A, B)]) := OwnR.snoc (e := 37) (O := opR) opR_apt10 P1.out P2.out (by rw [hlD]; exact p3) P4.out rfl (x := (A, B)) rfl (by rw [hlD]; simpa [Nat.add_assoc] using HO.out) hg9
                  have oN := OZX.out.kept2 kW oC
                  have oZ := oN.kept kS (by decide) (by decide) (by decide)
                  have bN := below_set (below_grown (below_trans bzo bX) hg9 (fun q hq => (p3.lt q hq).1)) XZ 0 (.slice a7 (D.code.length + (k + 1)) c7) hXb
                  go_roundw
                  case rel => exact ⟨k + 1, a7, c7, by omega, by go_num, sZ, by rw [htk, if_neg HB.out, ← List.append_assoc]; exact oZ, bN⟩
                  case measure => simp [intOf]; omega
            · have hkk : k = C.length := by omega
              subst hkk
              rw [List.take_length, HY.out] at oz
              have sy := SX9.out.below bz
              have f0 := sy.cell 0 _ rfl
              have h0 := sz.cell 0 _ rfl
              have f1 := sy.cell 1 _ rfl
              have h1 := sz.cell 1 _ rfl
              have f2 := sy.cell 2 _ rfl
              have h2 := sz.cell 2 _ rfl
              have f3 := sy.cell 3 _ rfl
              have h3 := sz.cell 3 _ rfl
              have f4 := sy.cell 4 _ rfl
              have h4 := sz.cell 4 _ rfl
              have cS := w_r10same Y Y ⟨.slice ya0 Y.code.length yc0, .slice ya1 Y.origs.length yc1, .slice ya2 Y.dests.length yc2, .slice ya3 Y.loops.length yc3, .slice ya4 Y.cases.length yc4⟩ ⟨.slice ao (D.code.length + C.length) cp, .slice za1 D.origs.length zc1, .slice za2 D.dests.length zc2, .slice za3 D.loops.length zc3, .slice za4 D.cases.length zc4⟩ wr (RX9.out.below bz) oz.read
              simp only [Dv.cs] at cS
              have BZ := below_trans BW bz
              clear sz oz sy
              go_wp2_with (go_at_call 14; refine cS.mono ?_; rintro e q20 ⟨rfl, e20⟩)
              go_ret
              exact ⟨by simp, below_trans BZ e20⟩
      · have jH : (H != 0) = true := by simp [hH]
        clear hH
        go_wp2_with fail
        go_ret
        exact ⟨rfl, BW⟩
    · have jG : (G != 0) = true := by simp [hG]
      clear hG
      go_wp2_with fail
      go_ret
      exact ⟨rfl, BW⟩
  · have jE : (E != 0) = true := by simp [hE]
    clear hE
    go_wp2_with fail
    go_ret
    exact ⟨rfl, BW⟩

set_option maxRecDepth 100000 in
theorem lifted (os : Os) (started : os.Started) (H : Type) (enc : TypeId × Value → H) :
    ReturnsInHanded {} Try.checked os 7 .any (Rows.codeBetweenSpec.pre6 enc Try.prog Try.f7 Rows.codeBetweenRow.domain false) (Rows.codeBetweenSpec.post enc Try.prog Try.f7 false true false false) := by
  refine returnsInHanded_of_change_sized (C := Try.checked) own started (by kernel_rfl) Try.func7
    (ChangeSpec.witness6 (enc := enc) (C := Try.checked) false ⟨#[], #[.slice none 0 0, .slice none 0 0], []⟩ 8 (by kernel_rfl) (by kernel_rfl) (by kernel_rfl) (by kernel_rfl)) ?_
  intro W base args ds gs before hval0 hW hcnd hsz0 _
  have hval : ∀ (j : Nat) t v, Try.f7.params[j]? = some t → args[j]? = some v → Value.okWide Try.prog W .any base t v := hval0
  have hsz : (DataW.weightsEach Try.prog (Try.f7.params.toList ++ Rows.codeBetweenSpec.plain.varTypes Try.prog) (ds ++ gs)).all (· ≤ reachBytes) = true := hsz0
  have hW' := hW
  obtain ⟨p, q, hA0, hV, rfl, hfz, hnd⟩ := hW
  have hA : DataW.TrodAll enc Try.prog W 0 (fun _ => true) true Try.f7.params.toList args.toList ds p := hA0
  rw [Try.params7] at hA hval hsz
  obtain ⟨v0, vs0, d0, ds0, p0, q0, hargs, rfl, rfl, h0, r0⟩ := trodAll_cons hA
  obtain ⟨v1, vs1, d1, ds1, p1, q1, rfl, rfl, rfl, h1, r1⟩ := trodAll_cons r0
  obtain ⟨rfl, rfl, rfl⟩ := trodAll_nil r1
  obtain rfl : args = #[v0, v1] := by cases args; simp_all
  obtain ⟨rfl, rfl⟩ := trodVars_none hV
  obtain ⟨s0, l0, c0, rfl⟩ := okWide_slice Try.underlying43 (hval 0 43 v0 rfl rfl)
  have k0 := h0
  have lt0 : ∀ x ∈ p0, x.block < W.heap.size := by obtain ⟨m, hm⟩ := k0; exact DataW.trod_lt m _ _ _ hm
  obtain ⟨x0, r100, g0, z0⟩ := ded_open h0 (fun n hn => by simpa using List.all_eq_true.1 hsz n (DataW.weights_mem_each (j := 0) (t := 43) (d := d0) rfl rfl n hn))
  obtain ⟨s1, l1, c1, rfl⟩ := okWide_slice Try.underlying43 (hval 1 43 v1 rfl rfl)
  have k1 := h1
  have lt1 : ∀ x ∈ p1, x.block < W.heap.size := by obtain ⟨m, hm⟩ := k1; exact DataW.trod_lt m _ _ _ hm
  obtain ⟨x1, r101, g1, z1⟩ := ded_open h1 (fun n hn => by simpa using List.all_eq_true.1 hsz n (DataW.weights_mem_each (j := 1) (t := 43) (d := d1) rfl rfl n hn))
  clear hA0 hval0 hsz0
  refine (walk (.slice s0 l0 c0) x0 (.slice s1 l1 c1) x1 W r100 g0 z0 r101 g1 z1).mono fun e W' ⟨he, bel⟩ => ?_
  subst he
  exact ⟨_, rfl, _, _, _, [], _, [], hW', trodAll_mk1 (shut_bool Try.underlying4 _), (trodAll_cons_mk (Below.trod laidOut (by kernel_rfl) (of_decide_eq_true (by kernel_rfl)) k0 bel lt0) (trodAll_cons_mk (Below.trod laidOut (by kernel_rfl) (of_decide_eq_true (by kernel_rfl)) k1 bel lt1) trodAll_mk0)), rfl, bel.frame _, fun h => by cases h⟩

theorem over : Rows.codeBetweenRow.holds Try.pinned (OpenSpec.ofChange Rows.codeBetweenSpec) :=
  OpenClaim.holds_of_wide 7 Try.f7 rfl rfl rfl rfl rfl rfl rfl ⟨rfl, rfl, rfl, rfl, rfl⟩ rfl rfl rfl rfl rfl (by kernel_rfl) Try.func7 (by kernel_rfl)
    (of_decide_eq_true (by kernel_rfl)) (by unfold Func.isWrapper; first | (rw [if_pos (by decide +kernel)]; kernel_rfl) | (rw [if_neg (by decide +kernel)]; exact ⟨rfl, rfl⟩))
    (fun os started H enc _ => lifted os started H enc)
end Go.Proofs.Ytfmpeminfcehaaa.codeBetween
namespace Go.Proofs.Ytfmpeminfcehaaa
theorem codeBetween_holds : Rows.CodeBetweenSaid := codeBetween.over
#print axioms codeBetween_holds
end Go.Proofs.Ytfmpeminfcehaaa
