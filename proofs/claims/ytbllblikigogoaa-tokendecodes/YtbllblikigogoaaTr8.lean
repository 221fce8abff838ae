/-
  one of the document's answer for tokens, texts.
-/
import Derived.Test.YtbllblikigogoaaTr5
import Derived.Test.YtbllblikigogoaaTk9
namespace Go.Proofs.Ytbllblikigogoaa
open Go.ChangeShapes Go.WideShapes Go.ChangeAt Go.RowKit
set_option linter.unusedVariables false
set_option linter.unusedSimpArgs false

set_option maxHeartbeats 4000000 in
set_option maxRecDepth 100000 in
theorem w_one3e (v : Value) (a : Int) (r : List Int) (wide : Bool) (w : World) (h : Rd .u8 w v (a :: r)) (hB : bytesL (a :: r)) (hl : (a :: r).length ≤ 8192) (h16 : 16 ≤ a) (hk : bhF a = 3) (hlt : (r.length : Int) < 1) (hn : bePn 3 a wide r = none) :
    Calls Try.prog 23 #[v, .bool wide] w (OneP w (a :: r) wide) := by
  have hone1 := one_1 a r wide 3 (by omega) hk
  have hlen := rd_len h uB (P := Try.prog)
  have hLL : ((a :: r).length : Int) = r.length + 1 := by simp
  rw [hLL] at hlen
  have hrl : (r.length : Int) ≤ 8191 := by have : (a :: r).length = r.length + 1 := rfl; omega
  have hBr : bytesL r := fun x hx => hB x (by simp [hx])
  have hab := hB a (by simp)
  obtain ⟨ha0, ha1⟩ := hab
  obtain ⟨vr, rr, _, _, cut⟩ := rd_cut h uB zB 1 (a :: r).length (by simp) (Nat.le_refl _)
  rw [show (List.drop 1 (a :: r)) = r from rfl, List.take_of_length_le (by simp)] at rr
  have cut1 : ∀ w', (Instr.slice 24 v (some (.int .i64 1)) none none).run Try.prog w' = .ok vr w' := cut rfl
  have hlr := rd_len rr uB (P := Try.prog)
  clear cut hLL
  have cB := fun w => w_rbehind a w
  rw [hk] at cB
  rw [hn] at hone1
  have HK1 := hid hone1
  clear hn
  clear hone1 hk
  have hlz : ((r.length : Int) + 1 == 0) = false := by rw [beq_eq_false_iff_ne]; omega
  go_enter Try.func23, Try.ntmps23
  go_upto_region 4 with fail
  have bW : Below w.heap.size w ((w.alloc (.cells #[.int .i64 0, .int .u32 0, .string ⟨#[]⟩, .int .i64 0] 37)).alloc (.cells #[.int .i64 0, .int .u32 0, .string ⟨#[]⟩, .int .i64 0] 37)) := below_trans (box_below w _) (box_below _ _)
  have sA : Stands ((w.alloc (.cells #[.int .i64 0, .int .u32 0, .string ⟨#[]⟩, .int .i64 0] 37)).alloc (.cells #[.int .i64 0, .int .u32 0, .string ⟨#[]⟩, .int .i64 0] 37)) w.heap.size #[.int .i64 0, .int .u32 0, .string ⟨#[]⟩, .int .i64 0] 37 := (stands_new w _ _).below (box_below _ _)
  have sT : Stands ((w.alloc (.cells #[.int .i64 0, .int .u32 0, .string ⟨#[]⟩, .int .i64 0] 37)).alloc (.cells #[.int .i64 0, .int .u32 0, .string ⟨#[]⟩, .int .i64 0] 37)) (w.heap.size + 1) #[.int .i64 0, .int .u32 0, .string ⟨#[]⟩, .int .i64 0] 37 := by have := stands_new (w.alloc (.cells #[.int .i64 0, .int .u32 0, .string ⟨#[]⟩, .int .i64 0] 37)) #[.int .i64 0, .int .u32 0, .string ⟨#[]⟩, .int .i64 0] 37; rwa [size_al] at this
  generalize (w.alloc (.cells #[.int .i64 0, .int .u32 0, .string ⟨#[]⟩, .int .i64 0] 37)).alloc (.cells #[.int .i64 0, .int .u32 0, .string ⟨#[]⟩, .int .i64 0] 37) = W0 at bW sA sT ⊢
  obtain ⟨ad0, x0, i0, c0, _, _, g0⟩ := mem_at (h.below bW) hB 0 (by omega) (by simp only [List.length_cons]; omega)
  simp only [Int.toNat_zero, List.getD_cons_zero] at g0
  subst g0
  have t00 := sT.cell 0 _ rfl
  have t01 := sT.cell 1 _ rfl
  have t02 := sT.cell 2 _ rfl
  have t03 := sT.cell 3 _ rfl
  have y00 := sT.free 0
  have y01 := sT.free 1
  have y02 := sT.free 2
  have y03 := sT.free 3
  go_upto_region 6 with fail
  have sA1 := sA.other 0 (.int .i64 a) (show ¬ w.heap.size = w.heap.size + 1 by omega)
  have sT1 : Stands _ (w.heap.size + 1) #[.int .i64 a, .int .u32 0, .string ⟨#[]⟩, .int .i64 0] 37 := sT.set 0 (.int .i64 a)
  have bW1 := below_set bW (w.heap.size + 1) 0 (.int .i64 a) (by omega)
  clear t00 y00 t01 y01 t02 y02 t03 y03
  clear sA sT bW
  have sA := sA1
  have sT := sT1
  have bW := bW1
  clear sA1 sT1 bW1
  generalize W0.setCell ⟨w.heap.size + 1, 0, none⟩ (.int .i64 a) = W1 at sA sT bW ⊢
  have t10 := sT.cell 0 _ rfl
  have t11 := sT.cell 1 _ rfl
  have t12 := sT.cell 2 _ rfl
  have t13 := sT.cell 3 _ rfl
  have y10 := sT.free 0
  have y11 := sT.free 1
  have y12 := sT.free 2
  have y13 := sT.free 3
  have u10 := sA.cell 0 _ rfl
  have z10 := sA.free 0
  have u11 := sA.cell 1 _ rfl
  have z11 := sA.free 1
  have u12 := sA.cell 2 _ rfl
  have z12 := sA.free 2
  have u13 := sA.cell 3 _ rfl
  have z13 := sA.free 3
  go_wp2_with (first | (go_at_call 30; refine (cB _).mono ?_; rintro e q ⟨rfl, hw⟩; obtain rfl := hw.symm))
  have g9 := set4 sA (.int .i64 0) (.int .u32 0) (.string ⟨#[]⟩) (.int .i64 0)
  refine bodyPost_ret (res_row2 rfl _ _ w.heap.size 37 _ (0, 0) _ rfl g9 Try.underlying37 rfl (show _ = some 4 by kernel_rfl)) rfl ?_
  exact one_none HK1.out (bset4 bW _ _ _ _ _ (Nat.le_refl _))

set_option maxHeartbeats 4000000 in
set_option maxRecDepth 100000 in
theorem w_one3s (v : Value) (a : Int) (r : List Int) (wide : Bool) (w : World) (h : Rd .u8 w v (a :: r)) (hB : bytesL (a :: r)) (hl : (a :: r).length ≤ 8192) (h16 : 16 ≤ a) (hk : bhF a = 3) (hge : ¬ (r.length : Int) < 1) (hlt : (r.length : Int) < 1 + r.getD 0 0) (hn : bePn 3 a wide r = none) :
    Calls Try.prog 23 #[v, .bool wide] w (OneP w (a :: r) wide) := by
  have hone1 := one_1 a r wide 3 (by omega) hk
  have hlen := rd_len h uB (P := Try.prog)
  have hLL : ((a :: r).length : Int) = r.length + 1 := by simp
  rw [hLL] at hlen
  have hrl : (r.length : Int) ≤ 8191 := by have : (a :: r).length = r.length + 1 := rfl; omega
  have hBr : bytesL r := fun x hx => hB x (by simp [hx])
  have hab := hB a (by simp)
  obtain ⟨ha0, ha1⟩ := hab
  obtain ⟨vr, rr, _, _, cut⟩ := rd_cut h uB zB 1 (a :: r).length (by simp) (Nat.le_refl _)
  rw [show (List.drop 1 (a :: r)) = r from rfl, List.take_of_length_le (by simp)] at rr
  have cut1 : ∀ w', (Instr.slice 24 v (some (.int .i64 1)) none none).run Try.prog w' = .ok vr w' := cut rfl
  have hlr := rd_len rr uB (P := Try.prog)
  clear cut hLL
  have cB := fun w => w_rbehind a w
  rw [hk] at cB
  rw [hn] at hone1
  have HK1 := hid hone1
  clear hn
  clear hone1 hk
  have hlz : ((r.length : Int) + 1 == 0) = false := by rw [beq_eq_false_iff_ne]; omega
  go_enter Try.func23, Try.ntmps23
  go_upto_region 4 with fail
  have bW : Below w.heap.size w ((w.alloc (.cells #[.int .i64 0, .int .u32 0, .string ⟨#[]⟩, .int .i64 0] 37)).alloc (.cells #[.int .i64 0, .int .u32 0, .string ⟨#[]⟩, .int .i64 0] 37)) := below_trans (box_below w _) (box_below _ _)
  have sA : Stands ((w.alloc (.cells #[.int .i64 0, .int .u32 0, .string ⟨#[]⟩, .int .i64 0] 37)).alloc (.cells #[.int .i64 0, .int .u32 0, .string ⟨#[]⟩, .int .i64 0] 37)) w.heap.size #[.int .i64 0, .int .u32 0, .string ⟨#[]⟩, .int .i64 0] 37 := (stands_new w _ _).below (box_below _ _)
  have sT : Stands ((w.alloc (.cells #[.int .i64 0, .int .u32 0, .string ⟨#[]⟩, .int .i64 0] 37)).alloc (.cells #[.int .i64 0, .int .u32 0, .string ⟨#[]⟩, .int .i64 0] 37)) (w.heap.size + 1) #[.int .i64 0, .int .u32 0, .string ⟨#[]⟩, .int .i64 0] 37 := by have := stands_new (w.alloc (.cells #[.int .i64 0, .int .u32 0, .string ⟨#[]⟩, .int .i64 0] 37)) #[.int .i64 0, .int .u32 0, .string ⟨#[]⟩, .int .i64 0] 37; rwa [size_al] at this
  generalize (w.alloc (.cells #[.int .i64 0, .int .u32 0, .string ⟨#[]⟩, .int .i64 0] 37)).alloc (.cells #[.int .i64 0, .int .u32 0, .string ⟨#[]⟩, .int .i64 0] 37) = W0 at bW sA sT ⊢
  obtain ⟨ad0, x0, i0, c0, _, _, g0⟩ := mem_at (h.below bW) hB 0 (by omega) (by simp only [List.length_cons]; omega)
  simp only [Int.toNat_zero, List.getD_cons_zero] at g0
  subst g0
  have t00 := sT.cell 0 _ rfl
  have t01 := sT.cell 1 _ rfl
  have t02 := sT.cell 2 _ rfl
  have t03 := sT.cell 3 _ rfl
  have y00 := sT.free 0
  have y01 := sT.free 1
  have y02 := sT.free 2
  have y03 := sT.free 3
  go_upto_region 6 with fail
  have sA1 := sA.other 0 (.int .i64 a) (show ¬ w.heap.size = w.heap.size + 1 by omega)
  have sT1 : Stands _ (w.heap.size + 1) #[.int .i64 a, .int .u32 0, .string ⟨#[]⟩, .int .i64 0] 37 := sT.set 0 (.int .i64 a)
  have bW1 := below_set bW (w.heap.size + 1) 0 (.int .i64 a) (by omega)
  clear t00 y00 t01 y01 t02 y02 t03 y03
  clear sA sT bW
  have sA := sA1
  have sT := sT1
  have bW := bW1
  clear sA1 sT1 bW1
  generalize W0.setCell ⟨w.heap.size + 1, 0, none⟩ (.int .i64 a) = W1 at sA sT bW ⊢
  have t10 := sT.cell 0 _ rfl
  have t11 := sT.cell 1 _ rfl
  have t12 := sT.cell 2 _ rfl
  have t13 := sT.cell 3 _ rfl
  have y10 := sT.free 0
  have y11 := sT.free 1
  have y12 := sT.free 2
  have y13 := sT.free 3
  obtain ⟨ad0, x0, ii0, cw0, lo0, hi0, gg0⟩ := mem_at rr hBr 0 (by omega) (by omega)
  have cc0 := below_cell bW cw0
  have gx : r.getD 0 0 = x0 := gg0
  rw [gx] at hlt
  clear gg0 gx
  have u10 := sA.cell 0 _ rfl
  have z10 := sA.free 0
  have u11 := sA.cell 1 _ rfl
  have z11 := sA.free 1
  have u12 := sA.cell 2 _ rfl
  have z12 := sA.free 2
  have u13 := sA.cell 3 _ rfl
  have z13 := sA.free 3
  go_wp2_with (first | (go_at_call 30; refine (cB _).mono ?_; rintro e q ⟨rfl, hw⟩; obtain rfl := hw.symm))
  have g9 := set4 sA (.int .i64 0) (.int .u32 0) (.string ⟨#[]⟩) (.int .i64 0)
  refine bodyPost_ret (res_row2 rfl _ _ w.heap.size 37 _ (0, 0) _ rfl g9 Try.underlying37 rfl (show _ = some 4 by kernel_rfl)) rfl ?_
  exact one_none HK1.out (bset4 bW _ _ _ _ _ (Nat.le_refl _))

set_option maxHeartbeats 4000000 in
set_option maxRecDepth 100000 in
theorem w_one6e (v : Value) (a : Int) (r : List Int) (wide : Bool) (w : World) (h : Rd .u8 w v (a :: r)) (hB : bytesL (a :: r)) (hl : (a :: r).length ≤ 8192) (h16 : 16 ≤ a) (hk : bhF a = 6) (hlt : (r.length : Int) < 1) (hn : bePn 6 a wide r = none) :
    Calls Try.prog 23 #[v, .bool wide] w (OneP w (a :: r) wide) := by
  have hone1 := one_1 a r wide 6 (by omega) hk
  have hlen := rd_len h uB (P := Try.prog)
  have hLL : ((a :: r).length : Int) = r.length + 1 := by simp
  rw [hLL] at hlen
  have hrl : (r.length : Int) ≤ 8191 := by have : (a :: r).length = r.length + 1 := rfl; omega
  have hBr : bytesL r := fun x hx => hB x (by simp [hx])
  have hab := hB a (by simp)
  obtain ⟨ha0, ha1⟩ := hab
  obtain ⟨vr, rr, _, _, cut⟩ := rd_cut h uB zB 1 (a :: r).length (by simp) (Nat.le_refl _)
  rw [show (List.drop 1 (a :: r)) = r from rfl, List.take_of_length_le (by simp)] at rr
  have cut1 : ∀ w', (Instr.slice 24 v (some (.int .i64 1)) none none).run Try.prog w' = .ok vr w' := cut rfl
  have hlr := rd_len rr uB (P := Try.prog)
  clear cut hLL
  have cB := fun w => w_rbehind a w
  rw [hk] at cB
  rw [hn] at hone1
  have HK1 := hid hone1
  clear hn
  clear hone1 hk
  have hlz : ((r.length : Int) + 1 == 0) = false := by rw [beq_eq_false_iff_ne]; omega
  go_enter Try.func23, Try.ntmps23
  go_upto_region 4 with fail
  have bW : Below w.heap.size w ((w.alloc (.cells #[.int .i64 0, .int .u32 0, .string ⟨#[]⟩, .int .i64 0] 37)).alloc (.cells #[.int .i64 0, .int .u32 0, .string ⟨#[]⟩, .int .i64 0] 37)) := below_trans (box_below w _) (box_below _ _)
  have sA : Stands ((w.alloc (.cells #[.int .i64 0, .int .u32 0, .string ⟨#[]⟩, .int .i64 0] 37)).alloc (.cells #[.int .i64 0, .int .u32 0, .string ⟨#[]⟩, .int .i64 0] 37)) w.heap.size #[.int .i64 0, .int .u32 0, .string ⟨#[]⟩, .int .i64 0] 37 := (stands_new w _ _).below (box_below _ _)
  have sT : Stands ((w.alloc (.cells #[.int .i64 0, .int .u32 0, .string ⟨#[]⟩, .int .i64 0] 37)).alloc (.cells #[.int .i64 0, .int .u32 0, .string ⟨#[]⟩, .int .i64 0] 37)) (w.heap.size + 1) #[.int .i64 0, .int .u32 0, .string ⟨#[]⟩, .int .i64 0] 37 := by have := stands_new (w.alloc (.cells #[.int .i64 0, .int .u32 0, .string ⟨#[]⟩, .int .i64 0] 37)) #[.int .i64 0, .int .u32 0, .string ⟨#[]⟩, .int .i64 0] 37; rwa [size_al] at this
  generalize (w.alloc (.cells #[.int .i64 0, .int .u32 0, .string ⟨#[]⟩, .int .i64 0] 37)).alloc (.cells #[.int .i64 0, .int .u32 0, .string ⟨#[]⟩, .int .i64 0] 37) = W0 at bW sA sT ⊢
  obtain ⟨ad0, x0, i0, c0, _, _, g0⟩ := mem_at (h.below bW) hB 0 (by omega) (by simp only [List.length_cons]; omega)
  simp only [Int.toNat_zero, List.getD_cons_zero] at g0
  subst g0
  have t00 := sT.cell 0 _ rfl
  have t01 := sT.cell 1 _ rfl
  have t02 := sT.cell 2 _ rfl
  have t03 := sT.cell 3 _ rfl
  have y00 := sT.free 0
  have y01 := sT.free 1
  have y02 := sT.free 2
  have y03 := sT.free 3
  go_upto_region 6 with fail
  have sA1 := sA.other 0 (.int .i64 a) (show ¬ w.heap.size = w.heap.size + 1 by omega)
  have sT1 : Stands _ (w.heap.size + 1) #[.int .i64 a, .int .u32 0, .string ⟨#[]⟩, .int .i64 0] 37 := sT.set 0 (.int .i64 a)
  have bW1 := below_set bW (w.heap.size + 1) 0 (.int .i64 a) (by omega)
  clear t00 y00 t01 y01 t02 y02 t03 y03
  clear sA sT bW
  have sA := sA1
  have sT := sT1
  have bW := bW1
  clear sA1 sT1 bW1
  generalize W0.setCell ⟨w.heap.size + 1, 0, none⟩ (.int .i64 a) = W1 at sA sT bW ⊢
  have t10 := sT.cell 0 _ rfl
  have t11 := sT.cell 1 _ rfl
  have t12 := sT.cell 2 _ rfl
  have t13 := sT.cell 3 _ rfl
  have y10 := sT.free 0
  have y11 := sT.free 1
  have y12 := sT.free 2
  have y13 := sT.free 3
  have u10 := sA.cell 0 _ rfl
  have z10 := sA.free 0
  have u11 := sA.cell 1 _ rfl
  have z11 := sA.free 1
  have u12 := sA.cell 2 _ rfl
  have z12 := sA.free 2
  have u13 := sA.cell 3 _ rfl
  have z13 := sA.free 3
  go_wp2_with (first | (go_at_call 30; refine (cB _).mono ?_; rintro e q ⟨rfl, hw⟩; obtain rfl := hw.symm))
  have g9 := set4 sA (.int .i64 0) (.int .u32 0) (.string ⟨#[]⟩) (.int .i64 0)
  refine bodyPost_ret (res_row2 rfl _ _ w.heap.size 37 _ (0, 0) _ rfl g9 Try.underlying37 rfl (show _ = some 4 by kernel_rfl)) rfl ?_
  exact one_none HK1.out (bset4 bW _ _ _ _ _ (Nat.le_refl _))

set_option maxHeartbeats 4000000 in
set_option maxRecDepth 100000 in
theorem w_one6s (v : Value) (a : Int) (r : List Int) (wide : Bool) (w : World) (h : Rd .u8 w v (a :: r)) (hB : bytesL (a :: r)) (hl : (a :: r).length ≤ 8192) (h16 : 16 ≤ a) (hk : bhF a = 6) (hge : ¬ (r.length : Int) < 1) (hlt : (r.length : Int) < 1 + r.getD 0 0) (hn : bePn 6 a wide r = none) :
    Calls Try.prog 23 #[v, .bool wide] w (OneP w (a :: r) wide) := by
  have hone1 := one_1 a r wide 6 (by omega) hk
  have hlen := rd_len h uB (P := Try.prog)
  have hLL : ((a :: r).length : Int) = r.length + 1 := by simp
  rw [hLL] at hlen
  have hrl : (r.length : Int) ≤ 8191 := by have : (a :: r).length = r.length + 1 := rfl; omega
  have hBr : bytesL r := fun x hx => hB x (by simp [hx])
  have hab := hB a (by simp)
  obtain ⟨ha0, ha1⟩ := hab
  obtain ⟨vr, rr, _, _, cut⟩ := rd_cut h uB zB 1 (a :: r).length (by simp) (Nat.le_refl _)
  rw [show (List.drop 1 (a :: r)) = r from rfl, List.take_of_length_le (by simp)] at rr
  have cut1 : ∀ w', (Instr.slice 24 v (some (.int .i64 1)) none none).run Try.prog w' = .ok vr w' := cut rfl
  have hlr := rd_len rr uB (P := Try.prog)
  clear cut hLL
  have cB := fun w => w_rbehind a w
  rw [hk] at cB
  rw [hn] at hone1
  have HK1 := hid hone1
  clear hn
  clear hone1 hk
  have hlz : ((r.length : Int) + 1 == 0) = false := by rw [beq_eq_false_iff_ne]; omega
  go_enter Try.func23, Try.ntmps23
  go_upto_region 4 with fail
  have bW : Below w.heap.size w ((w.alloc (.cells #[.int .i64 0, .int .u32 0, .string ⟨#[]⟩, .int .i64 0] 37)).alloc (.cells #[.int .i64 0, .int .u32 0, .string ⟨#[]⟩, .int .i64 0] 37)) := below_trans (box_below w _) (box_below _ _)
  have sA : Stands ((w.alloc (.cells #[.int .i64 0, .int .u32 0, .string ⟨#[]⟩, .int .i64 0] 37)).alloc (.cells #[.int .i64 0, .int .u32 0, .string ⟨#[]⟩, .int .i64 0] 37)) w.heap.size #[.int .i64 0, .int .u32 0, .string ⟨#[]⟩, .int .i64 0] 37 := (stands_new w _ _).below (box_below _ _)
  have sT : Stands ((w.alloc (.cells #[.int .i64 0, .int .u32 0, .string ⟨#[]⟩, .int .i64 0] 37)).alloc (.cells #[.int .i64 0, .int .u32 0, .string ⟨#[]⟩, .int .i64 0] 37)) (w.heap.size + 1) #[.int .i64 0, .int .u32 0, .string ⟨#[]⟩, .int .i64 0] 37 := by have := stands_new (w.alloc (.cells #[.int .i64 0, .int .u32 0, .string ⟨#[]⟩, .int .i64 0] 37)) #[.int .i64 0, .int .u32 0, .string ⟨#[]⟩, .int .i64 0] 37; rwa [size_al] at this
  generalize (w.alloc (.cells #[.int .i64 0, .int .u32 0, .string ⟨#[]⟩, .int .i64 0] 37)).alloc (.cells #[.int .i64 0, .int .u32 0, .string ⟨#[]⟩, .int .i64 0] 37) = W0 at bW sA sT ⊢
  obtain ⟨ad0, x0, i0, c0, _, _, g0⟩ := mem_at (h.below bW) hB 0 (by omega) (by simp only [List.length_cons]; omega)
  simp only [Int.toNat_zero, List.getD_cons_zero] at g0
  subst g0
  have t00 := sT.cell 0 _ rfl
  have t01 := sT.cell 1 _ rfl
  have t02 := sT.cell 2 _ rfl
  have t03 := sT.cell 3 _ rfl
  have y00 := sT.free 0
  have y01 := sT.free 1
  have y02 := sT.free 2
  have y03 := sT.free 3
  go_upto_region 6 with fail
  have sA1 := sA.other 0 (.int .i64 a) (show ¬ w.heap.size = w.heap.size + 1 by omega)
  have sT1 : Stands _ (w.heap.size + 1) #[.int .i64 a, .int .u32 0, .string ⟨#[]⟩, .int .i64 0] 37 := sT.set 0 (.int .i64 a)
  have bW1 := below_set bW (w.heap.size + 1) 0 (.int .i64 a) (by omega)
  clear t00 y00 t01 y01 t02 y02 t03 y03
  clear sA sT bW
  have sA := sA1
  have sT := sT1
  have bW := bW1
  clear sA1 sT1 bW1
  generalize W0.setCell ⟨w.heap.size + 1, 0, none⟩ (.int .i64 a) = W1 at sA sT bW ⊢
  have t10 := sT.cell 0 _ rfl
  have t11 := sT.cell 1 _ rfl
  have t12 := sT.cell 2 _ rfl
  have t13 := sT.cell 3 _ rfl
  have y10 := sT.free 0
  have y11 := sT.free 1
  have y12 := sT.free 2
  have y13 := sT.free 3
  obtain ⟨ad0, x0, ii0, cw0, lo0, hi0, gg0⟩ := mem_at rr hBr 0 (by omega) (by omega)
  have cc0 := below_cell bW cw0
  have gx : r.getD 0 0 = x0 := gg0
  rw [gx] at hlt
  clear gg0 gx
  have u10 := sA.cell 0 _ rfl
  have z10 := sA.free 0
  have u11 := sA.cell 1 _ rfl
  have z11 := sA.free 1
  have u12 := sA.cell 2 _ rfl
  have z12 := sA.free 2
  have u13 := sA.cell 3 _ rfl
  have z13 := sA.free 3
  go_wp2_with (first | (go_at_call 30; refine (cB _).mono ?_; rintro e q ⟨rfl, hw⟩; obtain rfl := hw.symm))
  have g9 := set4 sA (.int .i64 0) (.int .u32 0) (.string ⟨#[]⟩) (.int .i64 0)
  refine bodyPost_ret (res_row2 rfl _ _ w.heap.size 37 _ (0, 0) _ rfl g9 Try.underlying37 rfl (show _ = some 4 by kernel_rfl)) rfl ?_
  exact one_none HK1.out (bset4 bW _ _ _ _ _ (Nat.le_refl _))

set_option maxHeartbeats 4000000 in
set_option maxRecDepth 100000 in
theorem w_one3 (v : Value) (a : Int) (r : List Int) (wide : Bool) (w : World) (h : Rd .u8 w v (a :: r)) (hB : bytesL (a :: r)) (hl : (a :: r).length ≤ 8192) (h16 : 16 ≤ a) (hk : bhF a = 3) (hge : ¬ (r.length : Int) < 1) (hge2 : ¬ (r.length : Int) < 1 + r.getD 0 0) (r2 : List Int) (hn : bePn 3 a wide r = some (⟨a, 0, (r.drop 1).take (r.getD 0 0).toNat, 0⟩, r2)) :
    Calls Try.prog 23 #[v, .bool wide] w (OneP w (a :: r) wide) := by
  have hone1 := one_1 a r wide 3 (by omega) hk
  have hlen := rd_len h uB (P := Try.prog)
  have hLL : ((a :: r).length : Int) = r.length + 1 := by simp
  rw [hLL] at hlen
  have hrl : (r.length : Int) ≤ 8191 := by have : (a :: r).length = r.length + 1 := rfl; omega
  have hBr : bytesL r := fun x hx => hB x (by simp [hx])
  have hab := hB a (by simp)
  obtain ⟨ha0, ha1⟩ := hab
  obtain ⟨vr, rr, _, _, cut⟩ := rd_cut h uB zB 1 (a :: r).length (by simp) (Nat.le_refl _)
  rw [show (List.drop 1 (a :: r)) = r from rfl, List.take_of_length_le (by simp)] at rr
  have cut1 : ∀ w', (Instr.slice 24 v (some (.int .i64 1)) none none).run Try.prog w' = .ok vr w' := cut rfl
  have hlr := rd_len rr uB (P := Try.prog)
  clear cut hLL
  have cB := fun w => w_rbehind a w
  rw [hk] at cB
  rw [hn] at hone1
  have HK1 := hid hone1
  clear hn
  clear hone1 hk
  have hlz : ((r.length : Int) + 1 == 0) = false := by rw [beq_eq_false_iff_ne]; omega
  go_enter Try.func23, Try.ntmps23
  go_upto_region 4 with fail
  have bW : Below w.heap.size w ((w.alloc (.cells #[.int .i64 0, .int .u32 0, .string ⟨#[]⟩, .int .i64 0] 37)).alloc (.cells #[.int .i64 0, .int .u32 0, .string ⟨#[]⟩, .int .i64 0] 37)) := below_trans (box_below w _) (box_below _ _)
  have sA : Stands ((w.alloc (.cells #[.int .i64 0, .int .u32 0, .string ⟨#[]⟩, .int .i64 0] 37)).alloc (.cells #[.int .i64 0, .int .u32 0, .string ⟨#[]⟩, .int .i64 0] 37)) w.heap.size #[.int .i64 0, .int .u32 0, .string ⟨#[]⟩, .int .i64 0] 37 := (stands_new w _ _).below (box_below _ _)
  have sT : Stands ((w.alloc (.cells #[.int .i64 0, .int .u32 0, .string ⟨#[]⟩, .int .i64 0] 37)).alloc (.cells #[.int .i64 0, .int .u32 0, .string ⟨#[]⟩, .int .i64 0] 37)) (w.heap.size + 1) #[.int .i64 0, .int .u32 0, .string ⟨#[]⟩, .int .i64 0] 37 := by have := stands_new (w.alloc (.cells #[.int .i64 0, .int .u32 0, .string ⟨#[]⟩, .int .i64 0] 37)) #[.int .i64 0, .int .u32 0, .string ⟨#[]⟩, .int .i64 0] 37; rwa [size_al] at this
  generalize (w.alloc (.cells #[.int .i64 0, .int .u32 0, .string ⟨#[]⟩, .int .i64 0] 37)).alloc (.cells #[.int .i64 0, .int .u32 0, .string ⟨#[]⟩, .int .i64 0] 37) = W0 at bW sA sT ⊢
  obtain ⟨ad0, x0, i0, c0, _, _, g0⟩ := mem_at (h.below bW) hB 0 (by omega) (by simp only [List.length_cons]; omega)
  simp only [Int.toNat_zero, List.getD_cons_zero] at g0
  subst g0
  have t00 := sT.cell 0 _ rfl
  have t01 := sT.cell 1 _ rfl
  have t02 := sT.cell 2 _ rfl
  have t03 := sT.cell 3 _ rfl
  have y00 := sT.free 0
  have y01 := sT.free 1
  have y02 := sT.free 2
  have y03 := sT.free 3
  go_upto_region 6 with fail
  have sA1 := sA.other 0 (.int .i64 a) (show ¬ w.heap.size = w.heap.size + 1 by omega)
  have sT1 : Stands _ (w.heap.size + 1) #[.int .i64 a, .int .u32 0, .string ⟨#[]⟩, .int .i64 0] 37 := sT.set 0 (.int .i64 a)
  have bW1 := below_set bW (w.heap.size + 1) 0 (.int .i64 a) (by omega)
  clear t00 y00 t01 y01 t02 y02 t03 y03
  clear sA sT bW
  have sA := sA1
  have sT := sT1
  have bW := bW1
  clear sA1 sT1 bW1
  generalize W0.setCell ⟨w.heap.size + 1, 0, none⟩ (.int .i64 a) = W1 at sA sT bW ⊢
  have t10 := sT.cell 0 _ rfl
  have t11 := sT.cell 1 _ rfl
  have t12 := sT.cell 2 _ rfl
  have t13 := sT.cell 3 _ rfl
  have y10 := sT.free 0
  have y11 := sT.free 1
  have y12 := sT.free 2
  have y13 := sT.free 3
  obtain ⟨ad0, x0, ii0, cw0, lo0, hi0, gg0⟩ := mem_at rr hBr 0 (by omega) (by omega)
  have cc0 := below_cell bW cw0
  have gx : r.getD 0 0 = x0 := gg0
  rw [gx] at hge2 HK1
  clear gg0 gx
  obtain ⟨vs, rs, cuts, _, _⟩ := rd_cutI rr uB zB 1 (1 + x0) (by omega) (by omega) (by omega)
  have hcv := rd_strT (rs.below bW)
  have hsl : ((r.drop (1 : Int).toNat).take (1 + x0 - 1).toNat) = (r.drop 1).take x0.toNat := by rw [show (1 + x0 - 1).toNat = x0.toNat by omega]; rfl
  rw [hsl] at hcv
  have hST : ∃ ST, strOfNums ((r.drop 1).take x0.toNat) = ST := ⟨_, rfl⟩
  obtain ⟨ST, hST⟩ := hST
  rw [hST] at hcv
  have hLB : LB ST = (r.drop 1).take x0.toNat := by rw [← hST]; exact LB_nums _ (fun x hx => hBr x (List.mem_of_mem_drop (List.mem_of_mem_take hx)))
  have hSs : ST.size ≤ maxLen := by rw [← LB_len, hLB]; unfold maxLen; simp only [List.length_take, List.length_drop]; omega
  rw [← hLB] at HK1
  clear hLB hST hsl rs
  go_upto_region 45 with (first | (go_at_call 30; refine (cB _).mono ?_; rintro e q ⟨rfl, hw⟩; obtain rfl := hw.symm))
  have sA2 := sA.other 2 (.string ST) (show ¬ w.heap.size = w.heap.size + 1 by omega)
  have sT2 : Stands _ (w.heap.size + 1) #[.int .i64 a, .int .u32 0, .string ST, .int .i64 0] 37 := sT.set 2 (.string ST)
  have bW2 := below_set bW (w.heap.size + 1) 2 (.string ST) (by omega)
  clear t10 y10 t11 y11 t12 y12 t13 y13
  clear sA sT bW
  have sA := sA2
  have sT := sT2
  have bW := bW2
  clear sA2 sT2 bW2
  generalize W1.setCell ⟨w.heap.size + 1, 2, none⟩ (.string ST) = W2 at sA sT bW ⊢
  have t20 := sT.cell 0 _ rfl
  have t21 := sT.cell 1 _ rfl
  have t22 := sT.cell 2 _ rfl
  have t23 := sT.cell 3 _ rfl
  have y20 := sT.free 0
  have y21 := sT.free 1
  have y22 := sT.free 2
  have y23 := sT.free 3
  have hone : oneP _ wide = some (⟨a, 0, LB ST, 0⟩, _) := HK1.out
  have HO := hid hone
  have cY := fun w => w_rbytes (a) (0) (0) (ST) wide w (by omega) (by omega) (by omega) (by omega) hSs
  clear hone
  cases hq : okQ ⟨a, 0, LB ST, 0⟩ wide with
  | true =>
    rw [hq] at cY
    have HQ := hid hq
    clear hq
    go_wp2_with (first | (go_at_call 21; refine (cY _).mono ?_; rintro e w4 ⟨v4, rfl, o4, b4⟩; have sA4 := sA.below b4; have sT4 := sT.below b4; have bW4 := below_trans bW b4; have u40 := sA4.cell 0 _ rfl; have z40 := sA4.free 0; have t40 := sT4.cell 0 _ rfl; have u41 := sA4.cell 1 _ rfl; have z41 := sA4.free 1; have t41 := sT4.cell 1 _ rfl; have u42 := sA4.cell 2 _ rfl; have z42 := sA4.free 2; have t42 := sT4.cell 2 _ rfl; have u43 := sA4.cell 3 _ rfl; have z43 := sA4.free 3; have t43 := sT4.cell 3 _ rfl; have q4 : OwB W2.heap.size w4 v4 (byQ ⟨a, 0, LB ST, 0⟩ wide) := (by first | exact o4 rfl | exact o4 trivial | exact o4); have hl4 := rd_len (Rd_own q4).1 uB (P := Try.prog)) | (go_at_call 30; refine (cB _).mono ?_; rintro e q ⟨rfl, hw⟩; obtain rfl := hw.symm))
    have g9 := set4 sA4 (.int .i64 (a)) (.int .u32 (0)) (.string (ST)) (.int .i64 (0))
    refine bodyPost_ret (res_row2 rfl _ _ w.heap.size 37 _ (0, 0) _ rfl g9 Try.underlying37 rfl (show _ = some 4 by kernel_rfl)) rfl ?_
    have e9 : (tqC ⟨a, 0, LB ST, 0⟩).toArray = #[.int .i64 (a), .int .u32 (0), .string (ST), .int .i64 (0)] := by simp [tqC, nums_LB]
    have f9 := one_good HO.out HQ.out (bset4 bW4 _ (.int .i64 (a)) (.int .u32 (0)) (.string (ST)) (.int .i64 (0)) (Nat.le_refl _))
    rw [e9] at f9
    exact f9
  | false =>
    rw [hq] at cY
    have HQ := hid hq
    clear hq
    go_wp2_with (first | (go_at_call 21; refine (cY _).mono ?_; rintro e w4 ⟨v4, rfl, o4, b4⟩; have sA4 := sA.below b4; have sT4 := sT.below b4; have bW4 := below_trans bW b4; have u40 := sA4.cell 0 _ rfl; have z40 := sA4.free 0; have t40 := sT4.cell 0 _ rfl; have u41 := sA4.cell 1 _ rfl; have z41 := sA4.free 1; have t41 := sT4.cell 1 _ rfl; have u42 := sA4.cell 2 _ rfl; have z42 := sA4.free 2; have t42 := sT4.cell 2 _ rfl; have u43 := sA4.cell 3 _ rfl; have z43 := sA4.free 3; have t43 := sT4.cell 3 _ rfl) | (go_at_call 30; refine (cB _).mono ?_; rintro e q ⟨rfl, hw⟩; obtain rfl := hw.symm))
    have g9 := set4 sA4 (.int .i64 0) (.int .u32 0) (.string ⟨#[]⟩) (.int .i64 0)
    refine bodyPost_ret (res_row2 rfl _ _ w.heap.size 37 _ (0, 0) _ rfl g9 Try.underlying37 rfl (show _ = some 4 by kernel_rfl)) rfl ?_
    exact one_bad HO.out HQ.out (bset4 bW4 _ _ _ _ _ (Nat.le_refl _))

set_option maxHeartbeats 4000000 in
set_option maxRecDepth 100000 in
theorem w_one6t (v : Value) (a : Int) (r : List Int) (wide : Bool) (w : World) (h : Rd .u8 w v (a :: r)) (hB : bytesL (a :: r)) (hl : (a :: r).length ≤ 8192) (h16 : 16 ≤ a) (hk : bhF a = 6) (hge : ¬ (r.length : Int) < 1) (hge2 : ¬ (r.length : Int) < 1 + r.getD 0 0) (hlt : (r.length : Int) < 1 + r.getD 0 0 + 2) (hn : bePn 6 a wide r = none) :
    Calls Try.prog 23 #[v, .bool wide] w (OneP w (a :: r) wide) := by
  have hone1 := one_1 a r wide 6 (by omega) hk
  have hlen := rd_len h uB (P := Try.prog)
  have hLL : ((a :: r).length : Int) = r.length + 1 := by simp
  rw [hLL] at hlen
  have hrl : (r.length : Int) ≤ 8191 := by have : (a :: r).length = r.length + 1 := rfl; omega
  have hBr : bytesL r := fun x hx => hB x (by simp [hx])
  have hab := hB a (by simp)
  obtain ⟨ha0, ha1⟩ := hab
  obtain ⟨vr, rr, _, _, cut⟩ := rd_cut h uB zB 1 (a :: r).length (by simp) (Nat.le_refl _)
  rw [show (List.drop 1 (a :: r)) = r from rfl, List.take_of_length_le (by simp)] at rr
  have cut1 : ∀ w', (Instr.slice 24 v (some (.int .i64 1)) none none).run Try.prog w' = .ok vr w' := cut rfl
  have hlr := rd_len rr uB (P := Try.prog)
  clear cut hLL
  have cB := fun w => w_rbehind a w
  rw [hk] at cB
  rw [hn] at hone1
  have HK1 := hid hone1
  clear hn
  clear hone1 hk
  have hlz : ((r.length : Int) + 1 == 0) = false := by rw [beq_eq_false_iff_ne]; omega
  go_enter Try.func23, Try.ntmps23
  go_upto_region 4 with fail
  have bW : Below w.heap.size w ((w.alloc (.cells #[.int .i64 0, .int .u32 0, .string ⟨#[]⟩, .int .i64 0] 37)).alloc (.cells #[.int .i64 0, .int .u32 0, .string ⟨#[]⟩, .int .i64 0] 37)) := below_trans (box_below w _) (box_below _ _)
  have sA : Stands ((w.alloc (.cells #[.int .i64 0, .int .u32 0, .string ⟨#[]⟩, .int .i64 0] 37)).alloc (.cells #[.int .i64 0, .int .u32 0, .string ⟨#[]⟩, .int .i64 0] 37)) w.heap.size #[.int .i64 0, .int .u32 0, .string ⟨#[]⟩, .int .i64 0] 37 := (stands_new w _ _).below (box_below _ _)
  have sT : Stands ((w.alloc (.cells #[.int .i64 0, .int .u32 0, .string ⟨#[]⟩, .int .i64 0] 37)).alloc (.cells #[.int .i64 0, .int .u32 0, .string ⟨#[]⟩, .int .i64 0] 37)) (w.heap.size + 1) #[.int .i64 0, .int .u32 0, .string ⟨#[]⟩, .int .i64 0] 37 := by have := stands_new (w.alloc (.cells #[.int .i64 0, .int .u32 0, .string ⟨#[]⟩, .int .i64 0] 37)) #[.int .i64 0, .int .u32 0, .string ⟨#[]⟩, .int .i64 0] 37; rwa [size_al] at this
  generalize (w.alloc (.cells #[.int .i64 0, .int .u32 0, .string ⟨#[]⟩, .int .i64 0] 37)).alloc (.cells #[.int .i64 0, .int .u32 0, .string ⟨#[]⟩, .int .i64 0] 37) = W0 at bW sA sT ⊢
  obtain ⟨ad0, x0, i0, c0, _, _, g0⟩ := mem_at (h.below bW) hB 0 (by omega) (by simp only [List.length_cons]; omega)
  simp only [Int.toNat_zero, List.getD_cons_zero] at g0
  subst g0
  have t00 := sT.cell 0 _ rfl
  have t01 := sT.cell 1 _ rfl
  have t02 := sT.cell 2 _ rfl
  have t03 := sT.cell 3 _ rfl
  have y00 := sT.free 0
  have y01 := sT.free 1
  have y02 := sT.free 2
  have y03 := sT.free 3
  go_upto_region 6 with fail
  have sA1 := sA.other 0 (.int .i64 a) (show ¬ w.heap.size = w.heap.size + 1 by omega)
  have sT1 : Stands _ (w.heap.size + 1) #[.int .i64 a, .int .u32 0, .string ⟨#[]⟩, .int .i64 0] 37 := sT.set 0 (.int .i64 a)
  have bW1 := below_set bW (w.heap.size + 1) 0 (.int .i64 a) (by omega)
  clear t00 y00 t01 y01 t02 y02 t03 y03
  clear sA sT bW
  have sA := sA1
  have sT := sT1
  have bW := bW1
  clear sA1 sT1 bW1
  generalize W0.setCell ⟨w.heap.size + 1, 0, none⟩ (.int .i64 a) = W1 at sA sT bW ⊢
  have t10 := sT.cell 0 _ rfl
  have t11 := sT.cell 1 _ rfl
  have t12 := sT.cell 2 _ rfl
  have t13 := sT.cell 3 _ rfl
  have y10 := sT.free 0
  have y11 := sT.free 1
  have y12 := sT.free 2
  have y13 := sT.free 3
  obtain ⟨ad0, x0, ii0, cw0, lo0, hi0, gg0⟩ := mem_at rr hBr 0 (by omega) (by omega)
  have cc0 := below_cell bW cw0
  have gx : r.getD 0 0 = x0 := gg0
  rw [gx] at hge2 hlt
  clear gg0 gx
  obtain ⟨vs, rs, cuts, _, _⟩ := rd_cutI rr uB zB 1 (1 + x0) (by omega) (by omega) (by omega)
  have hcv := rd_strT (rs.below bW)
  have hsl : ((r.drop (1 : Int).toNat).take (1 + x0 - 1).toNat) = (r.drop 1).take x0.toNat := by rw [show (1 + x0 - 1).toNat = x0.toNat by omega]; rfl
  rw [hsl] at hcv
  have hST : ∃ ST, strOfNums ((r.drop 1).take x0.toNat) = ST := ⟨_, rfl⟩
  obtain ⟨ST, hST⟩ := hST
  rw [hST] at hcv
  have hLB : LB ST = (r.drop 1).take x0.toNat := by rw [← hST]; exact LB_nums _ (fun x hx => hBr x (List.mem_of_mem_drop (List.mem_of_mem_take hx)))
  have hSs : ST.size ≤ maxLen := by rw [← LB_len, hLB]; unfold maxLen; simp only [List.length_take, List.length_drop]; omega
  clear hLB hST hsl rs
  go_upto_region 45 with (first | (go_at_call 30; refine (cB _).mono ?_; rintro e q ⟨rfl, hw⟩; obtain rfl := hw.symm))
  have sA2 := sA.other 2 (.string ST) (show ¬ w.heap.size = w.heap.size + 1 by omega)
  have sT2 : Stands _ (w.heap.size + 1) #[.int .i64 a, .int .u32 0, .string ST, .int .i64 0] 37 := sT.set 2 (.string ST)
  have bW2 := below_set bW (w.heap.size + 1) 2 (.string ST) (by omega)
  clear t10 y10 t11 y11 t12 y12 t13 y13
  clear sA sT bW
  have sA := sA2
  have sT := sT2
  have bW := bW2
  clear sA2 sT2 bW2
  generalize W1.setCell ⟨w.heap.size + 1, 2, none⟩ (.string ST) = W2 at sA sT bW ⊢
  have t20 := sT.cell 0 _ rfl
  have t21 := sT.cell 1 _ rfl
  have t22 := sT.cell 2 _ rfl
  have t23 := sT.cell 3 _ rfl
  have y20 := sT.free 0
  have y21 := sT.free 1
  have y22 := sT.free 2
  have y23 := sT.free 3
  have u20 := sA.cell 0 _ rfl
  have z20 := sA.free 0
  have u21 := sA.cell 1 _ rfl
  have z21 := sA.free 1
  have u22 := sA.cell 2 _ rfl
  have z22 := sA.free 2
  have u23 := sA.cell 3 _ rfl
  have z23 := sA.free 3
  go_wp2_with (first | (go_at_call 30; refine (cB _).mono ?_; rintro e q ⟨rfl, hw⟩; obtain rfl := hw.symm))
  have g9 := set4 sA (.int .i64 0) (.int .u32 0) (.string ⟨#[]⟩) (.int .i64 0)
  refine bodyPost_ret (res_row2 rfl _ _ w.heap.size 37 _ (0, 0) _ rfl g9 Try.underlying37 rfl (show _ = some 4 by kernel_rfl)) rfl ?_
  exact one_none HK1.out (bset4 bW _ _ _ _ _ (Nat.le_refl _))

set_option maxHeartbeats 4000000 in
set_option maxRecDepth 100000 in
theorem w_one6 (v : Value) (a : Int) (r : List Int) (wide : Bool) (w : World) (h : Rd .u8 w v (a :: r)) (hB : bytesL (a :: r)) (hl : (a :: r).length ≤ 8192) (h16 : 16 ≤ a) (hk : bhF a = 6) (hge : ¬ (r.length : Int) < 1) (hge2 : ¬ (r.length : Int) < 1 + r.getD 0 0) (hge3 : ¬ (r.length : Int) < 1 + r.getD 0 0 + 2) (N : Int) (r2 : List Int) (hn : bePn 6 a wide r = some (⟨a, N, (r.drop 1).take (r.getD 0 0).toNat, 0⟩, r2)) (hN : N = r.getD (1 + r.getD 0 0).toNat 0 * 256 + r.getD (1 + r.getD 0 0 + 1).toNat 0) :
    Calls Try.prog 23 #[v, .bool wide] w (OneP w (a :: r) wide) := by
  have hone1 := one_1 a r wide 6 (by omega) hk
  have hlen := rd_len h uB (P := Try.prog)
  have hLL : ((a :: r).length : Int) = r.length + 1 := by simp
  rw [hLL] at hlen
  have hrl : (r.length : Int) ≤ 8191 := by have : (a :: r).length = r.length + 1 := rfl; omega
  have hBr : bytesL r := fun x hx => hB x (by simp [hx])
  have hab := hB a (by simp)
  obtain ⟨ha0, ha1⟩ := hab
  obtain ⟨vr, rr, _, _, cut⟩ := rd_cut h uB zB 1 (a :: r).length (by simp) (Nat.le_refl _)
  rw [show (List.drop 1 (a :: r)) = r from rfl, List.take_of_length_le (by simp)] at rr
  have cut1 : ∀ w', (Instr.slice 24 v (some (.int .i64 1)) none none).run Try.prog w' = .ok vr w' := cut rfl
  have hlr := rd_len rr uB (P := Try.prog)
  clear cut hLL
  have cB := fun w => w_rbehind a w
  rw [hk] at cB
  rw [hn] at hone1
  have HK1 := hid hone1
  clear hn
  clear hone1 hk
  have hlz : ((r.length : Int) + 1 == 0) = false := by rw [beq_eq_false_iff_ne]; omega
  go_enter Try.func23, Try.ntmps23
  go_upto_region 4 with fail
  have bW : Below w.heap.size w ((w.alloc (.cells #[.int .i64 0, .int .u32 0, .string ⟨#[]⟩, .int .i64 0] 37)).alloc (.cells #[.int .i64 0, .int .u32 0, .string ⟨#[]⟩, .int .i64 0] 37)) := below_trans (box_below w _) (box_below _ _)
  have sA : Stands ((w.alloc (.cells #[.int .i64 0, .int .u32 0, .string ⟨#[]⟩, .int .i64 0] 37)).alloc (.cells #[.int .i64 0, .int .u32 0, .string ⟨#[]⟩, .int .i64 0] 37)) w.heap.size #[.int .i64 0, .int .u32 0, .string ⟨#[]⟩, .int .i64 0] 37 := (stands_new w _ _).below (box_below _ _)
  have sT : Stands ((w.alloc (.cells #[.int .i64 0, .int .u32 0, .string ⟨#[]⟩, .int .i64 0] 37)).alloc (.cells #[.int .i64 0, .int .u32 0, .string ⟨#[]⟩, .int .i64 0] 37)) (w.heap.size + 1) #[.int .i64 0, .int .u32 0, .string ⟨#[]⟩, .int .i64 0] 37 := by have := stands_new (w.alloc (.cells #[.int .i64 0, .int .u32 0, .string ⟨#[]⟩, .int .i64 0] 37)) #[.int .i64 0, .int .u32 0, .string ⟨#[]⟩, .int .i64 0] 37; rwa [size_al] at this
  generalize (w.alloc (.cells #[.int .i64 0, .int .u32 0, .string ⟨#[]⟩, .int .i64 0] 37)).alloc (.cells #[.int .i64 0, .int .u32 0, .string ⟨#[]⟩, .int .i64 0] 37) = W0 at bW sA sT ⊢
  obtain ⟨ad0, x0, i0, c0, _, _, g0⟩ := mem_at (h.below bW) hB 0 (by omega) (by simp only [List.length_cons]; omega)
  simp only [Int.toNat_zero, List.getD_cons_zero] at g0
  subst g0
  have t00 := sT.cell 0 _ rfl
  have t01 := sT.cell 1 _ rfl
  have t02 := sT.cell 2 _ rfl
  have t03 := sT.cell 3 _ rfl
  have y00 := sT.free 0
  have y01 := sT.free 1
  have y02 := sT.free 2
  have y03 := sT.free 3
  go_upto_region 6 with fail
  have sA1 := sA.other 0 (.int .i64 a) (show ¬ w.heap.size = w.heap.size + 1 by omega)
  have sT1 : Stands _ (w.heap.size + 1) #[.int .i64 a, .int .u32 0, .string ⟨#[]⟩, .int .i64 0] 37 := sT.set 0 (.int .i64 a)
  have bW1 := below_set bW (w.heap.size + 1) 0 (.int .i64 a) (by omega)
  clear t00 y00 t01 y01 t02 y02 t03 y03
  clear sA sT bW
  have sA := sA1
  have sT := sT1
  have bW := bW1
  clear sA1 sT1 bW1
  generalize W0.setCell ⟨w.heap.size + 1, 0, none⟩ (.int .i64 a) = W1 at sA sT bW ⊢
  have t10 := sT.cell 0 _ rfl
  have t11 := sT.cell 1 _ rfl
  have t12 := sT.cell 2 _ rfl
  have t13 := sT.cell 3 _ rfl
  have y10 := sT.free 0
  have y11 := sT.free 1
  have y12 := sT.free 2
  have y13 := sT.free 3
  obtain ⟨ad0, x0, ii0, cw0, lo0, hi0, gg0⟩ := mem_at rr hBr 0 (by omega) (by omega)
  have cc0 := below_cell bW cw0
  have gx : r.getD 0 0 = x0 := gg0
  rw [gx] at hge2 hge3 HK1 hN
  clear gg0 gx
  obtain ⟨vs, rs, cuts, _, _⟩ := rd_cutI rr uB zB 1 (1 + x0) (by omega) (by omega) (by omega)
  have hcv := rd_strT (rs.below bW)
  have hsl : ((r.drop (1 : Int).toNat).take (1 + x0 - 1).toNat) = (r.drop 1).take x0.toNat := by rw [show (1 + x0 - 1).toNat = x0.toNat by omega]; rfl
  rw [hsl] at hcv
  have hST : ∃ ST, strOfNums ((r.drop 1).take x0.toNat) = ST := ⟨_, rfl⟩
  obtain ⟨ST, hST⟩ := hST
  rw [hST] at hcv
  have hLB : LB ST = (r.drop 1).take x0.toNat := by rw [← hST]; exact LB_nums _ (fun x hx => hBr x (List.mem_of_mem_drop (List.mem_of_mem_take hx)))
  have hSs : ST.size ≤ maxLen := by rw [← LB_len, hLB]; unfold maxLen; simp only [List.length_take, List.length_drop]; omega
  obtain ⟨ad1, x1, ii1, cw1, lo1, hi1, gg1⟩ := mem_at rr hBr (1 + x0) (by omega) (by omega)
  have cc1 := below_cell bW cw1
  obtain ⟨ad2, x2, ii2, cw2, lo2, hi2, gg2⟩ := mem_at rr hBr (1 + x0 + 1) (by omega) (by omega)
  have cc2 := below_cell bW cw2
  have HN : Hid (N = x1 * 256 + x2) := by show _ = _; rw [hN, gg1, gg2]
  have N0 : 0 ≤ N := by have := HN.out; omega
  have N1 : N < 4294967296 := by have := HN.out; omega
  rw [← hLB] at HK1
  clear hLB hST hsl rs hN gg1 gg2
  go_upto_region 45 with (first | (go_at_call 30; refine (cB _).mono ?_; rintro e q ⟨rfl, hw⟩; obtain rfl := hw.symm))
  have sA2 := sA.other 2 (.string ST) (show ¬ w.heap.size = w.heap.size + 1 by omega)
  have sT2 : Stands _ (w.heap.size + 1) #[.int .i64 a, .int .u32 0, .string ST, .int .i64 0] 37 := sT.set 2 (.string ST)
  have bW2 := below_set bW (w.heap.size + 1) 2 (.string ST) (by omega)
  clear t10 y10 t11 y11 t12 y12 t13 y13
  clear sA sT bW
  have sA := sA2
  have sT := sT2
  have bW := bW2
  clear sA2 sT2 bW2
  generalize W1.setCell ⟨w.heap.size + 1, 2, none⟩ (.string ST) = W2 at sA sT bW ⊢
  have t20 := sT.cell 0 _ rfl
  have t21 := sT.cell 1 _ rfl
  have t22 := sT.cell 2 _ rfl
  have t23 := sT.cell 3 _ rfl
  have y20 := sT.free 0
  have y21 := sT.free 1
  have y22 := sT.free 2
  have y23 := sT.free 3
  have cd1 := below_cell bW cw1
  have cd2 := below_cell bW cw2
  go_upto_region 48 with (first | (go_at_call 30; refine (cB _).mono ?_; rintro e q ⟨rfl, hw⟩; obtain rfl := hw.symm))
  go_region
  rw [show x1 * 256 + x2 = N from HN.out.symm]
  have bd : Below (W2.setCell ⟨w.heap.size + 1, 1, none⟩ (.int .u32 (N))).heap.size (W2.setCell ⟨w.heap.size + 1, 1, none⟩ (.int .u32 (N))) (W2.setCell ⟨w.heap.size + 1, 1, none⟩ (.int .u32 (N))).drew := below_drewN (Below.refl _ _) 1
  have sA3 := (sA.other 1 (.int .u32 (N)) (show ¬ w.heap.size = w.heap.size + 1 by omega)).below bd
  have sT3 : Stands _ (w.heap.size + 1) #[.int .i64 a, .int .u32 N, .string ST, .int .i64 0] 37 := (sT.set 1 (.int .u32 (N))).below bd
  have bW3 := below_trans (below_set bW (w.heap.size + 1) 1 (.int .u32 (N)) (by omega)) bd
  clear t20 y20 t21 y21 t22 y22 t23 y23
  clear sA sT bW bd
  have sA := sA3
  have sT := sT3
  have bW := bW3
  clear sA3 sT3 bW3
  generalize (W2.setCell ⟨w.heap.size + 1, 1, none⟩ (.int .u32 (N))).drew = W3 at sA sT bW ⊢
  have t30 := sT.cell 0 _ rfl
  have t31 := sT.cell 1 _ rfl
  have t32 := sT.cell 2 _ rfl
  have t33 := sT.cell 3 _ rfl
  have y30 := sT.free 0
  have y31 := sT.free 1
  have y32 := sT.free 2
  have y33 := sT.free 3
  have hone : oneP _ wide = some (⟨a, N, LB ST, 0⟩, _) := HK1.out
  have HO := hid hone
  have cY := fun w => w_rbytes (a) (N) (0) (ST) wide w N0 N1 (by omega) (by omega) hSs
  clear hone
  cases hq : okQ ⟨a, N, LB ST, 0⟩ wide with
  | true =>
    rw [hq] at cY
    have HQ := hid hq
    clear hq
    go_wp2_with (first | (go_at_call 21; refine (cY _).mono ?_; rintro e w4 ⟨v4, rfl, o4, b4⟩; have sA4 := sA.below b4; have sT4 := sT.below b4; have bW4 := below_trans bW b4; have u40 := sA4.cell 0 _ rfl; have z40 := sA4.free 0; have t40 := sT4.cell 0 _ rfl; have u41 := sA4.cell 1 _ rfl; have z41 := sA4.free 1; have t41 := sT4.cell 1 _ rfl; have u42 := sA4.cell 2 _ rfl; have z42 := sA4.free 2; have t42 := sT4.cell 2 _ rfl; have u43 := sA4.cell 3 _ rfl; have z43 := sA4.free 3; have t43 := sT4.cell 3 _ rfl; have q4 : OwB W3.heap.size w4 v4 (byQ ⟨a, N, LB ST, 0⟩ wide) := (by first | exact o4 rfl | exact o4 trivial | exact o4); have hl4 := rd_len (Rd_own q4).1 uB (P := Try.prog)) | (go_at_call 30; refine (cB _).mono ?_; rintro e q ⟨rfl, hw⟩; obtain rfl := hw.symm))
    have g9 := set4 sA4 (.int .i64 (a)) (.int .u32 (N)) (.string (ST)) (.int .i64 (0))
    refine bodyPost_ret (res_row2 rfl _ _ w.heap.size 37 _ (0, 0) _ rfl g9 Try.underlying37 rfl (show _ = some 4 by kernel_rfl)) rfl ?_
    have e9 : (tqC ⟨a, N, LB ST, 0⟩).toArray = #[.int .i64 (a), .int .u32 (N), .string (ST), .int .i64 (0)] := by simp [tqC, nums_LB]
    have f9 := one_good HO.out HQ.out (bset4 bW4 _ (.int .i64 (a)) (.int .u32 (N)) (.string (ST)) (.int .i64 (0)) (Nat.le_refl _))
    rw [e9] at f9
    exact f9
  | false =>
    rw [hq] at cY
    have HQ := hid hq
    clear hq
    go_wp2_with (first | (go_at_call 21; refine (cY _).mono ?_; rintro e w4 ⟨v4, rfl, o4, b4⟩; have sA4 := sA.below b4; have sT4 := sT.below b4; have bW4 := below_trans bW b4; have u40 := sA4.cell 0 _ rfl; have z40 := sA4.free 0; have t40 := sT4.cell 0 _ rfl; have u41 := sA4.cell 1 _ rfl; have z41 := sA4.free 1; have t41 := sT4.cell 1 _ rfl; have u42 := sA4.cell 2 _ rfl; have z42 := sA4.free 2; have t42 := sT4.cell 2 _ rfl; have u43 := sA4.cell 3 _ rfl; have z43 := sA4.free 3; have t43 := sT4.cell 3 _ rfl) | (go_at_call 30; refine (cB _).mono ?_; rintro e q ⟨rfl, hw⟩; obtain rfl := hw.symm))
    have g9 := set4 sA4 (.int .i64 0) (.int .u32 0) (.string ⟨#[]⟩) (.int .i64 0)
    refine bodyPost_ret (res_row2 rfl _ _ w.heap.size 37 _ (0, 0) _ rfl g9 Try.underlying37 rfl (show _ = some 4 by kernel_rfl)) rfl ?_
    exact one_bad HO.out HQ.out (bset4 bW4 _ _ _ _ _ (Nat.le_refl _))

end Go.Proofs.Ytbllblikigogoaa
